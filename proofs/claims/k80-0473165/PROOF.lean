import PyProof.Rows.All
import Wide.All
import OpenK.AllK
import Wide.FinOn
import Lean
import PyProof.EqAt
import PyProof.EqKinds
import PyProof.TupleCall
import PyProof.ZipIter
import PyProof.Draws
import PyProof.SumAny
import PyProof.EnumMake
import PyProof.WalkInts
import PyProof.ExcArgsOwn
import PyProof.ExcAttrAll.ValueError
import PyProof.NsDelKeeps
import KE.KTryMore
import OpenK.KOwn
import PyProof.ListMulRoad
import PyProof.FactsAll.tuple_2
import PyProof.NeKinds
import PyProof.Rows.RuleIs
import PyProof.ExcInit
import PyProof.ExcClass3
import OpenK.KCls
import PyProof.InstStoreFacts
import OpenK.KMake
import PyProof.DictRoads
import PyProof.Rows.CountFlat
import PyProof.ListRange
import PyProof.Rows.SetFrom
import PyProof.CollectStr
import PyProof.Rows.TupMore
import PyProof.AttrMissHeap
import KE.KDictOf
import PyProof.DictWalks
import KE.KSortTup
import PyProof.DictItemsLoops
import KE.KDictList
import PyProof.CallStr
import PyProof.StrWalks
import PyProof.StrOps
import PyProof.StrCalls2
import KE.KRevIter
import PyProof.Rows.StrOrd
import PyProof.Rows.StrNews
import PyProof.JoinWalk
import PyProof.CollectIter
import PyProof.Conv_int
import PyProof.FactsAll.str
import PyProof.Conv_int_bool
import PySem.Challenge.RW_lendwharf_k80_whole_steps_carried_out
open Lean Parser Command in
local macro_rules|`(command|def $i:declId $s:optDeclSig $v:declVal)=>`(command|noncomputable def $i $s:optDeclSig $v:declVal)
open Lean Parser Command in
local macro_rules|`(command|abbrev $i:declId $s:optDeclSig $v:declVal)=>`(command|noncomputable abbrev $i $s:optDeclSig $v:declVal)
set_option Elab.async false
set_option linter.all false
set_option maxRecDepth 100000
set_option maxHeartbeats 4000000
open PySem.Heap renaming get?_push_of_some -> O0, lt_size -> O8, get?_push_size -> D6, get?_update_other -> F3, size_push -> F9, get?_update_self -> L8
open List renaming getElem?_eq_some_iff -> O1, length_map -> O2, getElem?_eq_getElem -> O3, size_toArray -> O5, mem_cons_of_mem -> O6, getElem?_append_left -> O9, length_append -> D0, length_cons -> D2, mem_cons_self -> D3, mem_range -> D4, getElem?_set_ne -> D5, getElem?_set_self -> D7, getD_eq_getElem?_getD -> D9, getElem?_append_right -> E2, getElem?_map -> E3, mem_of_getElem? -> E4, lookup_cons -> E5, mem_cons -> E7, mem_append_right -> E8, getElem?_eq_none -> E9, all_eq_true -> F0, length_set -> F2, length_range -> F4, getElem?_range -> F5, mem_append -> F7, getElem?_replicate -> F8, map_append -> G6, mem_append_left -> G7, map_cons -> G8, append_nil -> G9, append_assoc -> L5, replicate_succ -> L6, length_replicate -> L7, map_map -> L9
open Nat renaming le_refl -> O4, le_of_lt -> O7, lt_of_lt_of_le -> D1, ne_of_lt -> E6, le_trans -> F1
open Bool renaming false_ne_true -> D8, and_eq_true -> F6
open PySem renaming Addr -> aA, Value -> aB, Shared -> aC, wpAny_bind -> aD, Expr -> aF, wpAny -> aI, model -> aJ, Stmt -> aK, eval -> aL, starEach -> aM, World -> aN, FuncData -> aO, Program -> aP, Around -> aQ, mainGlobals -> aR, backTo -> aS, compareOp -> aU, cLine -> aV, bootBuiltins -> aW, wpAny_field -> aX, IsPair -> aY, rawInt -> aZ, binaryOp -> aa, wpAny_mono -> ae, cellsFrom -> af, holding -> ag, attributeBase -> ai, NameKind -> aj, assignEach -> ao, wpAny_truthy_bool -> aq, wpAny_seqItems -> ar, sysModules -> au, foldedSetIterable -> av, wpAny_newObj_type -> aw, wpAny_call_entry -> ay, pyNext -> az, call_meets -> bA, wpAny_holding -> bB, wpAny_passesOwn -> bC, sliceBounds -> bD, Paired -> bE, behindInMarks -> bF, codeAny_mono -> bG, wpAny_setField_rec -> bH, wpAny_rule -> bI, wpAny_pyIter_tuple -> bJ, wpAny_typeOf -> bK, wpAny_isInstance -> bL
noncomputable section
theorem bM {c:Prop}{h:Decidable c}(hc:c){α:Sort _}{t e:α}:ite c t e=t:=if_pos hc
theorem bN {c:Prop}{h:Decidable c}(hc:¬c){α:Sort _}{t e:α}:ite c t e=e:=if_neg hc
theorem bO {p:Prop}[i:Decidable p](h:¬p):decide p=false:=decide_eq_false h
theorem bP {p:Prop}[i:Decidable p](h:p):decide p=true:=decide_eq_true h
namespace L2
open PySem PySem.Spec PyProof.Rows
variable {a b it dx:aA} {α:Type} {us:List aB} {u:aB} {g':Array GenState} {t' n:Nat} {d':Drawn} {ch fp:List aA} {M:Model} {A:aQ} {E:aB->aC->Prop} {Q:Unit->aC->Prop} {s':aC} {K:PySem.W.Frag} {c tg l:aF} {es:List aF} {g:Int->Int->Int} {f:aB->aB->Sem aB} {op:CmpOp} {mA mg:Str->Option aB} {kw:List (Str × aB)} {fd:aO} {ps:List Str}
section
abbrev Key:=Sum Int Str
def Ki:Key->aB->Bool
 | .inl k,v=>Value.isInt k v
 | .inr x,v=>Value.isStrOf x v
def Qzs (w:aN):Key->Int
 | .inl k=>hashInt k
 | .inr x=>hashStr w x
theorem Yx:∀ {k:Key} {v:aB},Ki k v=true->(∃ i t,k=Sum.inl i/\v=Value.int i t)\/(∃ x t,k=Sum.inr x/\v=Value.str x t)
 | .inl i,v,h=>by
  obtain ⟨t,e⟩:=Value.isInt_shape (k:=i) (v:=v) h;exact .inl ⟨i,t,rfl,e⟩
 | .inr x,v,h=>by
  obtain ⟨t,e⟩:=Value.isStrOf_shape (x:=x) (v:=v) h;exact .inr ⟨x,t,rfl,e⟩
theorem Q7y (i:Int) (t:Tok):Ki (.inl i) (.int i t)=true:=by simp [Ki,Value.isInt]
theorem Q7x (x:Str) (t:Tok):Ki (.inr x) (.str x t)=true:=by simp [Ki,Value.isStrOf]
theorem Qtu (a b:Int):decide ((Sum.inl a:Key)=Sum.inl b)=(a == b):=by
 by_cases e:a=b
 ·subst e; simp
 ·have h:¬ (Sum.inl a:Key)=Sum.inl b:=fun q=>e (Sum.inl.inj q)
  rw [bO h];exact (beq_eq_false_iff_ne.mpr e).symm
theorem Qtr (a b:Str):decide ((Sum.inr a:Key)=Sum.inr b)=decide (a=b):=by
 by_cases e:a=b
 ·subst e; simp
 ·have h:¬ (Sum.inr a:Key)=Sum.inr b:=fun q=>e (Sum.inr.inj q)
  rw [bO h,bO e]
theorem Qtt (a:Int) (b:Str):decide ((Sum.inl a:Key)=Sum.inr b)=false:=bO (fun q=>nomatch q)
theorem Qts (a:Str) (b:Int):decide ((Sum.inr a:Key)=Sum.inl b)=false:=bO (fun q=>nomatch q)
def Qu (prog:aP) (w:aN):PySem.KeyKind prog w Key where
 is:=Ki
 hash:=Qzs w
 inj:=fun v a b ha hb=>by
  rcases Yx ha with ⟨i,t,rfl,rfl⟩ | ⟨x,t,rfl,rfl⟩
  ·rcases Yx hb with ⟨j,u,rfl,e⟩ | ⟨y,u,rfl,e⟩
   ·injection e with e1 _; rw [e1]
   ·exact nomatch e
  ·rcases Yx hb with ⟨j,u,rfl,e⟩ | ⟨y,u,rfl,e⟩
   ·exact nomatch e
   ·injection e with e1 _; rw [e1]
 byValue:=fun k v h=>by
  rcases Yx h with ⟨i,t,rfl,rfl⟩ | ⟨x,t,rfl,rfl⟩ <;> rfl
 pyHash:=fun hv h=>by
  rcases Yx hv with ⟨i,t,rfl,rfl⟩ | ⟨x,t,rfl,rfl⟩
  ·exact wpAny_pyHash_int h
  ·exact wpAny_pyHash_str h
 eqBool:=fun hu hv h=>by
  rcases Yx hu with ⟨i,t,rfl,rfl⟩ | ⟨x,t,rfl,rfl⟩
  ·rcases Yx hv with ⟨j,u,rfl,rfl⟩ | ⟨y,u,rfl,rfl⟩
   ·rw [Qtu] at h; exact wpAny_eqBool_int h
   ·rw [Qtt] at h; exact SeqAt.EqAt.int_str i t y u _ _ _ _ h
  ·rcases Yx hv with ⟨j,u,rfl,rfl⟩ | ⟨y,u,rfl,rfl⟩
   ·rw [Qts] at h; exact SeqAt.EqAt.str_int x t j u _ _ _ _ h
   ·rw [Qtr] at h; exact wpAny_eqBool_str h
 «strs»:=fun k x t v h=>by
  rcases Yx h with ⟨i,u,rfl,e⟩ | ⟨y,u,rfl,e⟩
  ·exact nomatch e
  ·injection e with e1 _
   subst e1;cases v <;> rfl
inductive HK where
 | int (i:Int) | str (x:Str) | tup (l:List HK)
instance:DecidableEq HK:=fun _ _=>Classical.propDecidable _
mutual
def KIs (h:Heap):HK->aB->Prop
 | .int i,v=>∃ t,v=.int i t
 | .str x,v=>∃ t,v=.str x t
 | .tup l,v=>∃ a items,v=.ref a/\IsTup h a items/\KIsL h l items.toList
def KIsL (h:Heap):List HK->List aB->Prop
 | [],vs=>vs=[]
 | k :: l,vs=>∃ v r,vs=v :: r/\KIs h k v/\KIsL h l r
end
def Dp:Nat->HK->Prop
 | _,.int _=>True
 | _,.str _=>True
 | 0,.tup _=>False
 | d + 1,.tup l=>∀ k∈l,Dp d k
theorem KIsL.len {h:Heap}:∀ {l:List HK} {vs:List aB},KIsL h l vs->l.length=vs.length
 | [],_,r=>by cases r; rfl
 | k :: l,_,⟨v,r,e,_,q⟩=>by subst e; rw [D2,D2,q.len]
theorem KIsL.get {h:Heap}:∀ {l:List HK} {vs:List aB},KIsL h l vs->∀ (j:Nat) (h1:j < l.length) (h2:j < vs.length),KIs h l[j] vs[j]
 | [],_,_,j,h1,_=>by simp at h1
 | k :: l,_,⟨v,r,e,q,t⟩,0,h1,h2=>by subst e; exact q
 | k :: l,_,⟨v,r,e,q,t⟩,j + 1,h1,h2=>by subst e; exact t.get j (by simpa using h1) (by simpa using h2)
theorem KIsL.of {h h':Heap}:∀ {l:List HK} {vs:List aB},KIsL h l vs->(∀ k v,k∈l->KIs h k v->KIs h' k v)->KIsL h' l vs
 | [],_,r,_=>r
 | k :: l,_,⟨v,r,e,q,t⟩,f=>⟨v,r,e,f k v (by simp) q,t.of fun k v hk=>f k v (O6 _ hk)⟩
theorem KIs.keep {h h':Heap} (hk:∀ a its,IsTup h a its->IsTup h' a its):∀ (d:Nat) {k:HK} {v:aB},Dp d k->KIs h k v->KIs h' k v
 | d,.int _,_,_,r=>r
 | d,.str _,_,_,r=>r
 | 0,.tup _,_,p,_=>p.elim
 | d + 1,.tup l,_,p,⟨a,its,e,i,r⟩=>⟨a,its,e,hk a its i,r.of fun k v hm=>KIs.keep hk d (p k hm)⟩
theorem Qhc {h:Heap} {x y:Array aB} (p:IsTup h a x) (q:IsTup h a y):x=y:=by
 obtain ⟨o,h1,h2,n,h3⟩:=p;obtain ⟨o',g1,g2,n',g3⟩:=q;rw [h1] at g1; cases g1;rw [h3] at g3; cases g3; rfl
theorem KIs.inj {h:Heap}:∀ (d:Nat) {x y:HK} {v:aB},Dp d x->Dp d y->KIs h x v->KIs h y v->x=y:=by
 intro d
 induction d with
 | zero=>
  intro x y v dx dy p q;cases x with
  | tup l=>exact dx.elim
  | int i=>
   obtain ⟨t,rfl⟩:=p;cases y with
   | tup l=>exact dy.elim
   | int j=>obtain ⟨u,e⟩:=q; cases e; rfl
   | str j=>obtain ⟨u,e⟩:=q; cases e
  | str i=>
   obtain ⟨t,rfl⟩:=p;cases y with
   | tup l=>exact dy.elim
   | int j=>obtain ⟨u,e⟩:=q; cases e
   | str j=>obtain ⟨u,e⟩:=q; cases e; rfl
 | succ d ih=>
  intro x y v dx dy p q;cases x with
  | int i=>
   obtain ⟨t,rfl⟩:=p;cases y with
   | tup l=>obtain ⟨_,_,e,_⟩:=q; cases e
   | int j=>obtain ⟨u,e⟩:=q; cases e; rfl
   | str j=>obtain ⟨u,e⟩:=q; cases e
  | str i=>
   obtain ⟨t,rfl⟩:=p;cases y with
   | tup l=>obtain ⟨_,_,e,_⟩:=q; cases e
   | int j=>obtain ⟨u,e⟩:=q; cases e
   | str j=>obtain ⟨u,e⟩:=q; cases e; rfl
  | tup l=>
   obtain ⟨a,its,rfl,p1,p2⟩:=p;cases y with
   | int j=>obtain ⟨u,e⟩:=q; cases e
   | str j=>obtain ⟨u,e⟩:=q; cases e
   | tup m=>
    obtain ⟨b,jts,e,q1,q2⟩:=q;cases e;have e:=Qhc p1 q1;subst e;have l1:=p2.len;have l2:=q2.len;congr 1;refine List.ext_getElem (by omega) fun j h1 h2=>?_
    exact ih (dx _ (List.getElem_mem h1)) (dy _ (List.getElem_mem h2)) (p2.get j h1 (by omega)) (q2.get j h2 (by omega))
theorem Qq7 [DecidableEq α] (d:α) (xs ys:List α):((List.range (min xs.length ys.length)).all (fun j=>decide (xs.getD j d=ys.getD j d)) && xs.length == ys.length)=decide (xs=ys):=by
 rw [Bool.eq_iff_iff];simp only [F6,F0,D4,decide_eq_true_eq,beq_iff_eq];constructor
 ·rintro ⟨h,e⟩;refine List.ext_getElem e fun i h1 h2=>?_
  have:=h i (by omega);simpa [D9,h1,h2] using this
 ·rintro rfl;simp
section
variable {prog:aP} {w:aN}
mutual
def hkH (prog:aP) (w:aN):HK->Int
 | .int i=>(Qu prog w).hash (.inl i)
 | .str x=>(Qu prog w).hash (.inr x)
 | .tup l=>reduceHash (Builtin.Tuple.tupleHashOf (hkHL prog w l))
def hkHL (prog:aP) (w:aN):List HK->List Int
 | []=>[]
 | k :: l=>hkH prog w k :: hkHL prog w l
end
mutual
def hkD:HK->Nat
 | .int _=>1
 | .str _=>1
 | .tup l=>hkDL l + 1
def hkDL:List HK->Nat
 | []=>0
 | k :: l=>hkD k + hkDL l
end
theorem Qjs (l:List HK):hkHL prog w l=l.map (hkH prog w):=by
 induction l with
 | nil=>rfl
 | cons k l ih=>rw [hkHL,ih]; rfl
theorem Qjt (l m:List HK):hkDL (l ++ m)=hkDL l + hkDL m:=by
 induction l with
 | nil=>simp [hkDL]
 | cons k l ih=>rw [List.cons_append,hkDL,hkDL,ih]; omega
variable {A:aQ} {E:aB->aC->Prop}
theorem Qq6 (xs ys:List HK):((List.range (min xs.length ys.length)).all (fun j=>decide (xs.getD j (.int 0)=ys.getD j (.int 0))) && xs.length == ys.length)=decide (xs=ys):=Qq7 (.int 0) xs ys
theorem Qpp:∀ (d:Nat) {A:aQ} {s:aC} {k:HK} {v:aB} {Q:Int->aC->Prop},Dp d k->A.units + d < aV->KIs s.heap k v->Q (hkH prog w k) { s with toks:=s.toks + hkD k } ->
  aI (aJ prog w) A (pyHash v) Q E s:=by
 intro d
 induction d with
 | zero=>
  intro A s k v Q dk hu r q;cases k with
  | tup l=>exact dk.elim
  | int i=>obtain ⟨t,rfl⟩:=r; exact (Qu prog w).pyHash (k:=.inl i) (Q7y i t) q
  | str i=>obtain ⟨t,rfl⟩:=r; exact (Qu prog w).pyHash (k:=.inr i) (Q7x i t) q
 | succ d ih=>
  intro A s k v Q dk hu r q;cases k with
  | int i=>obtain ⟨t,rfl⟩:=r; exact (Qu prog w).pyHash (k:=.inl i) (Q7y i t) q
  | str i=>obtain ⟨t,rfl⟩:=r; exact (Qu prog w).pyHash (k:=.inr i) (Q7x i t) q
  | tup ks=>
   obtain ⟨a,items,rfl,⟨o,ho,hc,n,hd⟩,hi⟩:=r;have hT:s.TypeIs (.ref a) "tuple" := ⟨o,ho,hc⟩;have hu0:A.units < aV:=by omega
   unfold pyHash;unfold pyHashByItsType;have nb:¬ (some (Value.builtin "tuple.__hash__") == some Value.none)=true:=by rw [beq_builtin_none]; exact D8
   have sp {Q:Option aB->aC->Prop} (h:Q (some (.builtin "tuple.__hash__")) s):aI (aJ prog w) A (specialOf (.ref a) "__hash__") Q E s:=wpAny_specialOf hT F.slot_tuple_hash.lookup h;refine aD (wpAny_cRoomFor_or (.inr hu0) (aD (sp ?_)));show aI _ _ (if (some (Value.builtin "tuple.__hash__") == some Value.none)=true then _ else _) _ _ _;rw [bN nb];refine aD (sp (aD (wpAny_callSpecialIfBoundUnlessNone?_slot hT F.slot_tuple_hash (ay F.slot_tuple_hash hT F.entry_tuple_hash ?_ (F.args_tuple_hash_1 _)))));show aI _ A.in1 (Builtin.Tuple.tupleItemsOf (.ref a) >>= _) _ _ s;refine aD (wpAny_tupleItemsOf ho hd (aD ?_));rw [<- Array.forIn_toList];have hin:A.in1.units + d < aV:=by show A.units + 1 + d < aV; omega
   refine wpAny_forIn_list _ (fun rest (b:Array Int) s'=>∃ dn lf,ks=dn ++ lf/\KIsL s.heap lf rest/\b.toList=dn.map (hkH prog w)/\s'={ s with toks:=s.toks + hkDL dn }) _ ?_ ?_ _ _ ⟨[],ks,rfl,hi,rfl,rfl⟩
   ·rintro x rest b s' ⟨dn,lf,rfl,hl,hb,rfl⟩;cases lf with
    | nil=>cases hl
    | cons k lf=>
     obtain ⟨v,r,e,h1,h2⟩:=hl;cases e;refine aD (ih (s:={ s with toks:=s.toks + hkDL dn }) (dk k (by simp)) hin h1 ?_);exact wpAny_pure ⟨dn ++ [k],lf,by simp,h2,by simp [hb],by simp [Qjt,hkDL,Nat.add_assoc]⟩
   ·rintro b s' ⟨dn,lf,rfl,hl,hb,rfl⟩;cases lf with
    | cons k lf=>obtain ⟨_,_,e,_⟩:=hl; cases e
    | nil=>
     rw [G9] at q;show aI _ _ (retInt (Builtin.Tuple.tupleHashOf b.toList)) _ _ _;rw [hb,<- Qjs];refine wpAny_ret_mkInt ?_;have q:Q (reduceHash (Builtin.Tuple.tupleHashOf (hkHL prog w dn))) { s with toks:=s.toks + (hkDL dn + 1) }:=q;generalize Builtin.Tuple.tupleHashOf (hkHL prog w dn)=z at *;show aI _ _ (if (decide (-(2:Int) ^ 63<=z) && decide (z < 2 ^ 63))=true then _ else _) Q E _;unfold reduceHash at q
     split
     ·rename_i hr;rw [bM hr] at q;exact wpAny_pure (by simpa [Nat.add_assoc] using q)
     ·rename_i hr;rw [bN hr] at q;exact aD (bI (wpAny_pure (by simpa [Nat.add_assoc] using q)))
theorem Qx4:∀ (d:Nat) {A:aQ} {s:aC} {x y:HK} {u v:aB},Dp d x->Dp d y->A.units + d < aV->KIs s.heap x u->KIs s.heap y v->SeqAt.EqAt A s u v (decide (x=y)):=by
 intro d;have leaf:∀ {A:aQ} {s:aC} {x y:HK} {u v:aB},(∀ l,x≠.tup l)->(∀ l,y≠.tup l)->KIs s.heap x u->KIs s.heap y v->SeqAt.EqAt A s u v (decide (x=y)):=by
  intro A s x y u v nx ny p q;cases x with
  | tup l=>exact absurd rfl (nx l)
  | int i=>
   obtain ⟨t,rfl⟩:=p;cases y with
   | tup l=>exact absurd rfl (ny l)
   | int j=>
    obtain ⟨t',rfl⟩:=q;have:=SeqAt.EqAt.int_int (A:=A) (s:=s) i t j t'
    rwa [show (i == j)=decide (HK.int i=HK.int j) by by_cases e:i=j <;> simp [e]] at this
   | str j=>
    obtain ⟨t',rfl⟩:=q;rw [bO (by simp)];exact SeqAt.EqAt.int_str _ _ _ _
  | str i=>
   obtain ⟨t,rfl⟩:=p;cases y with
   | tup l=>exact absurd rfl (ny l)
   | int j=>
    obtain ⟨t',rfl⟩:=q;rw [bO (by simp)];exact SeqAt.EqAt.str_int _ _ _ _
   | str j=>
    obtain ⟨t',rfl⟩:=q;have:=SeqAt.EqAt.str_str (A:=A) (s:=s) i t j t'
    rwa [show (i == j)=decide (HK.str i=HK.str j) by by_cases e:i=j <;> simp [e]] at this
 induction d with
 | zero=>
  intro A s x y u v dx dy hu p q;exact leaf (fun l e=>by subst e; exact dx) (fun l e=>by subst e; exact dy) p q
 | succ d ih=>
  intro A s x y u v dx dy hu p q;have hu0:A.units < aV:=by omega
  cases x with
  | tup l=>
   obtain ⟨a,its,rfl,p1,p2⟩:=p;cases y with
   | int j=>
    obtain ⟨t',rfl⟩:=q;rw [bO (by simp)];exact SeqAt.EqAt.tuple_int _ _ p1 hu0
   | str j=>
    obtain ⟨t',rfl⟩:=q;rw [bO (by simp)];exact SeqAt.EqAt.tuple_str _ _ p1 hu0
   | tup m=>
    obtain ⟨b,jts,rfl,q1,q2⟩:=q
    by_cases e:a=b
    ·subst e;have e:=KIs.inj (d + 1) (h:=s.heap) dx dy ⟨a,its,rfl,p1,p2⟩ ⟨a,jts,rfl,q1,q2⟩;rw [bP e];exact SeqAt.EqAt.same _
    ·have l1:=p2.len;have l2:=q2.len;have he:∀ j (h1:j < its.size) (h2:j < jts.size),SeqAt.EqAt A.in1 s its[j] jts[j] (decide (l.getD j (.int 0)=m.getD j (.int 0))):=fun j h1 h2=>by
      have k1:j < l.length:=by rw [l1,Array.length_toList]; exact h1
      have k2:j < m.length:=by rw [l2,Array.length_toList]; exact h2
      have e1:l.getD j (.int 0)=l[j]:=by rw [D9,O3 k1]; rfl
      have e2:m.getD j (.int 0)=m[j]:=by rw [D9,O3 k2]; rfl
      rw [e1,e2];exact ih (dx _ (List.getElem_mem k1)) (dy _ (List.getElem_mem k2)) (by show A.units + 1 + d < aV; omega) (p2.get j k1 (by simpa using h1)) (q2.get j k2 (by simpa using h2))
     have rc:=SeqAt.RcAt.tuples p1 q1 hu0 he;have s1:its.size=l.length:=by rw [l1,Array.length_toList]
     have s2:jts.size=m.length:=by rw [l2,Array.length_toList]
     rw [s1,s2,Qq6] at rc;exact SeqAt.EqAt.of_refs e (by simpa using rc)
  | int i=>
   cases y with
   | tup m=>
    obtain ⟨t',rfl⟩:=p;obtain ⟨b,jts,rfl,q1,q2⟩:=q;rw [bO (by simp)];exact SeqAt.EqAt.int_tuple _ _ q1 hu0
   | _=>exact leaf (by simp) (by simp) p q
  | str i=>
   cases y with
   | tup m=>
    obtain ⟨t',rfl⟩:=p;obtain ⟨b,jts,rfl,q1,q2⟩:=q;rw [bO (by simp)];exact SeqAt.EqAt.str_tuple _ _ q1 hu0
   | _=>exact leaf (by simp) (by simp) p q
theorem Qjr:∀ (d:Nat) {A:aQ} {s:aC} {k:HK} {v:aB} {Q:Bool->aC->Prop} (m:Nat),d < m->Dp d k->KIs s.heap k v->Q true s->aI (aJ prog w) A (eqIsQuiet m v) Q E s:=by
 intro d;have leaf:∀ {A:aQ} {s:aC} {v:aB} {Q:Bool->aC->Prop} (m:Nat),carriedByValue v=true->Q true s->aI (aJ prog w) A (eqIsQuiet m v) Q E s:=by
  intro A s v Q m hv q;rw [eqIsQuiet_byValue m hv];exact wpAny_pure q
 induction d with
 | zero=>
  intro A s k v Q m hm dk r q;cases k with
  | tup l=>exact dk.elim
  | int i=>obtain ⟨t,rfl⟩:=r; exact leaf m rfl q
  | str i=>obtain ⟨t,rfl⟩:=r; exact leaf m rfl q
 | succ d ih=>
  intro A s k v Q m hm dk r q;cases k with
  | int i=>obtain ⟨t,rfl⟩:=r; exact leaf m rfl q
  | str i=>obtain ⟨t,rfl⟩:=r; exact leaf m rfl q
  | tup ks=>
   obtain ⟨a,items,rfl,⟨o,ho,hc,n,hd⟩,hi⟩:=r;have hT:s.TypeIs (.ref a) "tuple" := ⟨o,ho,hc⟩;obtain ⟨m,rfl⟩:∃ m',m=m' + 1:=⟨m - 1,by omega⟩;unfold eqIsQuiet;refine aD (wpAny_specialOf hT F.slot_tuple_eq.lookup ?_);show aI _ _ (isInstance (.ref a) (.type "tuple") >>= _) _ _ s;refine aD (bL hT isSubtype_tuple_tuple ?_);simp only [Bool.not_true,Bool.false_eq_true,if_false];refine aD (ar ho hd (aD ?_));show aI _ _ (forIn items _ _) _ _ s;rw [<- Array.forIn_toList];refine wpAny_forIn_list _ (fun rest r s'=>r.1=none/\s'=s/\∃ l,KIsL s.heap l rest/\∀ k∈l,k∈ks) _ ?_ ?_ _ _ ⟨rfl,rfl,ks,hi,fun _ h=>h⟩
   ·rintro v rest r s' ⟨hr,rfl,l,hl,hall⟩;cases l with
    | nil=>cases hl
    | cons k l=>
     obtain ⟨v',r',e,h1,h2⟩:=hl;cases e;refine aD (ih m (by omega) (dk k (hall k (by simp))) h1 ?_);simp only [Bool.not_true,Bool.false_eq_true,if_false];exact wpAny_pure ⟨rfl,rfl,l,h2,fun x hx=>hall x (O6 _ hx)⟩
   ·rintro ⟨r1,r2⟩ s' ⟨hr,rfl,_⟩;simp only at hr;subst hr;exact wpAny_pure q
def nk (prog:aP) (w:aN):HeapKind prog w HK where
 is:=fun h k a=>KIs h k (.ref a)/\Dp 5 k
 hash:=hkH prog w
 draws:=hkD
 room:=fun A=>A.units + 5 < aV
 inj:=fun hx hy=>KIs.inj 5 hx.2 hy.2 hx.1 hy.1
 keeps:=fun {h h' k a d o es ep} x ho hd hs=>⟨KIs.keep (fun b its ⟨ob,h1,h2,n,h3⟩=>⟨ob,(hs.2 b fun e=>by
  subst e;rw [ho] at h1; cases h1;rw [hd] at h3; cases h3).trans h1,h2,n,h3⟩) 5 x.2 x.1,x.2⟩
 pyHash:=fun hu hk h=>Qpp 5 hk.2 hu hk.1 h
 eqBool:=fun hu hx hy h=>Qx4 5 hx.2 hy.2 hu hx.1 hy.1 prog w _ _ h
 quiet:=fun hk h=>Qjr 5 8 (by decide) hk.2 hk.1 h
end
end
inductive V where
 | non | bl (b:Bool) | int (i:Int) | str (x:Str) | byt (b:Array UInt8) | flt (b:UInt64) | ref (a:aA) | ty (n:String)
 deriving DecidableEq
variable {v y:V} {vs:List V}
def RelV:V->aB->Prop
 | .non,u=>u=Value.none
 | .bl b,u=>u=Value.bool b
 | .int i,u=>∃ t,u=Value.int i t
 | .str x,u=>∃ t,u=Value.str x t
 | .byt b,u=>∃ t,u=Value.bytes b t
 | .flt b,u=>∃ t,u=Value.float b t
 | .ref a,u=>u=Value.ref a
 | .ty n,u=>u=Value.type n
abbrev Vals:List V->List aB->Prop:=bE RelV
theorem Vals.length {xs:List V} (r:Vals xs us):xs.length=us.length:=Paired.length r
theorem Vals.get:∀ {xs:List V} {us:List aB} {i:Nat} {x:V},Vals xs us->xs[i]?=some x->∃ u,us[i]?=some u/\RelV x u
 | _,_,_,_,.nil,e=>by simp at e
 | _,_,0,_,.cons r _,e=>by simp at e; subst e; exact ⟨_,rfl,r⟩
 | _,_,i + 1,x,.cons _ t,e=>by
  obtain ⟨u,h1,h2⟩:=Vals.get (i:=i) (x:=x) t (by simpa using e);exact ⟨u,by simpa using h1,h2⟩
theorem Vals.set {x:V} (r:RelV x u):∀ {xs:List V} {us:List aB} (i:Nat),Vals xs us->Vals (xs.set i x) (us.set i u)
 | _,_,_,.nil=>.nil
 | _,_,0,.cons _ t=>.cons r t
 | _,_,i + 1,.cons q t=>.cons q (Vals.set r i t)
theorem Vals.append:∀ {xs ys:List V} {us ws:List aB},Vals xs us->Vals ys ws->Vals (xs ++ ys) (us ++ ws)
 | _,_,_,_,.nil,s=>s
 | _,_,_,_,.cons r t,s=>.cons r (Vals.append t s)
theorem Vals.take:∀ {xs:List V} {us:List aB} (n:Nat),Vals xs us->Vals (xs.take n) (us.take n)
 | _,_,0,_=>.nil
 | _,_,_ + 1,.nil=>.nil
 | _,_,n + 1,.cons r t=>.cons r (Vals.take n t)
theorem Vals.drop:∀ {xs:List V} {us:List aB} (n:Nat),Vals xs us->Vals (xs.drop n) (us.drop n)
 | _,_,0,r=>r
 | _,_,_ + 1,.nil=>.nil
 | _,_,n + 1,.cons _ t=>Vals.drop n t
def RelO:Option V->Option aB->Prop
 | some v,some u=>RelV v u
 | none,none=>True
 | _,_=>False
def KV {κ:Type}:List (κ × V)->List (κ × aB)->Prop:=bE fun (p:κ × V) (q:κ × aB)=>p.1=q.1/\RelV p.2 q.2
def kV:Key->V
 | .inl i=>.int i
 | .inr x=>.str x
inductive HO where
 | lst (xs:List V)
 | tup (xs:List V)
 | dK (kvs:List (Key × V)) | dT (kvs:List (HK × V))
 | set (S:Int->Bool) (n:Nat)
 | ins (C dx:aA) (fs:List (Str × V))
 | own (x:aA)
 | xd (fs:List (Str × V))
 | met (f x:aA)
 | rng (lo hi:Int)
 | frz (o:Obj) (u:HO)
 | tbl (ps:Array aB)
 | ext (φ:Heap->Prop)
variable {o:HO}
abbrev Hp:=aA->Option HO
variable {H:Hp}
def upd (H:Hp) (a:aA) (o:HO):Hp:=fun b=>if b=a then some o else H b
theorem Qz :upd H a o a=some o:=by unfold upd; rw [bM rfl]
theorem Q7 (h:b≠a):upd H a o b=H b:=by unfold upd; rw [bN h]
theorem Q9 (h:H a=some o) (h':H b=none):a≠b:=by
 intro e; subst e; rw [h] at h'; cases h'
mutual
def KAt (H:Hp):HK->V->Prop
 | .int i,v=>v=.int i
 | .str x,v=>v=.str x
 | .tup l,v=>∃ a vs,v=.ref a/\H a=some (.tup vs)/\KAtL H l vs
def KAtL (H:Hp):List HK->List V->Prop
 | [],vs=>vs=[]
 | k :: l,vs=>∃ v r,vs=v :: r/\KAt H k v/\KAtL H l r
end
mutual
theorem KAt.keep {H H':Hp} (ht:∀ b xs,H b=some (.tup xs)->H' b=some (.tup xs)):∀ {k:HK} {v:V},KAt H k v->KAt H' k v
 | .int _,_,r=>r
 | .str _,_,r=>r
 | .tup _,_,⟨a,vs,e,h,r⟩=>⟨a,vs,e,ht a vs h,KAtL.keep ht r⟩
theorem KAtL.keep {H H':Hp} (ht:∀ b xs,H b=some (.tup xs)->H' b=some (.tup xs)):∀ {l:List HK} {vs:List V},KAtL H l vs->KAtL H' l vs
 | [],_,r=>r
 | _ :: _,_,⟨v,r,e,h,t⟩=>⟨v,r,e,KAt.keep ht h,KAtL.keep ht t⟩
end
def KR (H:Hp) (k:HK) (b:aA):Prop:=KAt H k (.ref b)/\Dp 5 k
theorem KR.keep {H':Hp} {k:HK} (r:KR H k b) (ht:∀ b xs,H b=some (.tup xs)->H' b=some (.tup xs)):KR H' k b:=⟨r.1.keep ht,r.2⟩
section
variable (P:aP) (w:aN)
def ObjOk (H:Hp) (h:Heap) (a:aA):HO->Prop
 | .lst xs=>xs.length<=sizeLine/\∃ (its:List aB) (n:Nat),Vals xs its/\h.get? a=some { cls:=.type "list",data:=.seq its.toArray n }
 | .tup xs=>xs.length<=sizeLine/\∃ its:List aB,Vals xs its/\IsTup h a its.toArray
 | .dK kvs=>kvs.length<=sizeLine/\(a == au)=false/\∃ vs,KV kvs vs/\h.DictOf (Qu P w) a vs
 | .dT kvs=>kvs.length<=sizeLine/\(a == au)=false/\∃ xs:List (HK × aA × aB),
   bE (fun (p:HK × V) (q:HK × aA × aB)=>p.1=q.1/\KR H p.1 q.2.1/\RelV p.2 q.2.2) kvs xs /\
   ∃ o es ep,h.get? a=some o/\o.ExactDict/\o.data=.dict es ep/\es.toList=xs.map (entryOfKey (nk P w))/\(xs.map (·.1)).Nodup
 | .set S n=>h.SetOf (intKind P w) a S n
 | .ins C dx fs=>H dx=some (.own a)/\fs.length<=1000/\dx≠a/\h.get? a=some (PySem.W.instObj C dx) /\
   ∃ mA,h.Ns1 dx mA/\(∀ f,RelO (fs.lookup f) (mA f))/\PySem.Within mA (fs.map (·.1))
 | .own _=>∃ o,h.get? a=some o
 | .xd fs=>∃ mA,h.Ns1 a mA/\∀ f,RelO (fs.lookup f) (mA f)
 | .rng lo hi=>∃ t u v,h.get? a=some { cls:=.type "range",data:=.fields #[.int lo t,.int hi u,.int 1 v] }
 | .frz o u=>h.get? a=some o/\ObjOk H h a u
 | .tbl ps=>h.get? a=some { cls:=.none,data:=.fields ps }
 | .met f x=>h.get? a=some (PySem.W.methodObj (.ref f) (.ref x))
 | .ext φ=>φ h/\(∃ o,h.get? a=some o)/\∀ h1 h2:Heap,φ h1->(∀ o,h1.get? a=some o->h2.get? a=some o)->φ h2
def HOk (H:Hp) (h:Heap):Prop:=∀ a o,H a=some o->ObjOk P w H h a o
end
variable {P:aP} {H H':Hp} {h':Heap} {a:aA} {o:HO}
section
variable {w:aN} {h:Heap}
theorem ObjOk.lt (x:ObjOk P w H h a o):a < h.objs.size:=by
 cases o with
 | lst xs=>obtain ⟨_,_,_,_,e⟩:=x; exact O8 e
 | tup xs=>obtain ⟨_,_,_,p⟩:=x; exact p.lt
 | dK kvs=>obtain ⟨_,_,_,_,o,_,_,e,_⟩:=x; exact O8 e
 | dT kvs=>obtain ⟨_,_,_,_,o,_,_,e,_⟩:=x; exact O8 e
 | set S n=>obtain ⟨o,_,_,_,e,_⟩:=x; exact O8 e
 | ins C dx fs=>obtain ⟨_,_,_,e,_⟩:=x; exact O8 e
 | own y=>obtain ⟨_,e⟩:=x; exact O8 e
 | xd fs=>obtain ⟨_,⟨_,_,_,e,_⟩,_⟩:=x; exact O8 e
 | rng lo hi=>obtain ⟨_,_,_,e⟩:=x; exact O8 e
 | frz ob u=>obtain ⟨e,_⟩:=x; exact O8 e
 | tbl ps=>exact O8 (show h.get? a=some _ from x)
 | met f y=>exact O8 (show h.get? a=some _ from x)
 | ext φ=>obtain ⟨_,⟨_,e⟩,_⟩:=x; exact O8 e
theorem Paired.mapP {β:Type} {F G:α->β->Prop}:∀ {l₁:List α} {l₂:List β},bE F l₁ l₂->(∀ a b,F a b->G a b)->bE G l₁ l₂
 | _,_,.nil,_=>.nil
 | _,_,.cons r t,f=>.cons (f _ _ r) (Paired.mapP t f)
theorem ObjOk.stay (x:ObjOk P w H h a o) (k:∀ b u,(b=a\/H b=some (.own a))->h.get? b=some u->h'.get? b=some u)
  (ho:∀ b,H b=some (.own a)->H' b=some (.own a)) (ht:∀ b xs,H b=some (.tup xs)->H' b=some (.tup xs)):ObjOk P w H' h' a o:=by
 induction o with
 | lst xs=>obtain ⟨z,its,n,r,e⟩:=x; exact ⟨z,its,n,r,k _ _ (.inl rfl) e⟩
 | tup xs=>obtain ⟨z,its,r,ob,e,c⟩:=x; exact ⟨z,its,r,ob,k _ _ (.inl rfl) e,c⟩
 | dK kvs=>obtain ⟨z,y,vs,r,ob,es,ep,e,c⟩:=x; exact ⟨z,y,vs,r,ob,es,ep,k _ _ (.inl rfl) e,c⟩
 | dT kvs=>
  obtain ⟨z,y,xs,r,ob,es,ep,e,c⟩:=x;exact ⟨z,y,xs,Paired.mapP r fun p q z=>⟨z.1,z.2.1.keep ht,z.2.2⟩,ob,es,ep,k _ _ (.inl rfl) e,c⟩
 | set S n=>obtain ⟨ob,es,ep,t,e,c⟩:=x; exact ⟨ob,es,ep,t,k _ _ (.inl rfl) e,c⟩
 | ins C dx fs=>
  obtain ⟨d,z,ne,e,mA,⟨od,es,ep,e2,c⟩,r⟩:=x;exact ⟨ho _ d,z,ne,k _ _ (.inl rfl) e,mA,⟨od,es,ep,k _ _ (.inr d) e2,c⟩,r⟩
 | own y=>obtain ⟨ob,e⟩:=x; exact ⟨ob,k _ _ (.inl rfl) e⟩
 | xd fs=>obtain ⟨mA,⟨od,es,ep,e,c⟩,r⟩:=x; exact ⟨mA,⟨od,es,ep,k _ _ (.inl rfl) e,c⟩,r⟩
 | rng lo hi=>obtain ⟨t,u,v,e⟩:=x; exact ⟨t,u,v,k _ _ (.inl rfl) e⟩
 | frz ob u ih=>obtain ⟨e,q⟩:=x; exact ⟨k _ _ (.inl rfl) e,ih q⟩
 | tbl ps=>
  have e:h.get? a=some { cls:=.none,data:=.fields ps }:=x;show h'.get? a=some { cls:=.none,data:=.fields ps };exact k a _ (.inl rfl) e
 | met f y=>
  have e:h.get? a=some (PySem.W.methodObj (.ref f) (.ref y)):=x;show h'.get? a=some (PySem.W.methodObj (.ref f) (.ref y));exact k a _ (.inl rfl) e
 | ext φ=>obtain ⟨p,⟨o,e⟩,st⟩:=x; exact ⟨st _ _ p fun o q=>k _ _ (.inl rfl) q,⟨o,k _ _ (.inl rfl) e⟩,st⟩
theorem HOk.lt (x:HOk P w H h) (e:H a=some o):a < h.objs.size:=(x a o e).lt
theorem HOk.fresh (x:HOk P w H h) (e:h.objs.size<=a):H a=none:=by
 cases q:H a with
 | none=>rfl
 | some u=>exact absurd (D1 (x.lt q) e) (Nat.lt_irrefl _)
theorem HOk.kept (x:HOk P w H h) (k:∀ b u,h.get? b=some u->h'.get? b=some u):HOk P w H h':=fun a o e=>
 (x a o e).stay (fun b u _ q=>k b u q) (fun _ q=>q) fun _ _ q=>q
theorem HOk.laid (x:HOk P w H h) (k:∀ b u,h.get? b=some u->h'.get? b=some u) (hp:h.objs.size<=a) (new:ObjOk P w (upd H a o) h' a o):HOk P w (upd H a o) h':=fun b u e=>by
 have hn:=x.fresh hp
 by_cases hb:b=a
 ·subst hb; rw [Qz] at e; cases e; exact new
 ·rw [Q7 hb] at e;exact (x b u e).stay (fun c v _ q=>k c v q) (fun c q=>by rw [Q7 (Q9 q hn)]; exact q) fun c xs q=>by rw [Q7 (Q9 q hn)]; exact q
end
def Rd (H:Hp) (a:aA) (u:HO):Prop:=H a=some u\/∃ o,H a=some (.frz o u)
theorem Rd.ok {w:aN} {h:Heap} {u:HO} (r:Rd H a u) (x:HOk P w H h):ObjOk P w H h a u:=by
 rcases r with r | ⟨o,r⟩
 ·exact x a u r
 ·obtain ⟨_,q⟩:=x a _ r;exact q
def Mut:Option HO->Prop
 | some (.lst _)=>True
 | some (.dK _)=>True
 | some (.dT _)=>True
 | some (.set _ _)=>True
 | some (.ins _ _ _)=>True
 | some (.ext _)=>True
 | _=>False
variable {e:aA} {o':HO}
section
variable {w:aN} {h:Heap} {x:aA}
theorem HOk.write (ok:HOk P w H h) (mu:Mut (H x)) (he:e=x\/H e=some (.own x)) (k:∀ b u,b≠e->h.get? b=some u->h'.get? b=some u) (heo:∃ u,h'.get? e=some u)
  (new:ObjOk P w (upd H x o') h' x o'):HOk P w (upd H x o') h':=fun b u q=>by
 have nown:∀ c y,H c=some (.own y)->c≠x:=fun c y r z=>by subst z; rw [r] at mu; exact mu
 have ntup:∀ c xs,H c=some (.tup xs)->c≠x:=fun c xs r z=>by subst z; rw [r] at mu; exact mu
 by_cases hb:b=x
 ·subst hb; rw [Qz] at q; cases q; exact new
 ·rw [Q7 hb] at q
  by_cases hbe:b=e
  ·have q':H b=some (.own x):=by
    rcases he with z | z
    ·exact absurd (hbe.trans z) hb
    ·rw [hbe]; exact z
   rw [q] at q'; cases q';obtain ⟨v,hv⟩:=heo;exact ⟨v,by rw [hbe]; exact hv⟩
  ·refine (ok b u q).stay (fun c v hc r=>k c v ?_ r) (fun c r=>by rw [Q7 (nown c b r)]; exact r) fun c xs r=>by rw [Q7 (ntup c xs r)]; exact r
   rcases hc with rfl | hc
   ·exact hbe
   ·rintro rfl;rcases he with z | z
    ·exact nown c b hc z
    ·rw [hc] at z; cases z; exact hb rfl
end
structure Un (fs ex:List aA) (H H':Hp) (h h':Heap):Prop where
 keep:∀ b o,h.get? b=some o->H b=none->b∉fs->b∉ex->h'.get? b=some o
 slot:∀ b o,h.get? b=some o->H b=none->b∈fs->b∉ex->∃ sl,h'.get? b=some { o with slots:=sl }
 free:∀ b o,h.get? b=some o->H b=none->b∉ex->H' b=none
 there:∀ b o,h.get? b=some o->b∉ex->∃ o',h'.get? b=some o'
 tups:∀ b xs,H b=some (.tup xs)->H' b=some (.tup xs)
 frzs:∀ b o u,H b=some (.frz o u)->H' b=some (.frz o u)
 tbls:∀ b ps,H b=some (.tbl ps)->∃ more,H' b=some (.tbl (ps ++ more))
variable {fs' ex ex':List aA} {H1 H2:Hp} {h1 h2:Heap}
section
variable {fs:List aA} {h:Heap} {x:aA}
theorem Un.any (u:Un fs ex H H1 h h1) {ob:Obj} (q:h.get? b=some ob) (n:H b=none) (hx:b∉ex):∃ sl,h1.get? b=some { ob with slots:=sl }:=by
 by_cases hb:b∈fs
 ·exact u.slot b ob q n hb hx
 ·exact ⟨ob.slots,u.keep b ob q n hb hx⟩
theorem Un.kept (k:∀ b u,h.get? b=some u->h'.get? b=some u):Un fs ex H H h h':=
 ⟨fun b ob q _ _ _=>k b ob q,fun b ob q _ _ _=>⟨ob.slots,k b ob q⟩,fun _ _ _ n _=>n,fun b ob q _=>⟨ob,k b ob q⟩,fun _ _ q=>q,fun _ _ _ q=>q,fun _ ps q=>⟨#[],by rw [q]; simp⟩⟩
theorem Un.refl:Un fs ex H H h h:=Un.kept fun _ _ q=>q
theorem Un.laid (k:∀ b u,h.get? b=some u->h'.get? b=some u) (hp:h.objs.size<=a) (hn:H a=none):Un fs ex H (upd H a o) h h' where
 keep:=fun b u q _ _ _=>k b u q
 slot:=fun b u q _ _ _=>⟨u.slots,k b u q⟩
 free:=fun b u q n _=>by rw [Q7 (E6 (D1 (O8 q) hp))]; exact n
 there:=fun b u q _=>⟨u,k b u q⟩
 tups:=fun b xs q=>by rw [Q7 (Q9 q hn)]; exact q
 frzs:=fun b u xs q=>by rw [Q7 (Q9 q hn)]; exact q
 tbls:=fun b ps q=>⟨#[],by rw [Q7 (Q9 q hn),q]; simp⟩
theorem Un.write (mu:Mut (H x)) (he:e=x\/H e=some (.own x)) (k:∀ b u,b≠e->h.get? b=some u->h'.get? b=some u) (heo:∃ u,h'.get? e=some u):Un fs ex H (upd H x o) h h':=by
 have hx:∀ b,H b=none->b≠x:=fun b n z=>by subst z; rw [n] at mu; exact mu
 have hb:∀ b,H b=none->b≠e:=fun b n z=>by
  subst z;rcases he with r | r
  ·exact hx b n r
  ·rw [n] at r; cases r
 have hm:∀ b u,H b=some u->¬ Mut (some u)->b≠x:=fun b u q nm z=>by subst z; rw [q] at mu; exact nm mu
 refine ⟨fun b u q n _ _=>k b u (hb b n) q,fun b u q n _ _=>⟨u.slots,k b u (hb b n) q⟩,fun b u q n _=>by rw [Q7 (hx b n)]; exact n,fun b u q _=>?_,
  fun b xs q=>by rw [Q7 (hm b _ q fun z=>z)]; exact q,fun b u xs q=>by rw [Q7 (hm b _ q fun z=>z)]; exact q,fun b ps q=>⟨#[],by rw [Q7 (hm b _ q fun z=>z),q]; simp⟩⟩
 by_cases hbe:b=e
 ·subst hbe; exact heo
 ·exact ⟨u,k b u hbe q⟩
end
def trk (h:Heap) (H:Hp):List aA:=(List.range h.objs.size).filter fun a=>(H a).isSome
def Q9i (h:Heap) (H:Hp):Heap:=PySem.W.hideAll h (trk h H)
theorem Qg9 (h:Heap) (H:Hp):(Q9i h H).objs.size=h.objs.size:=PySem.W.hideAll_size _ _
theorem Qju {h:Heap} {o:Obj} (e:h.get? b=some o) (n:H b=none):(Q9i h H).get? b=some o:=
 PySem.W.hideAll_get _ e fun hm=>by
  have q:(H b).isSome=true:=(List.mem_filter.mp hm).2;rw [n] at q; simp at q
theorem Qnx {h:Heap} {o:Obj} (e:(Q9i h H).get? b=some o):h.get? b=some o/\H b=none:=by
 have e':h.get? b=some o:=PySem.W.of_hideAll (trk h H) e;refine ⟨e',?_⟩;cases q:H b with
 | none=>rfl
 | some x=>
  have hm:b∈trk h H:=List.mem_filter.mpr ⟨D4.mpr (O8 e'),by simp [q]⟩;have z:(Q9i h H).get? b=none:=PySem.W.hideAll_none (trk h H) hm;rw [z] at e; cases e
def Qq8 (g h:Heap) (L:aA):List (aA × Obj):=(List.range h.objs.size).filterMap fun a=>if a=L\/(g.get? a).isSome=true then none else (h.get? a).map fun o=>(a,o)
def rest (g h:Heap) (L d:aA):List (aA × Obj):=(Qq8 g h L).filter fun p=>decide (p.1≠d)
structure Mod (K:PySem.W.Frag) (mg:Str->Option aB) (base:Heap):Prop where
 kin:K.In base
 glob:base.Ns aR mg
 blt:∃ mb,base.Ns builtinsNs mb/\∀ x:Str,x≠"__name__" -> mb x=aW x
 nolimit:base.NoLimit
structure Cx where
 prog:aP
 w:aN
 K:PySem.W.Frag
 mg:Str->Option aB
 base:Heap
 A:aQ
 N:List Str
 s₀:aC
 H₀:Hp
 env:Env
 outer:List Env
 stack:List Env
 ex:List aA
 fn:Str->Bool
 calm:Bool
 pn:List (aA × Obj)
 xe:aB->aC->Prop
def frs (l:List Env):List aA:=l.filterMap (·.frame)
abbrev Cx.fs (X:Cx):List aA:=frs X.outer
def Vis (sc:Scope) (x:Str):Prop:=sc.names.lookup x=some .local\/sc.names.lookup x=some .cell\/sc.names.lookup x=some .free
def Loc (sc:Scope) (x:Str):Prop:=sc.names.lookup x=some .local\/sc.names.lookup x=some .cell
def Qxw (env:Env) (h:Heap) (m:Str->Option aB) (x:Str) (u:aB):Prop:=
 (env.kindOf x=some .local/\m x=some u)\/((env.kindOf x=some .cell\/env.kindOf x=some .free)/\∃ c,env.cells.lookup x=some c/\h.IsCell c (some u))
structure Cx.Ok (X:Cx):Prop where
 mod:Mod X.K X.mg X.base
 kind:X.env.scope.kind=.function
 glob:X.env.globals=aR
 blt:X.env.builtins=builtinsNs
 above:X.s₀.heap.objs.size<=X.env.locals
 inj:∀ x y c,X.env.cells.lookup x=some c->X.env.cells.lookup y=some c->x=y
 has:∀ x,(X.env.kindOf x=some .cell\/X.env.kindOf x=some .free)->∃ c,X.env.cells.lookup x=some c
 cab:∀ x c,X.fn x=true->X.env.cells.lookup x=some c->X.s₀.heap.objs.size<=c
 hd:X.calm=true->X.A.handled=none
 frames:X.A.frames=some X.stack
 stk:X.stack=X.outer\/(X.stack=X.env :: X.outer/\X.env.frame=some X.env.locals)
 exf:∀ b∈X.ex,b≠X.env.locals/\∀ x c,X.env.cells.lookup x=some c->c≠b
 bs:∀ b o,X.base.get? b=some o->X.s₀.heap.get? b=some o/\X.H₀ b=none
 bsz:X.base.objs.size<=X.s₀.heap.objs.size
 noex:∀ b o,X.base.get? b=some o->b∉X.ex
 exfs:∀ b∈X.ex,b∉X.fs
 funs:X.s₀.heap.FunFrames X.base X.outer
 frf:∀ b∈X.fs,X.H₀ b=none
structure Inv (X:Cx) (pins:List (aA × Obj)) (σ:List (Option V)) (H:Hp) (s:aC):Prop where
 ok:X.Ok
 os:s.os=X.s₀.os
 bare:AllBare s.gens
 base:Un X.fs X.ex X.H₀ H X.s₀.heap s.heap
 loc:∃ m,s.heap.Ns X.env.locals m/\∀ (i:Nat) (x:Str) (v:V),X.N[i]?=some x->σ[i]?=some (some v)->Vis X.env.scope x->∃ u,RelV v u/\Qxw X.env s.heap m x u
 cell:∀ x c,X.env.cells.lookup x=some c->∃ v,s.heap.IsCell c v
 free:H X.env.locals=none
 freeC:∀ x c,X.env.cells.lookup x=some c->H c=none
 pin:∀ p∈X.pn ++ pins,s.heap.get? p.1=some p.2/\H p.1=none/\p.1≠X.env.locals/\p.1∉X.fs/\∀ v,p.2.data≠.cell v
 hok:HOk X.prog X.w H s.heap
 len:σ.length=X.N.length
variable {X:Cx} {pins:List (aA × Obj)} {σ:List (Option V)} {s:aC}
theorem Cx.Ok.nofr (ok:X.Ok) {o:Obj} (e:X.base.get? b=some o):b∉X.fs:=fun hb=>by
 have:=(ok.funs.mem hb).1;rw [e] at this; cases this
theorem Inv.bs (I:Inv X pins σ H s):∀ b o,X.base.get? b=some o->s.heap.get? b=some o/\H b=none:=fun b o e=>
 ⟨I.base.keep b o (I.ok.bs b o e).1 (I.ok.bs b o e).2 (I.ok.nofr e) (I.ok.noex b o e),I.base.free b o (I.ok.bs b o e).1 (I.ok.bs b o e).2 (I.ok.noex b o e)⟩
theorem Inv.bk (I:Inv X pins σ H s):∀ b o,X.base.get? b=some o->s.heap.get? b=some o:=fun b o e=>(I.bs b o e).1
theorem Inv.mod (I:Inv X pins σ H s):Mod X.K X.mg X.base:=I.ok.mod
theorem Inv.kIn (I:Inv X pins σ H s):X.K.In s.heap:=I.ok.mod.kin.keeps I.bk
theorem Inv.lt (I:Inv X pins σ H s):X.env.locals < s.heap.objs.size:=let ⟨_,hn,_⟩:=I.loc; hn.lt
theorem Inv.sz (I:Inv X pins σ H s):X.s₀.heap.objs.size<=s.heap.objs.size:=F1 I.ok.above (O7 I.lt)
theorem Inv.nofs (I:Inv X pins σ H s) (h:s.heap.objs.size<=a):a∉X.fs:=fun hb=>by
 obtain ⟨_,o,ho,_⟩:=I.ok.funs.mem hb;exact absurd (D1 (O8 ho) (F1 I.sz h)) (Nat.lt_irrefl _)
theorem Inv.cne (I:Inv X pins σ H s):∀ x c,X.env.cells.lookup x=some c->c≠X.env.locals:=fun x c e z=>by
 obtain ⟨v,o,ho,hd⟩:=I.cell x c e;obtain ⟨m,⟨o',es,ep,ho',hd',_⟩,_⟩:=I.loc;rw [z,ho'] at ho; cases ho; rw [hd'] at hd; cases hd
theorem Inv.funs (I:Inv X pins σ H s):s.heap.FunFrames X.base X.outer:=by
 have all:∀ (l:List Env),(∀ b∈frs l,b∈X.fs)->X.s₀.heap.FunFrames X.base l->s.heap.FunFrames X.base l:=by
  intro l
  induction l with
  | nil=>intro _ _; trivial
  | cons env r ih=>
   intro hs hl;obtain ⟨hk,⟨L,o,hf,hn,ho,hd⟩,hr⟩:=hl;have hL:L∈X.fs:=hs L (by unfold frs; rw [List.filterMap_cons,hf]; exact D3);obtain ⟨sl,e⟩:=I.base.slot L o ho (I.ok.frf L hL) hL fun z=>I.ok.exfs L z hL
   exact ⟨hk,⟨L,_,hf,hn,e,hd⟩,ih (fun b hb=>hs b (by unfold frs; rw [List.filterMap_cons,hf]; exact O6 _ hb)) hr⟩
 exact all X.outer (fun _ hb=>hb) I.ok.funs
theorem Inv.stack (I:Inv X pins σ H s):s.heap.FunFrames X.base X.stack:=by
 rcases I.ok.stk with e | ⟨e,hf⟩
 ·rw [e]; exact I.funs
 ·rw [e];obtain ⟨m,hn,_⟩:=I.loc;refine .cons (by rw [I.ok.kind]; decide) hf hn ?_ I.funs;exact Heap.get?_none_of_le (F1 I.ok.bsz I.ok.above)
theorem Inv.stkSub (I:Inv X pins σ H s):∀ b∈frs X.stack,b∈X.env.locals :: X.fs:=fun b hb=>by
 rcases I.ok.stk with e | ⟨e,hf⟩
 ·rw [e] at hb; exact O6 _ hb
 ·rw [e] at hb;unfold frs at hb;rw [List.filterMap_cons,hf] at hb;exact hb
theorem Inv.stkFree (I:Inv X pins σ H s):∀ b∈frs X.stack,H b=none:=fun b hb=>by
 rcases E7.mp (I.stkSub b hb) with e | hb
 ·rw [e]; exact I.free
 ·obtain ⟨_,o,ho,_⟩:=I.ok.funs.mem hb;exact I.base.free b o ho (I.ok.frf b hb) fun z=>I.ok.exfs b z hb
theorem Inv.step {g':Array GenState} {t':Nat} {d':Drawn} {ch:List aA} (I:Inv X pins σ H s)
  (hch:∀ b∈ch,(b∈X.ex\/X.s₀.heap.objs.size<=b)/\b≠X.env.locals/\(∀ x c,X.env.cells.lookup x=some c->c≠b)/\∀ p∈X.pn ++ pins,p.1≠b)
  (keep:∀ b o,b≠X.env.locals->b∉X.fs->b∉ch->s.heap.get? b=some o->H b=none->h'.get? b=some o)
  (slot:∀ b o,b≠X.env.locals->b∈X.fs->b∉ch->s.heap.get? b=some o->H b=none->∃ sl,h'.get? b=some { o with slots:=sl }) (free:∀ b o,b∉ch->s.heap.get? b=some o->H b=none->H' b=none)
  (there:∀ b o,b∉ch->s.heap.get? b=some o->∃ o',h'.get? b=some o')
  (tups:∀ b xs,H b=some (.tup xs)->H' b=some (.tup xs)) (frzs:∀ b o u,H b=some (.frz o u)->H' b=some (.frz o u)) (tbls:∀ b ps,H b=some (.tbl ps)->∃ more,H' b=some (.tbl (ps ++ more)))
  (ns:∀ m,s.heap.Ns X.env.locals m->h'.Ns X.env.locals m) (hok:HOk X.prog X.w H' h') (hg:AllBare g') :
  Inv X pins σ H' { s with heap:=h',gens:=g',drawn:=d',toks:=t' }:=by
 have neL:∀ b o,X.s₀.heap.get? b=some o->b≠X.env.locals:=fun b o e=>E6 (D1 (O8 e) I.ok.above)
 have neC:∀ b o,X.s₀.heap.get? b=some o->b∉X.ex->b∉ch:=fun b o e hx hb=>by
  rcases (hch b hb).1 with z | z
  ·exact hx z
  ·exact absurd (D1 (O8 e) z) (Nat.lt_irrefl _)
 have cellK:∀ x c,X.env.cells.lookup x=some c->∀ v,s.heap.IsCell c v->h'.IsCell c v:=fun x c e v ⟨o,ho,hd⟩=>by
  have nch:c∉ch:=fun z=>(hch c z).2.2.1 x c e rfl
  by_cases hc:c∈X.fs
  ·obtain ⟨sl,q⟩:=slot c o (I.cne x c e) hc nch ho (I.freeC x c e);exact ⟨_,q,hd⟩
  ·exact ⟨o,keep c o (I.cne x c e) hc nch ho (I.freeC x c e),hd⟩
 refine ⟨I.ok,I.os,hg,⟨fun b o e n hb hx=>?_,fun b o e n hb hx=>?_,fun b o e n hx=>?_,fun b o e hx=>?_,fun b xs e=>tups b xs (I.base.tups b xs e),fun b o xs e=>frzs b o xs (I.base.frzs b o xs e),fun b ps e=>?_⟩,?_,fun x c e=>?_,?_,fun x c e=>?_,fun p hp=>?_,hok,I.len⟩
 ·exact keep b o (neL b o e) hb (neC b o e hx) (I.base.keep b o e n hb hx) (I.base.free b o e n hx)
 ·obtain ⟨sl,e1⟩:=I.base.slot b o e n hb hx;obtain ⟨sl',e2⟩:=slot b _ (neL b o e) hb (neC b o e hx) e1 (I.base.free b o e n hx);exact ⟨sl',e2⟩
 ·obtain ⟨o',e1⟩:=I.base.there b o e hx;exact free b o' (neC b o e hx) e1 (I.base.free b o e n hx)
 ·obtain ⟨o',e1⟩:=I.base.there b o e hx;exact there b o' (neC b o e hx) e1
 ·obtain ⟨m1,e1⟩:=I.base.tbls b ps e;obtain ⟨m2,e2⟩:=tbls b _ e1;exact ⟨m1 ++ m2,by rw [e2,Array.append_assoc]⟩
 ·obtain ⟨m,hn,hl⟩:=I.loc;refine ⟨m,ns m hn,fun i x v e1 e2 e3=>?_⟩;obtain ⟨u,r,l⟩:=hl i x v e1 e2 e3;refine ⟨u,r,?_⟩;rcases l with l | ⟨k,c,e,z⟩
  ·exact .inl l
  ·exact .inr ⟨k,c,e,cellK x c e _ z⟩
 ·obtain ⟨v,z⟩:=I.cell x c e;exact ⟨v,cellK x c e v z⟩
 ·obtain ⟨m,⟨o,_,_,ho,_⟩,_⟩:=I.loc;exact free _ o (fun z=>(hch _ z).2.1 rfl) ho I.free
 ·obtain ⟨v,o,ho,hd⟩:=I.cell x c e;exact free c o (fun z=>(hch c z).2.2.1 x c e rfl) ho (I.freeC x c e)
 ·obtain ⟨e,n,ne,nf,d⟩:=I.pin p hp;have nch:p.1∉ch:=fun z=>(hch p.1 z).2.2.2 p hp rfl
  exact ⟨keep p.1 p.2 ne nf nch e n,free p.1 p.2 nch e n,ne,nf,d⟩
theorem Inv.un (I:Inv X pins σ H s) (u:Un X.fs [] H H' s.heap h') (hok:HOk X.prog X.w H' h'):Inv X pins σ H' { s with heap:=h',toks:=t' }:=by
 obtain ⟨m,⟨o,es,ep,ho,r⟩,_⟩:=id I.loc;obtain ⟨sl,hL⟩:=u.any ho I.free (by simp);exact I.step (g':=s.gens) (d':=s.drawn) (ch:=[]) (fun _ z=>nomatch z) (fun b o _ hb _ e n=>u.keep b o e n hb (by simp)) (fun b o _ hb _ e n=>u.slot b o e n hb (by simp)) (fun b o _ e n=>u.free b o e n (by simp)) (fun b o _ e=>u.there b o e (by simp)) u.tups u.frzs u.tbls (fun m' hm=>by
  obtain ⟨o',es',ep',ho',r'⟩:=hm;rw [ho] at ho'; cases ho';exact ⟨_,es',ep',hL,r'⟩) hok I.bare
theorem Inv.call {t':Nat} {d':Drawn} (I:Inv X pins σ H s) (u:Un (frs X.stack) ch H H' s.heap h') (hok:HOk X.prog X.w H' h') (hg:AllBare g')
  (hch:∀ b∈ch,(b∈X.ex\/X.s₀.heap.objs.size<=b)/\b≠X.env.locals/\(∀ x c,X.env.cells.lookup x=some c->c≠b)/\∀ p∈X.pn ++ pins,p.1≠b) :
  Inv X pins σ H' { s with heap:=h',gens:=g',drawn:=d',toks:=t' }:=by
 obtain ⟨m,⟨o,es,ep,ho,r⟩,_⟩:=id I.loc;obtain ⟨sl,hL⟩:=u.any ho I.free fun z=>(hch _ z).2.1 rfl
 exact I.step (ch:=ch) hch (fun b o hL hb hc e n=>u.keep b o e n (fun z=>(E7.mp (I.stkSub b z)).elim hL hb) hc) (fun b o _ _ hc e n=>u.any e n hc) (fun b o hc e n=>u.free b o e n hc) (fun b o hc e=>u.there b o e hc) u.tups u.frzs u.tbls (fun m' hm=>by
  obtain ⟨o',es',ep',ho',r'⟩:=hm;rw [ho] at ho'; cases ho';exact ⟨_,es',ep',hL,r'⟩) hok hg
theorem Inv.turned {t':Nat} (I:Inv X pins σ H s) (k:∀ b o,b≠it->s.heap.get? b=some o->h'.get? b=some o) (hn:H it=none) (hL:it≠X.env.locals)
  (h1:it∈X.ex\/X.s₀.heap.objs.size<=it) (h2:∀ x c,X.env.cells.lookup x=some c->c≠it) (h3:∀ p∈X.pn ++ pins,p.1≠it):Inv X pins σ H { s with heap:=h',toks:=t' }:=by
 have nit:∀ b u,H b=some u->b≠it:=fun b u e z=>by rw [z,hn] at e; cases e
 refine I.step (g':=s.gens) (d':=s.drawn) (ch:=[it]) (fun b hb=>?_) (fun b o _ _ hc e _=>k b o (fun z=>hc (by simp [z])) e) (fun b o _ _ hc e _=>⟨o.slots,k b o (fun z=>hc (by simp [z])) e⟩) (fun _ _ _ _ n=>n)
  (fun b o hc e=>⟨o,k b o (fun z=>hc (by simp [z])) e⟩) (fun _ _ e=>e) (fun _ _ _ e=>e) (fun b ps e=>⟨#[],by rw [e]; simp⟩) (fun m hm=>?_) (fun b u e=>?_) I.bare
 ·have e:b=it:=by simpa using hb
  subst e;exact ⟨h1,hL,h2,h3⟩
 ·obtain ⟨o,es,ep,ho,r⟩:=hm;exact ⟨o,es,ep,k _ o (Ne.symm hL) ho,r⟩
 ·refine (I.hok b u e).stay (fun c v hc q=>k c v ?_ q) (fun _ q=>q) fun _ _ q=>q
  rcases hc with z | z
  ·rw [z]; exact nit b u e
  ·exact nit c _ z
theorem Inv.tok (I:Inv X pins σ H s) (t:Nat):Inv X pins σ H { s with toks:=t }:=I.un (h':=s.heap) (t':=t) Un.refl I.hok
theorem Inv.kept (I:Inv X pins σ H s) (k:∀ b u,s.heap.get? b=some u->h'.get? b=some u):Inv X pins σ H { s with heap:=h',toks:=t' }:=I.un (Un.kept k) (I.hok.kept k)
theorem Inv.laid {t':Nat} (I:Inv X pins σ H s) (k:∀ b u,s.heap.get? b=some u->h'.get? b=some u) (hp:s.heap.objs.size<=a) (new:ObjOk X.prog X.w (upd H a o) h' a o) :
  Inv X pins σ (upd H a o) { s with heap:=h',toks:=t' }:=I.un (Un.laid k hp (I.hok.fresh hp)) (I.hok.laid k hp new)
theorem Inv.write {x:aA} {o:HO} {t':Nat} (I:Inv X pins σ H s) (mu:Mut (H x)) (he:e=x\/H e=some (.own x)) (k:∀ b u,b≠e->s.heap.get? b=some u->h'.get? b=some u) (heo:∃ u,h'.get? e=some u)
  (new:ObjOk X.prog X.w (upd H x o) h' x o):Inv X pins σ (upd H x o) { s with heap:=h',toks:=t' }:=I.un (Un.write mu he k heo) (I.hok.write mu he k heo new)
theorem Inv.pins_of {pins':List (aA × Obj)} (I:Inv X pins σ H s) (h:∀ p∈pins',s.heap.get? p.1=some p.2/\H p.1=none/\p.1≠X.env.locals/\p.1∉X.fs/\∀ v,p.2.data≠.cell v):Inv X pins' σ H s:=
 ⟨I.ok,I.os,I.bare,I.base,I.loc,I.cell,I.free,I.freeC,fun p hp=>(F7.mp hp).elim (fun z=>I.pin p (G7 _ z)) (h p),I.hok,I.len⟩
theorem Q5h {N:List Str} (hN:N.Nodup) {i j:Nat} {x:Str} (a:N[i]?=some x) (b:N[j]?=some x):i=j:=by
 obtain ⟨h1,e1⟩:=O1.mp a;obtain ⟨h2,e2⟩:=O1.mp b;exact (List.getElem_inj hN).mp (e1.trans e2.symm)
theorem Q79 {M:Model} {A:aQ} {E:aB->aC->Prop} {i:Nat} {x:Str} {Q:Unit->aC->Prop} (I:Inv X pins σ H s) (hN:X.N.Nodup) (hi:X.N[i]?=some x) (hx:Loc X.env.scope x) (r:RelV v u)
  (h:∀ s',Inv X pins (σ.set i (some v)) H s'->(∃ a,Heap.SameBut a s.heap s'.heap/\(a=X.env.locals\/X.env.cells.lookup x=some a))->Q () s') (hf:X.fn x=true\/X.env.scope.names.lookup x=some .local:=by first | exact .inl rfl | exact .inr rfl | assumption):aI M A (storeName X.env x u) Q E s:=by
 obtain ⟨m,hn,hl⟩:=id I.loc;have hcls:(X.env.scope.kind == .class || (X.env.scope.kind == .module && X.env.locals != X.env.globals))=false:=by rw [I.ok.kind]; rfl
 have hiσ:i < σ.length:=by rw [I.len]; exact (O1.mp hi).1
 have cne:=I.cne;have tracked:∀ {a:aA} {h':Heap},(∃ o,s.heap.get? a=some o/\H a=none)->Heap.SameBut a s.heap h'->HOk X.prog X.w H h':=fun {a h'} ha hs b ob e=>by
  obtain ⟨_,_,hfree⟩:=ha;refine (I.hok b ob e).stay (fun c w' hc q=>(hs.2 c ?_).trans q) (fun _ q=>q) fun _ _ q=>q
  rintro rfl;rcases hc with rfl | hc
  ·rw [hfree] at e; cases e
  ·rw [hfree] at hc; cases hc
 rcases hx with hk | hk
 ·refine wpAny_storeName_local hk hn (fun h' hn' hs=>?_) hcls;obtain ⟨oL,_,_,hoL,_⟩:=id hn;refine h _ ⟨I.ok,I.os,I.bare,⟨fun b o e n hb hx=>?_,fun b o e n hb hx=>?_,I.base.free,fun b o e hx=>?_,I.base.tups,I.base.frzs,I.base.tbls⟩,⟨_,hn',fun j y v' e1 e2 e3=>?_⟩,fun y c e=>?_,I.free,I.freeC,fun p hp=>?_,tracked ⟨oL,hoL,I.free⟩ hs,by simpa using I.len⟩ ⟨_,hs,.inl rfl⟩
  ·exact (hs.2 b (E6 (D1 (O8 e) I.ok.above))).trans (I.base.keep b o e n hb hx)
  ·obtain ⟨sl,e1⟩:=I.base.slot b o e n hb hx;exact ⟨sl,(hs.2 b (E6 (D1 (O8 e) I.ok.above))).trans e1⟩
  ·obtain ⟨o',e1⟩:=I.base.there b o e hx;exact ⟨o',(hs.2 b (E6 (D1 (O8 e) I.ok.above))).trans e1⟩
  ·by_cases hj:j=i
   ·subst hj;rw [hi] at e1; cases e1;rw [D7 hiσ] at e2;cases e2;exact ⟨u,r,.inl ⟨hk,by simp⟩⟩
   ·rw [D5 (Ne.symm hj)] at e2;obtain ⟨u',r',q⟩:=hl j y v' e1 e2 e3;refine ⟨u',r',?_⟩;rcases q with ⟨k,e⟩ | ⟨k,c,e,z⟩
    ·refine .inl ⟨k,?_⟩;have:y≠x:=fun e=>hj (Q5h hN e1 (e ▸ hi))
     simp [this,e]
    ·exact .inr ⟨k,c,e,z.sameBut hs (cne y c e)⟩
  ·obtain ⟨w',z⟩:=I.cell y c e;exact ⟨w',z.sameBut hs (cne y c e)⟩
  ·obtain ⟨e,n,ne,nf,d⟩:=I.pin p hp;exact ⟨(hs.2 p.1 ne).trans e,n,ne,nf,d⟩
 ·have hfn:X.fn x=true:=by
   rcases hf with z | z
   ·exact z
   ·rw [z] at hk; cases hk
  obtain ⟨c,hc⟩:=I.ok.has x (.inl hk);obtain ⟨w',z⟩:=I.cell x c hc;refine wpAny_storeName_cell I.ok.kind hk hc z (fun h' hc' hs=>?_);obtain ⟨oc,hoc,hocd⟩:=id z;refine h { s with heap:=h' } ⟨I.ok,I.os,I.bare,⟨fun b o e n hb hx=>?_,fun b o e n hb hx=>?_,I.base.free,fun b o e hx=>?_,I.base.tups,I.base.frzs,I.base.tbls⟩,⟨m,hn.sameBut hs (Ne.symm (cne x c hc)),fun j y v' e1 e2 e3=>?_⟩,fun y c' e=>?_,I.free,I.freeC,fun p hp=>?_,tracked ⟨oc,hoc,I.freeC x c hc⟩ hs,by simpa using I.len⟩ ⟨c,hs,.inr hc⟩
  ·exact (hs.2 b (E6 (D1 (O8 e) (I.ok.cab x c hfn hc)))).trans (I.base.keep b o e n hb hx)
  ·obtain ⟨sl,e1⟩:=I.base.slot b o e n hb hx;exact ⟨sl,(hs.2 b (E6 (D1 (O8 e) (I.ok.cab x c hfn hc)))).trans e1⟩
  ·obtain ⟨o',e1⟩:=I.base.there b o e hx;exact ⟨o',(hs.2 b (E6 (D1 (O8 e) (I.ok.cab x c hfn hc)))).trans e1⟩
  ·by_cases hj:j=i
   ·subst hj;rw [hi] at e1; cases e1;rw [D7 hiσ] at e2;cases e2;exact ⟨u,r,.inr ⟨.inl hk,c,hc,hc'⟩⟩
   ·rw [D5 (Ne.symm hj)] at e2;obtain ⟨u',r',q⟩:=hl j y v' e1 e2 e3;refine ⟨u',r',?_⟩;rcases q with q | ⟨k,c',e,z'⟩
    ·exact .inl q
    ·refine .inr ⟨k,c',e,z'.sameBut hs ?_⟩;rintro rfl;exact hj (Q5h hN e1 (I.ok.inj _ _ _ e hc ▸ hi))
  ·by_cases hcc:c'=c
   ·subst hcc; exact ⟨_,hc'⟩
   ·obtain ⟨w2,z2⟩:=I.cell y c' e;exact ⟨w2,z2.sameBut hs hcc⟩
  ·obtain ⟨e,n,ne,nf,d⟩:=I.pin p hp;refine ⟨(hs.2 p.1 ?_).trans e,n,ne,nf,d⟩;intro q;rw [q,hoc] at e;have q':oc=p.2:=Option.some.inj e;exact d w' (by rw [<- q']; exact hocd)
theorem Q4n {M:Model} {A:aQ} {E:aB->aC->Prop} {i:Nat} {x:Str} {Q:Unit->aC->Prop} (I:Inv X pins σ H s) (hN:X.N.Nodup) (hi:X.N[i]?=some x) (hx:Loc X.env.scope x) (r:RelV v u)
  (h:∀ s',Inv X pins (σ.set i (some v)) H s'->Q () s') (hf:X.fn x=true\/X.env.scope.names.lookup x=some .local:=by first | exact .inl rfl | exact .inr rfl | assumption):aI M A (storeName X.env x u) Q E s:=
 Q79 I hN hi hx r (fun s' I' _=>h s' I') hf
theorem Inv.call' (I:Inv X pins σ H s) (ho:s'.os=s.os) (u:Un (frs X.stack) ch H H' s.heap s'.heap) (hok:HOk X.prog X.w H' s'.heap) (hg:AllBare s'.gens)
  (hch:∀ b∈ch,(b∈X.ex\/X.s₀.heap.objs.size<=b)/\b≠X.env.locals/\(∀ x c,X.env.cells.lookup x=some c->c≠b)/\∀ p∈X.pn ++ pins,p.1≠b):Inv X pins σ H' s':=by
 obtain ⟨h',g',d',t',o'⟩:=s';have e:o'=s.os:=ho;subst e;exact I.call (g':=g') (t':=t') (d':=d') u hok hg hch
abbrev XK:=aB->Option aA->Hp->Prop
abbrev St:=List (Option V)
abbrev VK:=V->Hp->Prop
abbrev TE:=St->Hp->VK->Prop
variable {tl:TE}
abbrev TT:=St->Hp->(Bool->Hp->Prop)->Prop
variable {tc:TT}
abbrev TA:=St->Hp->(List V->Hp->Prop)->Prop
variable {ta:TA}
structure Ends where
 nx:St->Hp->Prop
 rt:VK
 bk:St->Hp->Prop:=fun _ _=>False
 ct:St->Hp->Prop:=fun _ _=>False
abbrev TS:=Ends->St->Hp->Prop
variable {tb:TS}
def EP (X:Cx) (pins:List (aA × Obj)) (σ:St) (Q:VK) (u:aB) (s':aC):Prop:=∃ v H',Inv X pins σ H' s'/\RelV v u/\Q v H'
def TP (X:Cx) (pins:List (aA × Obj)) (σ:St) (Q:Bool->Hp->Prop) (b:Bool) (s':aC):Prop:=∃ H',Inv X pins σ H' s'/\Q b H'
def AP (X:Cx) (pins:List (aA × Obj)) (σ:St) (Q:List V->Hp->Prop) (us:List aB) (s':aC):Prop:=∃ vs H',Inv X pins σ H' s'/\Vals vs us/\Q vs H'
def SP (X:Cx) (pins:List (aA × Obj)) (D:Ends) (f:Flow) (s':aC):Prop:=
 match f with
 | .next=>∃ σ' H',Inv X pins σ' H' s'/\D.nx σ' H'
 | .brk=>∃ σ' H',Inv X pins σ' H' s'/\D.bk σ' H'
 | .cont=>∃ σ' H',Inv X pins σ' H' s'/\D.ct σ' H'
 | .ret u=>∃ v σ' H',Inv X pins σ' H' s'/\RelV v u/\D.rt v H'
def PE (X:Cx) (e:aF) (t:TE):Prop:=
 ∀ (pins:List (aA × Obj)) (s:aC) (σ:St) (H:Hp) (Q:VK),Inv X pins σ H s->t σ H Q->aI (aJ X.prog X.w) X.A (aL e X.env) (EP X pins σ Q) X.xe s
def PT (X:Cx) (e:aF) (t:TT):Prop:=
 ∀ (pins:List (aA × Obj)) (s:aC) (σ:St) (H:Hp) (Q:Bool->Hp->Prop),Inv X pins σ H s->t σ H Q->aI (aJ X.prog X.w) X.A (isTrue e X.env (aL e X.env)) (TP X pins σ Q) X.xe s
def PW (X:Cx) (e:aF) (t:TT):Prop:=
 ∀ (whole:Sem aB) (pins:List (aA × Obj)) (s:aC) (σ:St) (H:Hp) (Q:Bool->Hp->Prop),Inv X pins σ H s->t σ H Q->aI (aJ X.prog X.w) X.A (isTrue e X.env whole) (TP X pins σ Q) X.xe s
def PA (X:Cx) (es:List aF) (t:TA):Prop:=
 ∀ (pos:Pos) (pins:List (aA × Obj)) (s:aC) (σ:St) (H:Hp) (Q:List V->Hp->Prop),Inv X pins σ H s->t σ H Q->aI (aJ X.prog X.w) X.A (spliced (aS pos (aM es X.env))) (AP X pins σ Q) X.xe s
def PS (X:Cx) (st:aK) (t:TS):Prop:=
 ∀ (pins:List (aA × Obj)) (s:aC) (σ:St) (H:Hp) (D:Ends),Inv X pins σ H s->t D σ H->aI (aJ X.prog X.w) X.A (exec st X.env) (SP X pins D) X.xe s
def PSs (X:Cx) (st:List aK) (t:TS):Prop:=
 ∀ (pins:List (aA × Obj)) (s:aC) (σ:St) (H:Hp) (D:Ends),Inv X pins σ H s->t D σ H->aI (aJ X.prog X.w) X.A (execs st X.env) (SP X pins D) X.xe s
theorem thn {t:Sem α} {Q Q':α->aC->Prop} (h:aI M A t Q E s) (hQ:∀ a s,Q a s->Q' a s):aI M A t Q' E s:=ae h hQ fun _ _ x=>x
section
variable {X:Cx}
def Qr6 (i:Nat):TE:=fun σ H Q=>∃ v,σ[i]?=some (some v)/\Q v H
def tC (v:V):TE:=fun _ H Q=>Q v H
theorem Qit {i:Nat} {x:Str} {pos:Pos} (hN:X.N[i]?=some x) (hv:Vis X.env.scope x) (hd:(x == ("__debug__" : Str))=false:=by decide) (hcd:(x == ("__classdict__" : Str))=false:=by decide):PE X (.Name x pos) (Qr6 i):=by
 intro pins s σ H Q I h;obtain ⟨v,e,h⟩:=h;obtain ⟨m,hn,hl⟩:=I.loc;obtain ⟨u,r,l⟩:=hl i x v hN e hv;have fin:EP X pins σ Q u s:=⟨v,H,I,r,h⟩;rcases l with ⟨hk,hm⟩ | ⟨hk,c,hc,hcell⟩
 ·exact wpAny_Name (wpAny_loadName_local I.ok.kind hk hn hm fin) hd
 ·rcases hk with hk | hk
  ·exact wpAny_Name (wpAny_loadName_cell I.ok.kind hk hc hcell fin) hd
  ·exact wpAny_Name (wpAny_loadName_free I.ok.kind hk hc hcell fin hcd) hd
theorem Qsr {i j pos}:PE X (.Constant (.int i) j pos) (tC (.int i)):=fun _ _ _ H _ I h=>wpAny_Constant_int ⟨.int i,H,I.tok _,⟨_,rfl⟩,h⟩
theorem Qqm {b j pos}:PE X (.Constant (.bool b) j pos) (tC (.bl b)):=fun _ _ _ H _ I h=>Constant_bool ⟨.bl b,H,I,rfl,h⟩
theorem Qsq {j pos}:PE X (.Constant .none j pos) (tC .non):=fun _ _ _ H _ I h=>Constant_none ⟨.non,H,I,rfl,h⟩
theorem Qiu {x j pos}:PE X (.Constant (.str x) j pos) (tC (.str x)):=fun _ _ _ H _ I h=>Calls.Constant_str ⟨.str x,H,I.tok _,⟨_,rfl⟩,h⟩
def Gl (X:Cx) (x:Str):Prop:=X.env.kindOf x=some .globalImplicit
theorem Xy {E:aB->aC->Prop} {σ:St} {x:Str} {pos:Pos} {Q:aB->aC->Prop} (I:Inv X pins σ H s) (hg:Gl X x) (hm:X.mg x=some u) (h:Q u s)
  (hd:(x == ("__debug__" : Str))=false:=by decide):aI (aJ X.prog X.w) X.A (aL (.Name x pos) X.env) Q E s:=
 Calls.Name_function_global I.ok.kind hg (Calls.loadGlobal_global (by rw [I.ok.glob]; exact I.mod.glob.keeps I.bk) hm h) hd
theorem Q00 {E:aB->aC->Prop} {σ:St} {x:Str} {pos:Pos} {Q:aB->aC->Prop} (I:Inv X pins σ H s) (hg:Gl X x) (hm:X.mg x=none) (hv:aW x=some u) (h:Q u s)
  (hn:x≠"__name__" := by decide) (hd:(x == ("__debug__" : Str))=false:=by decide):aI (aJ X.prog X.w) X.A (aL (.Name x pos) X.env) Q E s:=by
 obtain ⟨mb,h1,h2⟩:=I.mod.blt;exact Calls.Name_function_global I.ok.kind hg (Calls.loadGlobal_builtin (by rw [I.ok.glob]; exact I.mod.glob.keeps I.bk) hm (by rw [I.ok.blt]; exact h1.keeps I.bk) ((h2 x hn).trans hv) h) hd
theorem Qnc {x:Str} {pos:Pos} (hg:Gl X x) (hm:X.mg x=some u) (r:RelV v u) (hd:(x == ("__debug__" : Str))=false:=by decide):PE X (.Name x pos) (tC v):=
 fun _ _ _ H _ I h=>Xy I hg hm ⟨v,H,I,r,h⟩ hd
theorem Qnf {x:Str} {pos:Pos} (hg:Gl X x) (hm:X.mg x=none) (hv:aW x=some u) (r:RelV v u) (hn:x≠"__name__" := by decide) (hd:(x == ("__debug__" : Str))=false:=by decide):PE X (.Name x pos) (tC v):=
 fun _ _ _ H _ I h=>Q00 I hg hm hv ⟨v,H,I,r,h⟩ hn hd
variable {a b:aF} {ta tb:TE} {pos:Pos}
def tB (t:TE):TT:=fun σ H Q=>t σ H fun x H1=>∃ c,x=.bl c/\Q c H1
theorem Qsc {e:aF} {t:TE} (h:PE X e t) (he:∀ whole,isTrue e X.env whole=(do let v <- whole; standAt e.pos; ag [v] (truthy v)):=by intro _; rfl):PT X e (tB t):=by
 intro pins s σ H Q I hw;refine isTrue_plain (thn (h pins s σ H _ I hw) fun v s1 ⟨x,H1,I1,r1,q1⟩=>?_) (he _)
 obtain ⟨d,rfl,q⟩:=q1;cases r1;exact aq ⟨H1,I1,q⟩
variable {tA tB':TT} {rest:List aF}
def Qz6 (t u:TT):TT:=fun σ H Q=>t σ H fun c H1=>if c=true then u σ H1 Q else Q false H1
def tOr (t u:TT):TT:=fun σ H Q=>t σ H fun c H1=>if c=true then Q true H1 else u σ H1 Q
def Qz1 (t:TT):TT:=fun σ H Q=>t σ H fun c H1=>Q (!c) H1
theorem Qmv (ha:PT X a tA):PW X (.BoolOp .And [a] pos) tA:=by
 intro wh pins s σ H Q I h;refine isTrue_and (thn (ha pins s σ H Q I h) fun c s1 e=>?_)
 cases c with
 | true=>exact isTrue_and_nil e
 | false=>exact e
theorem Qsa (ha:PT X a tA):PW X (.BoolOp .Or [a] pos) tA:=by
 intro wh pins s σ H Q I h;refine isTrue_or (thn (ha pins s σ H Q I h) fun c s1 e=>?_)
 cases c with
 | false=>exact isTrue_or_nil e
 | true=>exact e
theorem Qsb (ha:PT X a tA) (hb:PW X (.BoolOp .And (b :: rest) pos) tB'):PW X (.BoolOp .And (a :: b :: rest) pos) (Qz6 tA tB'):=by
 intro wh pins s σ H Q I h;refine isTrue_and (thn (ha pins s σ H _ I h) fun c s1 ⟨H1,I1,q1⟩=>?_)
 cases c with
 | true=>exact hb wh pins s1 σ H1 Q I1 q1
 | false=>exact ⟨H1,I1,q1⟩
theorem Qvv (ha:PT X a tA) (hb:PW X (.BoolOp .Or (b :: rest) pos) tB'):PW X (.BoolOp .Or (a :: b :: rest) pos) (tOr tA tB'):=by
 intro wh pins s σ H Q I h;refine isTrue_or (thn (ha pins s σ H _ I h) fun c s1 ⟨H1,I1,q1⟩=>?_)
 cases c with
 | true=>exact ⟨H1,I1,q1⟩
 | false=>exact hb wh pins s1 σ H1 Q I1 q1
theorem Qsd (ha:PT X a tA):PT X (.UnaryOp .Not a pos) (Qz1 tA):=by
 intro pins s σ H Q I h;exact isTrue_not (ha pins s σ H (fun c H1=>Q (!c) H1) I h)
def Qve (ta tb:TE):TE:=fun σ H Q=>ta σ H fun x H1=>∃ c,x=.bl c/\if c=true then tb σ H1 Q else Q (.bl false) H1
def Qz0 (ta tb:TE):TE:=fun σ H Q=>ta σ H fun x H1=>∃ c,x=.bl c/\if c=true then Q (.bl true) H1 else tb σ H1 Q
def Qv8 (ta:TE):TE:=fun σ H Q=>ta σ H fun x H1=>∃ c,x=.bl c/\Q (.bl (!c)) H1
theorem Qsn {op} {t:TE} (h:PE X a t):PE X (.BoolOp op [a] pos) t:=fun pins s σ H Q I hw=>BoolOp_one (h pins s σ H Q I hw)
theorem Qst (ha:PE X a ta) (hb:PE X (.BoolOp .And (b :: rest) pos) tb):PE X (.BoolOp .And (a :: b :: rest) pos) (Qve ta tb):=by
 intro pins s σ H Q I h;refine BoolOp_and (thn (ha pins s σ H _ I h) fun v s1 ⟨x,H1,I1,r1,q1⟩=>?_)
 obtain ⟨c,rfl,q1⟩:=q1;cases r1;refine aq ?_;cases c with
 | true=>exact hb pins s1 σ H1 Q I1 q1
 | false=>exact ⟨.bl false,H1,I1,rfl,q1⟩
theorem Qw2 (ha:PE X a ta) (hb:PE X (.BoolOp .Or (b :: rest) pos) tb):PE X (.BoolOp .Or (a :: b :: rest) pos) (Qz0 ta tb):=by
 intro pins s σ H Q I h;refine BoolOp_or (thn (ha pins s σ H _ I h) fun v s1 ⟨x,H1,I1,r1,q1⟩=>?_)
 obtain ⟨c,rfl,q1⟩:=q1;cases r1;refine aq ?_;cases c with
 | false=>exact hb pins s1 σ H1 Q I1 q1
 | true=>exact ⟨.bl true,H1,I1,rfl,q1⟩
theorem Qsp (ha:PE X a ta):PE X (.UnaryOp .Not a pos) (Qv8 ta):=by
 intro pins s σ H Q I h;refine UnaryOp_ (thn (ha pins s σ H _ I h) fun v s1 ⟨x,H1,I1,r1,q1⟩=>?_)
 obtain ⟨c,rfl,q1⟩:=q1;cases r1;exact not_of (aq ⟨.bl (!c),H1,I1,rfl,q1⟩)
end
def SqL (K:PySem.W.Frag) (H:Hp) (a:aA) (xs:List V):Prop:=
 Rd H a (.lst xs) \/
  ∃ (o:Obj) (its:Array aB) (n:Nat),K.lookup a=some o/\o.cls=.type "list" /\ o.dict=none/\o.data=.seq its n/\its.size<=sizeLine/\Vals xs its.toList
def SqT (K:PySem.W.Frag) (H:Hp) (a:aA) (xs:List V):Prop:=
 Rd H a (.tup xs) \/
  ∃ (o:Obj) (its:Array aB) (n:Nat),K.lookup a=some o/\o.cls=.type "tuple" /\ o.data=.seq its n/\its.size<=sizeLine/\Vals xs its.toList
def J02:aB->Option V
 | .none=>some .non
 | .bool b=>some (.bl b)
 | .int i _=>some (.int i)
 | .str x _=>some (.str x)
 | .bytes b _=>some (.byt b)
 | .float b _=>some (.flt b)
 | .ref a=>some (.ref a)
 | .type n=>some (.ty n)
 | _=>none
theorem RelV.abs {x:V} (r:RelV x u):J02 u=some x:=by
 cases x with
 | non=>cases r; rfl
 | bl _=>cases r; rfl
 | int _=>obtain ⟨t,rfl⟩:=r; rfl
 | str _=>obtain ⟨t,rfl⟩:=r; rfl
 | byt _=>obtain ⟨t,rfl⟩:=r; rfl
 | flt _=>obtain ⟨t,rfl⟩:=r; rfl
 | ref _=>cases r; rfl
 | ty _=>cases r; rfl
theorem RelV.inj {x:V} (r:RelV x u) (q:RelV y u):x=y:=Option.some.inj (r.abs.symm.trans q.abs)
theorem Vals.inj:∀ {xs ys:List V} {us:List aB},Vals xs us->Vals ys us->xs=ys
 | _,_,_,.nil,.nil=>rfl
 | _,_,_,.cons r t,.cons r' t'=>by rw [r.inj r',Vals.inj t t']
variable {xs ys:List V}
section
variable {σ:St}
theorem SqL.of (h:H a=some (.lst xs)):SqL K H a xs:=.inl (.inl h)
theorem SqT.of (h:H a=some (.tup xs)):SqT K H a xs:=.inl (.inl h)
theorem Inv.list (I:Inv X pins σ H s) (h:SqL X.K H a xs):∃ its:List aB,Vals xs its/\PlainL s.heap a its.toArray/\xs.length<=sizeLine:=by
 rcases h with h | ⟨o,its,n,hk,hc,hd,hs,hz,r⟩
 ·obtain ⟨z,its,n,r,e⟩:=h.ok I.hok;exact ⟨its,r,⟨_,n,e,rfl,rfl,rfl⟩,z⟩
 ·refine ⟨its.toList,r,⟨o,n,I.kIn a o hk,hc,hd,by simpa using hs⟩,?_⟩;have e:=r.length;simp only [Array.length_toList] at e;omega
theorem Inv.tuple (I:Inv X pins σ H s) (h:SqT X.K H a xs):∃ its:List aB,Vals xs its/\IsTup s.heap a its.toArray/\xs.length<=sizeLine:=by
 rcases h with h | ⟨o,its,n,hk,hc,hs,hz,r⟩
 ·obtain ⟨z,its,r,p⟩:=h.ok I.hok;exact ⟨its,r,p,z⟩
 ·refine ⟨its.toList,r,⟨o,I.kIn a o hk,hc,n,by simpa using hs⟩,?_⟩;have e:=r.length;simp only [Array.length_toList] at e;omega
theorem Inv.list_inj (I:Inv X pins σ H s) (h:SqL X.K H a xs) (h':SqL X.K H a ys):xs=ys:=by
 obtain ⟨its,r,⟨o,n,e,_,_,d⟩,_⟩:=I.list h;obtain ⟨its',r',⟨o',n',e',_,_,d'⟩,_⟩:=I.list h';rw [e] at e'; cases e';rw [d] at d';injection d' with d1 _
 have:its=its':=by simpa using congrArg Array.toList d1
 subst this;exact r.inj r'
theorem Inv.tuple_inj (I:Inv X pins σ H s) (h:SqT X.K H a xs) (h':SqT X.K H a ys):xs=ys:=by
 obtain ⟨its,r,⟨o,e,_,n,d⟩,_⟩:=I.tuple h;obtain ⟨its',r',⟨o',e',_,n',d'⟩,_⟩:=I.tuple h';rw [e] at e'; cases e';rw [d] at d';injection d' with d1 _
 have:its=its':=by simpa using congrArg Array.toList d1
 subst this;exact r.inj r'
end
abbrev Cx.wish (X:Cx) (E:aB->aC->Prop):Cx:={ X with xe:=E }
abbrev Cx.nox (X:Cx):Cx:=X.wish fun _ _=>False
theorem Cx.Ok.wish (ok:X.Ok) (E:aB->aC->Prop):(X.wish E).Ok:=
 ⟨ok.mod,ok.kind,ok.glob,ok.blt,ok.above,ok.inj,ok.has,ok.cab,ok.hd,ok.frames,ok.stk,ok.exf,ok.bs,ok.bsz,ok.noex,ok.exfs,ok.funs,ok.frf⟩
theorem Cx.Ok.unwish (ok:(X.wish E).Ok):X.Ok:=
 ⟨ok.mod,ok.kind,ok.glob,ok.blt,ok.above,ok.inj,ok.has,ok.cab,ok.hd,ok.frames,ok.stk,ok.exf,ok.bs,ok.bsz,ok.noex,ok.exfs,ok.funs,ok.frf⟩
variable {E:aB->aC->Prop}
section
variable {σ:St}
theorem Inv.wish (I:Inv X pins σ H s) (E:aB->aC->Prop):Inv (X.wish E) pins σ H s:=⟨I.ok.wish E,I.os,I.bare,I.base,I.loc,I.cell,I.free,I.freeC,I.pin,I.hok,I.len⟩
theorem Inv.unwish (I:Inv (X.wish E) pins σ H s):Inv X pins σ H s:=⟨I.ok.unwish,I.os,I.bare,I.base,I.loc,I.cell,I.free,I.freeC,I.pin,I.hok,I.len⟩
theorem SP.unwish {D:Ends} {f:Flow} (h:SP (X.wish E) pins D f s'):SP X pins D f s':=by
 cases f with
 | next=>obtain ⟨σ',H',I,q⟩:=h; exact ⟨σ',H',I.unwish,q⟩
 | brk=>obtain ⟨σ',H',I,q⟩:=h; exact ⟨σ',H',I.unwish,q⟩
 | cont=>obtain ⟨σ',H',I,q⟩:=h; exact ⟨σ',H',I.unwish,q⟩
 | ret u=>obtain ⟨v,σ',H',I,r,q⟩:=h; exact ⟨v,σ',H',I.unwish,r,q⟩
theorem PSs.nox {st:List aK} {t:TS} (h:PSs X.nox st t):PSs X st t:=fun pins s σ H D I hw=>
 ae (h pins s σ H D (I.wish _) hw) (fun _ _ q=>q.unwish) fun _ _ z=>False.elim z
end
variable {st:aK} {u:TS} {te:TE} {pos:Pos}
section
variable {rest:List aK} {t:TS} {e:aF}
def Qqd:TS:=fun D σ H=>D.nx σ H
def Qyz (t u:TS):TS:=fun D σ H=>t { D with nx:=u D } σ H
theorem Qmz:PSs X [] Qqd:=fun _ _ σ H _ I h=>wpAny_execs_nil ⟨σ,H,I,h⟩
theorem Qak (h1:PS X st t) (h2:PSs X rest u):PSs X (st :: rest) (Qyz t u):=by
 intro pins s σ H D I h;refine wpAny_execs_cons (thn (h1 pins s σ H { D with nx:=u D } I h) fun f s1 q=>?_)
 cases f with
 | next=>
  obtain ⟨σ',H',I',q⟩:=q;exact h2 pins s1 σ' H' D I' q
 | ret v=>exact q
 | brk=>exact q
 | cont=>exact q
theorem Q3z (h1:PS X st t):PSs X [st] t:=by
 intro pins s σ H D I h;refine wpAny_execs_cons (thn (h1 pins s σ H D I h) fun f s1 q=>?_)
 cases f with
 | next=>exact wpAny_execs_nil q
 | ret v=>exact q
 | brk=>exact q
 | cont=>exact q
theorem Qn1:PS X (.Pass pos) Qqd:=fun _ _ σ H _ I h=>wpAny_Pass ⟨σ,H,I,h⟩
theorem Inv.quiet {σ:St} (I:Inv X pins σ H s):interactive X.env=false:=by simp [interactive,I.ok.kind]
def Qvb (te:TE):TS:=fun D σ H=>te σ H fun _ H1=>D.nx σ H1
theorem Qdq (he:PE X e te) (hs:swapsWith e none pos.line X.env=pure false:=by rfl):PS X (.Expr e pos) (Qvb te):=by
 intro pins s σ H D I h;exact wpAny_Expr_any (thn (he pins s σ H _ I h) fun v s1 ⟨x,H1,I1,r1,q1⟩=>⟨σ,H1,I1,q1⟩) I.quiet hs
def Qv6 (te:TE):TS:=fun D σ H=>te σ H D.rt
theorem Qik (he:PE X e te):PS X (.Return (some e) pos) (Qv6 te):=by
 intro pins s σ H D I h;exact wpAny_Return_some (thn (he pins s σ H _ I h) fun v s1 ⟨x,H1,I1,r1,q1⟩=>⟨x,σ,H1,I1,r1,q1⟩)
def Qz3 (c:TT) (t u:TS):TS:=fun D σ H=>c σ H fun b H1=>if b=true then t D σ H1 else u D σ H1
theorem Qvx {a b:List aK} (hc:PT X c tc) (ha:PSs X a t) (hb:PSs X b u):PS X (.If c a b pos) (Qz3 tc t u):=by
 intro pins s σ H D I h;refine wpAny_If (thn (hc pins s σ H _ I h) fun d s1 ⟨H1,I1,q1⟩=>?_)
 cases d with
 | true=>exact ha pins s1 σ H1 D I1 q1
 | false=>exact hb pins s1 σ H1 D I1 q1
end
abbrev TG:=V->St->Hp->(St->Hp->Prop)->Prop
abbrev TGs:=List V->St->Hp->(St->Hp->Prop)->Prop
def PG (X:Cx) (target:aF) (t:TG):Prop:=
 ∀ (pins:List (aA × Obj)) (s:aC) (σ:St) (H:Hp) (v:V) (u:aB) (Q:St->Hp->Prop),Inv X pins σ H s->RelV v u->t v σ H Q ->
  aI (aJ X.prog X.w) X.A (assign target X.env u) (fun _ s'=>∃ σ' H',Inv X pins σ' H' s'/\Q σ' H') X.xe s
def PGs (X:Cx) (ts:List aF) (t:TGs):Prop:=
 ∀ (pins:List (aA × Obj)) (s:aC) (σ:St) (H:Hp) (vs:List V) (us:List aB) (Q:St->Hp->Prop),Inv X pins σ H s->Vals vs us->t vs σ H Q ->
  aI (aJ X.prog X.w) X.A (assignInOrder ((ao ts X.env).map (·.2)) us) (fun _ s'=>∃ σ' H',Inv X pins σ' H' s'/\Q σ' H') X.xe s
abbrev Qui:=V->V->V->Hp->(Hp->Prop)->Prop
def Qxv (X:Cx) (t:Qui):Prop:=
 ∀ (pins:List (aA × Obj)) (s:aC) (σ:St) (H:Hp) (o i v:V) (ov iv u:aB) (Q:Hp->Prop),Inv X pins σ H s->RelV o ov->RelV i iv->RelV v u->t o i v H Q ->
  aI (aJ X.prog X.w) X.A (setItem ov iv u) (fun _ s'=>∃ H',Inv X pins σ H' s'/\Q H') X.xe s
def Q81 (i:Nat):TG:=fun v σ H Q=>Q (σ.set i (some v)) H
theorem Qn8 {i:Nat} {x:Str} (hN:X.N.Nodup) (hi:X.N[i]?=some x) (hx:Loc X.env.scope x) (hf:X.fn x=true\/X.env.scope.names.lookup x=some .local:=by first | exact .inl rfl | exact .inr rfl | assumption):PG X (.Name x pos) (Q81 i):=by
 intro pins s σ H v u Q I r h;exact wpAny_assign_Name (Q4n I hN hi hx r (fun s' I'=>⟨_,H,I',h⟩) hf)
def Qxb:TGs:=fun vs σ H Q=>vs=[]/\Q σ H
def Qjw (t:TG) (u:TGs):TGs:=fun vs σ H Q=>∃ v r,vs=v :: r/\t v σ H fun σ' H'=>u r σ' H' Q
theorem Qn6:PGs X [] Qxb:=by
 intro pins s σ H vs us Q I r h;obtain ⟨e,h⟩:=h;subst e;cases r;exact assignInOrder_nil ⟨σ,H,I,h⟩
theorem Qir {e:aF} {t:TG} {u:TGs} (h1:PG X e t) (h2:PGs X es u)
  (hs:(ao (e :: es) X.env).map (·.2)=assign e X.env :: (ao es X.env).map (·.2):=by rfl):PGs X (e :: es) (Qjw t u):=by
 intro pins s σ H vs us Q I r h;obtain ⟨v,vr,e1,h⟩:=h;subst e1;cases r with
 | cons r rr=>
  rw [hs];refine assignInOrder_cons (thn (h1 pins s σ H _ _ _ I r h) fun _ s1 ⟨σ1,H1,I1,q1⟩=>?_)
  exact h2 pins s1 σ1 H1 _ _ Q I1 rr q1
def Qxa (K:PySem.W.Frag) (n:Nat) (t:TGs):TG:=fun v σ H Q=>∃ a xs,v=.ref a/\SqT K H a xs/\xs.length=n/\t xs σ H Q
theorem Qsj {k:Nat} {t:TGs} {n:Nat} (hc:X.calm=true) (h:PGs X es t)
  (hn:(ao es X.env).length=n:=by rfl) (hst:(ao es X.env).findIdx? (·.1)=none:=by rfl):PG X (.Tuple es k pos) (Qxa X.K n t):=by
 intro pins s σ H v u Q I r hw;obtain ⟨a,xs,e1,hq,hl,hw⟩:=hw;subst e1;cases r;obtain ⟨its,rv,ht,hz⟩:=I.tuple hq;refine assign_Tuple_tuple (I.ok.hd hc) ht (by simp [hn,<- hl,rv.length]) hst fun h' hx=>?_
 have I1:Inv X pins σ H { s with heap:=h' }:=I.kept (t':=s.toks) fun b o e=>hx b o (E6 (O8 e)) e
 exact h pins _ σ H xs _ Q I1 (by simpa using rv) hw
def Qzw (to ti:TE) (t:Qui):TG:=fun v σ H Q=>to σ H fun o H1=>ti σ H1 fun i H2=>t o i v H2 fun H3=>Q σ H3
theorem Qsk {o i:aF} {to ti:TE} {t:Qui} (ho:PE X o to) (hi:PE X i ti) (hs:Qxv X t)
  (ha:∀ v,assign (.Subscript o i pos) X.env v=(do
   let ov <- ag [v] (aL o X.env)
   let iv <- ag [v,ov] (aL i X.env)
   standAt pos
   ag [v,ov,iv] (setItem ov iv v)
   release [v,ov,iv] []):=by intro _; rfl):PG X (.Subscript o i pos) (Qzw to ti t):=by
 intro pins s σ H v u Q I r h;rw [ha];refine aD (bB (thn (ho pins s σ H _ I h) fun ov s1 ⟨x,H1,I1,r1,q1⟩=>?_))
 refine aD (bB (thn (hi pins s1 σ H1 _ I1 q1) fun iv s2 ⟨y,H2,I2,r2,q2⟩=>?_))
 refine aD (wpAny_standAt (aD (bB (thn (hs pins s2 σ H2 x y v ov iv u _ I2 r1 r2 r q2) fun _ s3 ⟨H3,I3,q3⟩=>?_))))
 exact wpAny_release ⟨σ,H3,I3,q3⟩
def Qm4 (te:TE) (g:TG):TS:=fun D σ H=>te σ H fun x H1=>g x σ H1 D.nx
theorem Qin {e:aF} {g:TG} (he:PE X e te) (hg:PG X tg g) (hs:swapsWithSole [tg] e pos.line X.env=pure false:=by rfl) (hw:swappedStores [tg] e X.env=pure none:=by rfl)
  (h1:(ao [tg] X.env).map (·.2)=[assign tg X.env]:=by rfl):PS X (.Assign [tg] e pos) (Qm4 te g):=by
 intro pins s σ H D I h;refine wpAny_Assign_stores (thn (he pins s σ H _ I h) fun v s1 ⟨x,H1,I1,r1,q1⟩=>?_) hs hw
 rw [h1];exact thn (hg pins s1 σ H1 x v _ I1 r1 q1) fun _ s2 q=>q
theorem Qij {i:Nat} {x:Str} {e:aF} {pos':Pos} (hN:X.N.Nodup) (hi:X.N[i]?=some x) (hx:Loc X.env.scope x) (he:PE X e te) (hs:swapsWith e (some (.Name x pos')) pos.line X.env=pure false:=by rfl) (hf:X.fn x=true\/X.env.scope.names.lookup x=some .local:=by first | exact .inl rfl | exact .inr rfl | assumption) :
  PS X (.Assign [.Name x pos'] e pos) (Qm4 te (Q81 i)):=by
 intro pins s σ H D I h;refine wpAny_Assign_Name (thn (he pins s σ H _ I h) fun v s1 ⟨y,H1,I1,r1,q1⟩=>?_) hs
 exact Q4n I1 hN hi hx r1 (fun s2 I2=>⟨_,H1,I2,q1⟩) hf
def Qr5 (c:TT) (tb:TS):TS:=fun D σ H=>∃ W:Nat->St->Hp->Prop,(∃ m,W m σ H)/\∀ m σ H,W m σ H ->
 c σ H fun b H1=>if b=true then ∃ N:St->Hp->Prop,(∀ σ' H',N σ' H'->∃ m',m' < m/\W m' σ' H')/\tb { D with nx:=N,ct:=N,bk:=D.nx } σ H1 else D.nx σ H1
theorem Qih {body:List aK} (hp:PassesOwn (aJ X.prog X.w) X.A X.env X.xe) (hc:PT X c tc) (hb:PSs X body tb):PS X (.While c body [] pos) (Qr5 tc tb):=by
 intro pins s σ H D I h;obtain ⟨W,⟨m0,w0⟩,turn⟩:=h;refine wpAny_While (codeAny_whileLoop (fun n s'=>∃ σ' H',Inv X pins σ' H' s'/\W n σ' H') ?_ m0 ⟨σ,H,I,w0⟩);rintro n s1 ⟨σ1,H1,I1,w1⟩;refine bC hp (thn (hc pins s1 σ1 H1 _ I1 (turn n σ1 H1 w1)) fun b s2 ⟨H2,I2,q2⟩=>?_)
 cases b with
 | true=>
  obtain ⟨N,hN,q2⟩:=q2;rw [bM rfl];refine bC hp (thn (hb pins s2 σ1 H2 _ I2 q2) fun f s3 q3=>?_)
  cases f with
  | next=>
   obtain ⟨σ3,H3,I3,n3⟩:=q3;obtain ⟨m',hm,w3⟩:=hN σ3 H3 n3;exact ⟨m',hm,σ3,H3,I3,w3⟩
  | cont=>
   obtain ⟨σ3,H3,I3,n3⟩:=q3;obtain ⟨m',hm,w3⟩:=hN σ3 H3 n3;exact ⟨m',hm,σ3,H3,I3,w3⟩
  | brk=>exact q3
  | ret v=>exact q3
 | false=>
  rw [bN D8];exact wpAny_execs_nil ⟨σ1,H2,I2,q2⟩
structure It where
 go:Nat->Hp->Prop
 yld:Nat->Hp->V->Hp->Prop
 stop:Nat->Hp->Prop
def Q6f (X:Cx) (pins:List (aA × Obj)) (H:Hp) (b:aA):Prop:=
 H b=none/\b≠X.env.locals/\b∉X.fs/\(b∈X.ex\/X.s₀.heap.objs.size<=b)/\(∀ x c,X.env.cells.lookup x=some c->c≠b)/\∀ p∈X.pn ++ pins,p.1≠b
theorem Inv.fpOk {σ:St} (I:Inv X pins σ H s) (hb:s.heap.objs.size<=b) (hn:H' b=none):Q6f X pins H' b:=by
 refine ⟨hn,Nat.ne_of_gt (D1 I.lt hb),I.nofs hb,.inr (F1 I.sz hb),fun x c e z=>?_,fun p hp z=>?_⟩
 ·obtain ⟨v,q⟩:=I.cell x c e;exact absurd (D1 q.lt (by rw [z]; exact hb)) (Nat.lt_irrefl _)
 ·exact absurd (D1 (O8 (I.pin p hp).1) (by rw [z]; exact hb)) (Nat.lt_irrefl _)
structure Turn (P:aP) (w:aN) (K:PySem.W.Frag) (tg:aF) (J:It) (fp:List aA) (it:aA) (tn:Nat->Heap->Prop):Prop where
 mem:it∈fp
 obj:∀ i h,tn i h->∀ b∈fp,∃ o,h.get? b=some o/\∀ v,o.data≠.cell v
 keep:∀ i h h',tn i h->(∀ b∈fp,∀ o,h.get? b=some o->h'.get? b=some o)->tn i h'
 item:∀ (X:Cx),X.prog=P->X.w=w->X.K=K->X.calm=true->∀ (i:Nat) (pins:List (aA × Obj)) (s:aC) (σ:St) (H:Hp) (E:aB->aC->Prop),Inv X pins σ H s->(∀ b∈fp,Q6f X pins H b)->tn i s.heap->J.go i H ->
  aI (aJ P w) X.A (az (.ref it)) (fun r s1=>∃ u,r=some u /\
   aI (aJ P w) X.A (letOwnedTupleGo tg (.ref it) u) (fun _ s2=>∃ x H',Inv X pins σ H' s2/\RelV x u/\J.yld i H x H'/\tn (i + 1) s2.heap/\∀ b∈fp,H' b=none) E s1) E s
 done:∀ (X:Cx),X.prog=P->X.w=w->X.K=K->X.calm=true->∀ (i:Nat) (pins:List (aA × Obj)) (s:aC) (σ:St) (H:Hp) (E:aB->aC->Prop),Inv X pins σ H s->(∀ b∈fp,Q6f X pins H b)->tn i s.heap->J.stop i H ->
  aI (aJ P w) X.A (az (.ref it)) (fun r s1=>r=none/\Inv X pins σ H s1) E s
 self:∀ (A:aQ) (i:Nat) (s:aC) (Q:aB->aC->Prop) (E:aB->aC->Prop),tn i s.heap->Q (.ref it) s->aI (aJ P w) A (pyIter (.ref it)) Q E s
abbrev TI:=St->Hp->(It->Hp->Prop)->Prop
def PIE (X:Cx) (pins:List (aA × Obj)) (σ:St) (tg:aF) (R:It->Hp->Prop) (itv:aB) (s2:aC):Prop:=
 ∃ (it:aA) (fp:List aA) (tn:Nat->Heap->Prop) (J:It) (H':Hp),itv=.ref it/\Inv X pins σ H' s2/\Turn X.prog X.w X.K tg J fp it tn/\tn 0 s2.heap/\(∀ b∈fp,Q6f X pins H' b)/\R J H'
def PI (X:Cx) (tg iter:aF) (wi:TI):Prop:=
 ∀ (pins:List (aA × Obj)) (s:aC) (σ:St) (H:Hp) (R:It->Hp->Prop),Inv X pins σ H s->wi σ H R ->
  aI (aJ X.prog X.w) X.A (aL iter X.env) (fun v s1=>aI (aJ X.prog X.w) X.A (pyIter v) (PIE X pins σ tg R) X.xe s1) X.xe s
theorem Qea {M:Model} {A:aQ} {E:aB->aC->Prop} {tg:aF} {u:aB} {o:Obj} {n:String} {vs:Array aB} {Q:Unit->aC->Prop} (ho:s.heap.get? it=some o) (hc:o.cls=.type n) (hd:o.data=.fields vs)
  (hn:["enumerate", "zip", "dict_itemiterator", "dict_reverseitemiterator", "odict_iterator", "itertools.zip_longest", "itertools.pairwise"].contains n=false) (hQ:Q () s):aI M A (letOwnedTupleGo tg (.ref it) u) Q E s:=by
 unfold letOwnedTupleGo;cases tg <;> first
  | exact wpAny_pure hQ
  | (cases u <;> first
    | exact wpAny_pure hQ
    | (refine aD (wpAny_load ho ?_)
       rw [hc,hd];show aI M A (if (["enumerate", "zip", "dict_itemiterator", "dict_reverseitemiterator", "odict_iterator", "itertools.zip_longest", "itertools.pairwise"].contains n && vs[0]? == some (aZ _))=true then _ else _) Q E s;rw [bN (by intro h; rw [hn,Bool.false_and] at h; cases h)];exact wpAny_pure hQ))
def Itl (K:PySem.W.Frag) (a:aA):It:=
 ⟨fun i H=>∃ xs x,SqL K H a xs/\xs[i]?=some x,fun i H x H'=>H'=H/\∀ xs,SqL K H a xs->xs[i]?=some x,fun i H=>∃ xs,SqL K H a xs/\xs.length<=i⟩
def Itt (K:PySem.W.Frag) (a:aA):It:=
 ⟨fun i H=>∃ xs x,SqT K H a xs/\xs[i]?=some x,fun i H x H'=>H'=H/\∀ xs,SqT K H a xs->xs[i]?=some x,fun i H=>∃ xs,SqT K H a xs/\xs.length<=i⟩
def Itr (lo:Int) (n:Nat):It:=⟨fun i _=>i < n,fun i H x H'=>H'=H/\x=.int (lo + i),fun i _=>n<=i⟩
theorem Qew {w:aN} (a it:aA):Turn P w K tg (Itl K a) [it] it (fun i h=>h.IsListIter it a i) where
 mem:=by simp
 obj:=fun i h st b hb=>by
  have e:b=it:=by simpa using hb
  subst e;obtain ⟨o,e,c,d⟩:=st;exact ⟨o,e,fun v z=>by rw [d] at z; cases z⟩
 keep:=fun i h h' st k=>st.at fun o e=>k it (by simp) o e
 item:=by
  intro X hP hw hK hc i pins s σ H E I hf st hg;subst hP hw hK;obtain ⟨xs,x,hq,hx⟩:=hg;obtain ⟨its,rv,p,hz⟩:=I.list hq;obtain ⟨u,hu,ru⟩:=rv.get hx;obtain ⟨f0,f1,f2,f3,f4,f5⟩:=hf it (by simp);refine wpAny_pyNext_list_item st p.isList (x:=u) (by simpa using hu) fun h' st' sb=>?_
  have I1:Inv X pins σ H { s with heap:=h' }:=I.turned (t':=s.toks) (fun b o hb e=>(sb.2 b hb).trans e) f0 f1 f3 f4 f5
  obtain ⟨o,e,c,d⟩:=id st';exact ⟨u,rfl,Qea (s:={ s with heap:=h' }) e c d (by decide) ⟨x,H,I1,ru,⟨rfl,fun ys hy=>by rw [I.list_inj hy hq]; exact hx⟩,st',fun b hb=>(hf b hb).1⟩⟩
 done:=by
  intro X hP hw hK hc i pins s σ H E I hf st hg;subst hP hw hK;obtain ⟨xs,hq,hx⟩:=hg;obtain ⟨its,rv,p,hz⟩:=I.list hq;obtain ⟨f0,f1,f2,f3,f4,f5⟩:=hf it (by simp);have hl:=rv.length;exact wpAny_pyNext_list_end (I.ok.hd hc) st p.isList (by simp; omega) fun h' eb=>⟨rfl,I.turned (t':=s.toks) (fun b o hb e=>eb b o hb e) f0 f1 f3 f4 f5⟩
 self:=fun _ _ _ _ _ st h=>wpAny_pyIter_listiter st h
theorem Qbn {w:aN} (a it:aA):Turn P w K tg (Itt K a) [it] it (fun i h=>h.IsTupleIter it a i) where
 mem:=by simp
 obj:=fun i h st b hb=>by
  have e:b=it:=by simpa using hb
  subst e;obtain ⟨o,e,c,d⟩:=st;exact ⟨o,e,fun v z=>by rw [d] at z; cases z⟩
 keep:=fun i h h' st k=>st.at fun o e=>k it (by simp) o e
 item:=by
  intro X hP hw hK hc i pins s σ H E I hf st hg;subst hP hw hK;obtain ⟨xs,x,hq,hx⟩:=hg;obtain ⟨its,rv,p,hz⟩:=I.tuple hq;obtain ⟨u,hu,ru⟩:=rv.get hx;obtain ⟨f0,f1,f2,f3,f4,f5⟩:=hf it (by simp);refine wpAny_pyNext_tuple_item st (show s.heap.IsTuple a its.toArray from p) (x:=u) (by simpa using hu) fun h' st' sb=>?_
  have I1:Inv X pins σ H { s with heap:=h' }:=I.turned (t':=s.toks) (fun b o hb e=>(sb.2 b hb).trans e) f0 f1 f3 f4 f5
  obtain ⟨o,e,c,d⟩:=id st';exact ⟨u,rfl,Qea (s:={ s with heap:=h' }) e c d (by decide) ⟨x,H,I1,ru,⟨rfl,fun ys hy=>by rw [I.tuple_inj hy hq]; exact hx⟩,st',fun b hb=>(hf b hb).1⟩⟩
 done:=by
  intro X hP hw hK hc i pins s σ H E I hf st hg;subst hP hw hK;obtain ⟨xs,hq,hx⟩:=hg;obtain ⟨its,rv,p,hz⟩:=I.tuple hq;obtain ⟨f0,f1,f2,f3,f4,f5⟩:=hf it (by simp);have hl:=rv.length;exact wpAny_pyNext_tuple_end (I.ok.hd hc) st (show s.heap.IsTuple a its.toArray from p) (by simp; omega) fun h' eb=>⟨rfl,I.turned (t':=s.toks) (fun b o hb e=>eb b o hb e) f0 f1 f3 f4 f5⟩
 self:=fun _ _ _ _ _ st h=>wpAny_pyIter_tupleiter st h
theorem Qbp {w:aN} (it:aA) (lo:Int) (n:Nat):Turn P w K tg (Itr lo n) [it] it (fun i h=>IsRangeIter h it (lo + (i:Nat) * 1) ((n:Int) - (i:Nat)) 1) where
 mem:=by simp
 obj:=fun i h st b hb=>by
  have e:b=it:=by simpa using hb
  subst e;exact ⟨_,st,fun v z=>by
   have z':Data.fields _=Data.cell v:=z;cases z'⟩
 keep:=fun i h h' st k=>k it (by simp) _ st
 item:=by
  intro X hP hw hK hc i pins s σ H E I hf st hg;subst hP hw hK;obtain ⟨f0,f1,f2,f3,f4,f5⟩:=hf it (by simp);have W:=Walks.range (prog:=X.prog) (w:=X.w) (I.ok.hd hc) it lo 1 n;refine W.item i s _ _ hg st fun v h' tk hv st' kk=>?_
  obtain ⟨t,rfl⟩:=hv;have I1:Inv X pins σ H { s with heap:=h',toks:=tk }:=I.turned (fun b o hb e=>kk b o (by simpa using hb) e) f0 f1 f3 f4 f5
  refine ⟨_,rfl,Qea (s:={ s with heap:=h',toks:=tk }) (n := "range_iterator") st' rfl rfl (by decide) ⟨.int (lo + i),H,I1,⟨t,?_⟩,⟨rfl,rfl⟩,st',fun b hb=>(hf b hb).1⟩⟩
  rw [Int.mul_one]
 done:=by
  intro X hP hw hK hc i pins s σ H E I hf st hg;subst hP hw hK;obtain ⟨f0,f1,f2,f3,f4,f5⟩:=hf it (by simp);exact wpAny_pyNext_range_end (I.ok.hd hc) st (by have:n<=i:=hg; omega) fun h' eb=>⟨rfl,I.turned (t':=s.toks) (fun b o hb e=>eb b o hb e) f0 f1 f3 f4 f5⟩
 self:=fun _ _ _ _ _ st h=>wpAny_pyIter_rangeiter st h
variable {tg:aF}
def Qx1 (K:PySem.W.Frag) (tl:TE):TI:=fun σ H R=>tl σ H fun x H1=>∃ a,x=.ref a/\(∃ xs,SqL K H1 a xs)/\R (Itl K a) H1
def Qzu (K:PySem.W.Frag) (tl:TE):TI:=fun σ H R=>tl σ H fun x H1=>∃ a,x=.ref a/\(∃ xs,SqT K H1 a xs)/\R (Itt K a) H1
theorem Qn4 (hl:PE X l tl):PI X tg l (Qx1 X.K tl):=by
 intro pins s σ H R I h;refine thn (hl pins s σ H _ I h) fun v s1 ⟨x,H1,I1,r1,q1⟩=>?_
 obtain ⟨a,e,⟨xs,hq⟩,q⟩:=q1;subst e;cases r1;obtain ⟨its,rv,p,hz⟩:=I1.list hq;refine wpAny_pyIter_list p.isList ?_;refine ⟨s1.heap.objs.size,[s1.heap.objs.size],_,_,H1,rfl,I1.kept (t':=s1.toks) fun b o e=>O0 _ e,Qew a _,⟨_,D6 _ rfl,rfl,rfl⟩,fun b hb=>?_,q⟩
 have e:b=s1.heap.objs.size:=by simpa using hb
 subst e;exact I1.fpOk (O4 _) (I1.hok.fresh (O4 _))
theorem Qsi (hl:PE X l tl):PI X tg l (Qzu X.K tl):=by
 intro pins s σ H R I h;refine thn (hl pins s σ H _ I h) fun v s1 ⟨x,H1,I1,r1,q1⟩=>?_
 obtain ⟨a,e,⟨xs,hq⟩,q⟩:=q1;subst e;cases r1;obtain ⟨its,rv,p,hz⟩:=I1.tuple hq;refine bJ (show s1.heap.IsTuple a its.toArray from p) ?_;refine ⟨s1.heap.objs.size,[s1.heap.objs.size],_,_,H1,rfl,I1.kept (t':=s1.toks) fun b o e=>O0 _ e,Qbn a _,⟨_,D6 _ rfl,rfl,rfl⟩,fun b hb=>?_,q⟩
 have e:b=s1.heap.objs.size:=by simpa using hb
 subst e;exact I1.fpOk (O4 _) (I1.hok.fresh (O4 _))
theorem Qai {σ:St} {R:It->Hp->Prop} {E:aB->aC->Prop} {lo hi:Int} {t u v:Tok} {tk:Nat} (I:Inv X pins σ H s) (h1:-(2 ^ 62)<=lo) (h2:lo < 2 ^ 62) (h3:-(2 ^ 62)<=hi) (h4:hi < 2 ^ 62)
  (q:R (Itr lo (hi - lo).toNat) H):aI (aJ X.prog X.w) X.A (pyIter (.ref s.heap.objs.size)) (PIE X pins σ tg R) E { s with heap:=s.heap.push { cls:=.type "range",data:=.fields #[.int lo t,.int hi u,.int 1 v] },toks:=tk }:=by
 refine wpAny_pyIter_range (IsRange.new ..) (small_one h1 h2 h3 h4) ?_;have I1:Inv X pins σ H { s with heap:=s.heap.push { cls:=.type "range",data:=.fields #[.int lo t,.int hi u,.int 1 v] },toks:=tk }:=I.kept fun b o e=>O0 _ e
 refine ⟨(s.heap.push { cls:=.type "range",data:=.fields #[.int lo t,.int hi u,.int 1 v] }).objs.size,[(s.heap.push { cls:=.type "range",data:=.fields #[.int lo t,.int hi u,.int 1 v] }).objs.size],_,_,H,rfl,
  I1.kept (t':=tk) fun b o e=>O0 _ e,Qbp _ lo (hi - lo).toNat,?_,fun b hb=>?_,q⟩
 ·have e1:lo + ((0:Nat):Int) * 1=lo:=by simp
  have e2:(((hi - lo).toNat:Nat):Int) - ((0:Nat):Int)=Builtin.Range.rangeSize lo hi 1:=by rw [rangeSize_one]; split <;> omega
  show IsRangeIter _ _ (lo + ((0:Nat):Int) * 1) ((((hi - lo).toNat:Nat):Int) - ((0:Nat):Int)) 1;rw [e1,e2];exact D6 _ rfl
 ·have e:b=(s.heap.push { cls:=.type "range",data:=.fields #[.int lo t,.int hi u,.int 1 v] }).objs.size:=by simpa using hb
  subst e;exact I1.fpOk (O4 _) (I1.hok.fresh (O4 _))
def Qx0 (ta:TA):TI:=fun σ H R=>ta σ H fun vs H1=>∃ j:Int,vs=[.int j]/\-(2 ^ 62)<=j/\j < 2 ^ 62/\R (Itr 0 j.toNat) H1
def Qwz (ta:TA):TI:=fun σ H R=>ta σ H fun vs H1=>∃ i j:Int,vs=[.int i,.int j]/\(-(2 ^ 62)<=i/\i < 2 ^ 62/\-(2 ^ 62)<=j/\j < 2 ^ 62)/\R (Itr i (j - i).toNat) H1
theorem Qfj {a:aF} {p:Pos} (hg:Gl X "range") (hm:X.mg "range" = none) (ha:PA X [a] ta) (hs:aM [a] X.env=[(false,aL a X.env)]:=by rfl):PI X tg (.Call (.Name "range" p) [a] [] pos) (Qx0 ta):=by
 intro pins s σ H R I h;refine Call_ (Q00 I hg hm boot_range (PyProof.Rows.callWith_type1 (thn (ha pos pins s σ H _ I h) fun us s1 ⟨vs,H1,I1,r1,q1⟩=>?_) hs rfl))
 obtain ⟨j,e,q1,q2,q⟩:=q1;subst e;cases r1 with
 | cons r rr=>
  cases rr;obtain ⟨t,rfl⟩:=r;exact call_range_1 (Qai I1 (by omega) (by omega) q1 q2 (by simpa using q))
theorem Qfi {a b:aF} {p pos:Pos} (hg:Gl X "range") (hm:X.mg "range" = none) (ha:PA X [a,b] ta) (hs:aM [a,b] X.env=[(false,aL a X.env),(false,aL b X.env)]:=by rfl) (hs2:aM [b] X.env=[(false,aL b X.env)]:=by rfl) :
  PI X tg (.Call (.Name "range" p) [a,b] [] pos) (Qwz ta):=by
 intro pins s σ H R I h;refine Call_ (Q00 I hg hm boot_range (PyProof.Rows.callWith_type1 (thn (ha pos pins s σ H _ I h) fun us s1 ⟨vs,H1,I1,r1,q1⟩=>?_) (by rw [hs,hs2]) (by rw [hs2]; rfl)))
 obtain ⟨i,j,e,⟨q1,q2,q3,q4⟩,q⟩:=q1;subst e;cases r1 with
 | cons r rr=>
  cases rr with
  | cons r' rr=>
   cases rr;obtain ⟨t,rfl⟩:=r;obtain ⟨t',rfl⟩:=r';exact call_range_2 (Qai I1 q1 q2 q3 q4 q)
def Qz4 (wi:TI) (g:TG) (tb:TS):TS:=fun D σ H=>wi σ H fun J H1=>∃ W:Nat->Nat->St->Hp->Prop,(∃ m,W 0 m σ H1)/\∀ i m σ H,W i m σ H ->
 (J.stop i H/\D.nx σ H)\/(J.go i H/\∃ N:St->Hp->Prop,(∀ σ' H',N σ' H'->∃ m',m' < m/\W (i + 1) m' σ' H')/\∀ x H',J.yld i H x H'->g x σ H' fun σ2 H2=>tb { D with nx:=N,ct:=N,bk:=D.nx } σ2 H2)
def Q54 (fp:List aA) (h:Heap):List (aA × Obj):=fp.filterMap fun b=>(h.get? b).map fun o=>(b,o)
theorem Xi {h:Heap} {o:Obj} (hb:b∈fp) (e:h.get? b=some o):(b,o)∈Q54 fp h:=List.mem_filterMap.mpr ⟨b,hb,by rw [e]; rfl⟩
theorem Qfs {h:Heap} {p:aA × Obj} (hp:p∈Q54 fp h):p.1∈fp/\h.get? p.1=some p.2:=by
 obtain ⟨b,hb,e⟩:=List.mem_filterMap.mp hp;cases q:h.get? b with
 | none=>rw [q] at e; cases e
 | some o=>
  rw [q] at e;have e':(b,o)=p:=Option.some.inj e;subst e';exact ⟨hb,q⟩
theorem Inv.pinned {σ:St} (I:Inv X pins σ H s) (hf:∀ b∈fp,Q6f X pins H b) (ho:∀ b∈fp,∃ o,s.heap.get? b=some o/\∀ v,o.data≠.cell v):Inv X (pins ++ Q54 fp s.heap) σ H s:=
 I.pins_of fun p hp=>(F7.mp hp).elim (fun z=>I.pin p (E8 _ z)) fun z=>by
  obtain ⟨hb,e⟩:=Qfs z;obtain ⟨f0,f1,f2,_⟩:=hf p.1 hb;obtain ⟨o,e',d⟩:=ho p.1 hb;rw [e] at e'; cases e';exact ⟨e,f0,f1,f2,d⟩
theorem Inv.unpinned {pl:List (aA × Obj)} {σ:St} (I:Inv X (pins ++ pl) σ H s):Inv X pins σ H s:=I.pins_of fun p hp=>I.pin p (E8 _ (G7 _ hp))
theorem Qse {iter:aF} {body:List aK} {wi:TI} {g:TG} {pos:Pos} (hp:PassesOwn (aJ X.prog X.w) X.A X.env X.xe) (hc:X.calm=true) (hi:PI X tg iter wi) (hg:PG X tg g) (hb:PSs X body tb)
  (hs:∀ x,av iter X.env x=pure x:=by intro _; rfl):PS X (.For tg iter body [] pos) (Qz4 wi g tb):=by
 intro pins s σ H D I h;refine wpAny_For (thn (hi pins s σ H _ I h) fun v s1 h1=>thn h1 fun itv s2 h2=>?_) hs
 obtain ⟨it,fp,tn,J,H2,e,I2,T,st2,f2,W,⟨m0,w0⟩,turn⟩:=h2;subst e;have stat:∀ {H':Hp},(∀ b∈fp,H' b=none)->∀ b∈fp,Q6f X pins H' b:=fun hn b hb=>⟨hn b hb,(f2 b hb).2⟩
 refine codeAny_forLoop_any (fun n s'=>∃ i σ' H',Inv X pins σ' H' s'/\tn i s'.heap/\(∀ b∈fp,H' b=none)/\W i n σ' H') ?_ m0 ⟨0,σ,H2,I2,st2,fun b hb=>(f2 b hb).1,w0⟩
 rintro n s3 ⟨i,σ3,H3,I3,st3,fr3,w3⟩;rcases turn i n σ3 H3 w3 with ⟨stop,qn⟩ | ⟨go,N,hN,step⟩
 ·refine bC hp (thn (T.done X rfl rfl rfl hc i pins s3 σ3 H3 X.xe I3 (stat fr3) st3 stop) fun r s4 ⟨hr,I4⟩=>?_)
  subst hr;exact wpAny_execs_nil ⟨σ3,H3,I4,qn⟩
 ·refine bC hp (thn (T.item X rfl rfl rfl hc i pins s3 σ3 H3 X.xe I3 (stat fr3) st3 go) fun r s4 ⟨u,hr,h4⟩=>?_)
  subst hr;refine bC hp (thn h4 fun _ s5 ⟨x,H5,I5,r5,y5,st5,fr5⟩=>?_);have I5':=I5.pinned (stat fr5) (T.obj _ _ st5);refine bC hp (thn (hg _ s5 σ3 H5 x u _ I5' r5 (step x H5 y5)) fun _ s6 ⟨σ6,H6,I6,q6⟩=>?_)
  refine bC hp (thn (hb _ s6 σ6 H6 _ I6 q6) fun f s7 q7=>?_)
  have again:∀ {σ7:St} {H7:Hp},Inv X (pins ++ Q54 fp s5.heap) σ7 H7 s7->N σ7 H7->∃ m,m < n/\∃ i σ' H',Inv X pins σ' H' s7/\tn i s7.heap/\(∀ b∈fp,H' b=none)/\W i m σ' H':=fun {σ7 H7} I7 n7=>by
   obtain ⟨m',hm,w7⟩:=hN σ7 H7 n7;refine ⟨m',hm,i + 1,σ7,H7,I7.unpinned,T.keep _ _ _ st5 fun b hb o e=>(I7.pin (b,o) (E8 _ (E8 _ (Xi hb e)))).1,fun b hb=>?_,w7⟩;obtain ⟨o,e,d⟩:=T.obj _ _ st5 b hb;exact (I7.pin (b,o) (E8 _ (E8 _ (Xi hb e)))).2.1
  cases f with
  | next=>obtain ⟨σ7,H7,I7,n7⟩:=q7; exact again I7 n7
  | cont=>obtain ⟨σ7,H7,I7,n7⟩:=q7; exact again I7 n7
  | brk=>obtain ⟨σ7,H7,I7,q7⟩:=q7; exact ⟨σ7,H7,I7.unpinned,q7⟩
  | ret v=>obtain ⟨x7,σ7,H7,I7,r7,q7⟩:=q7; exact ⟨x7,σ7,H7,I7.unpinned,r7,q7⟩
abbrev R2:=V->V->Hp->VK->Prop
variable {r:R2}
def OpR (X:Cx) (f:aB->aB->Sem aB) (r:R2):Prop:=
 ∀ (pins:List (aA × Obj)) (s:aC) (σ:St) (H:Hp) (x y:V) (v u:aB) (Q:VK),Inv X pins σ H s->RelV x v->RelV y u->r x y H Q ->
  aI (aJ X.prog X.w) X.A (f v u) (EP X pins σ Q) X.xe s
def UnR (X:Cx) (f:aB->Sem aB) (r:V->Hp->VK->Prop):Prop:=
 ∀ (pins:List (aA × Obj)) (s:aC) (σ:St) (H:Hp) (x:V) (v:aB) (Q:VK),Inv X pins σ H s->RelV x v->r x H Q ->
  aI (aJ X.prog X.w) X.A (f v) (EP X pins σ Q) X.xe s
def K3 (X:Cx) (f:aB) (r:List V->Hp->VK->Prop):Prop:=
 ∀ (pins:List (aA × Obj)) (s:aC) (σ:St) (H:Hp) (xs:List V) (us:List aB) (Q:VK),Inv X pins σ H s->Vals xs us->r xs H Q ->
  aI (aJ X.prog X.w) X.A (call f us) (EP X pins σ Q) X.xe s
def tOp (r:R2) (ta tb:TE):TE:=fun σ H Q=>ta σ H fun x H1=>tb σ H1 fun y H2=>r x y H2 Q
def tUn (r:V->Hp->VK->Prop) (ta:TE):TE:=fun σ H Q=>ta σ H fun x H1=>r x H1 Q
def rI (C:Int->Int->Prop) (g:Int->Int->V):R2:=fun x y H Q=>∃ i j,x=.int i/\y=.int j/\C i j/\Q (g i j) H
def rI0 (g:Int->Int->V):R2:=fun x y H Q=>∃ i j,x=.int i/\y=.int j/\Q (g i j) H
def rU (g:Int->V):V->Hp->VK->Prop:=fun x H Q=>∃ i,x=.int i/\Q (g i) H
variable {b c:aF} {ta tb tc:TE}
section
variable {a:aF}
theorem Qud (ha:PE X a ta) (hb:PE X b tb) {σ:St} {R:V->V->Hp->Prop} (I:Inv X pins σ H s)
  (h:ta σ H fun x H1=>tb σ H1 fun y H2=>R x y H2) {Q:aB->aC->Prop} {f:aB->aB->Sem aB}
  (hf:∀ v u s2 x y H2,Inv X pins σ H2 s2->RelV x v->RelV y u->R x y H2->aI (aJ X.prog X.w) X.A (f v u) Q X.xe s2) :
  aI (aJ X.prog X.w) X.A (aL a X.env) (fun v s₁=>aI (aJ X.prog X.w) X.A (aL b X.env) (fun u s₂=>aI (aJ X.prog X.w) X.A (f v u) Q X.xe s₂) X.xe s₁) X.xe s:=by
 refine thn (ha pins s σ H _ I h) fun v s1 ⟨x,H1,I1,r1,q1⟩=>?_
 refine thn (hb pins s1 σ H1 _ I1 q1) fun u s2 ⟨y,H2,I2,r2,q2⟩=>?_
 exact hf v u s2 x y H2 I2 r1 r2 q2
theorem Qw3 {op:Operator} (ho:OpR X (aa op) r) (ha:PE X a ta) (hb:PE X b tb):PE X (.BinOp a op b pos) (tOp r ta tb):=by
 intro pins s σ H Q I h;exact wpAny_BinOp (Qud ha hb I h fun v u s2 x y H2 I2 rx ry q=>ho pins s2 σ H2 x y v u Q I2 rx ry q)
theorem Qw1 {op:UnaryOp} {r:V->Hp->VK->Prop} (ho:UnR X (unaryOp op) r) (ha:PE X a ta):PE X (.UnaryOp op a pos) (tUn r ta):=by
 intro pins s σ H Q I h;exact UnaryOp_ (thn (ha pins s σ H _ I h) fun v s1 ⟨x,H1,I1,r1,q1⟩=>ho pins s1 σ H1 x v Q I1 r1 q1)
theorem opI {f:aB->aB->Sem aB} {C:Int->Int->Prop} {g:Int->Int->Int}
  (rule:∀ (i j:Int) (t u:Tok) (s:aC) (Q:aB->aC->Prop) (E:aB->aC->Prop),C i j->Q (.int (g i j) s.toks) { s with toks:=s.toks + 1 }->aI (aJ X.prog X.w) X.A (f (.int i t) (.int j u)) Q E s) :
  OpR X f (rI C fun i j=>.int (g i j)):=by
 intro pins s σ H x y v u Q I rx ry h;obtain ⟨i,j,rfl,rfl,hc,q⟩:=h;obtain ⟨t,rfl⟩:=rx;obtain ⟨t',rfl⟩:=ry;exact rule i j t t' s _ _ hc ⟨.int (g i j),H,I.tok _,⟨_,rfl⟩,q⟩
theorem Qwh {f:aB->aB->Sem aB} {g:Int->Int->Int}
  (rule:∀ (i j:Int) (t u:Tok) (s:aC) (Q:aB->aC->Prop) (E:aB->aC->Prop),Q (.int (g i j) s.toks) { s with toks:=s.toks + 1 }->aI (aJ X.prog X.w) X.A (f (.int i t) (.int j u)) Q E s) :
  OpR X f (rI0 fun i j=>.int (g i j)):=by
 intro pins s σ H x y v u Q I rx ry h;obtain ⟨i,j,rfl,rfl,q⟩:=h;obtain ⟨t,rfl⟩:=rx;obtain ⟨t',rfl⟩:=ry;exact rule i j t t' s _ _ ⟨.int (g i j),H,I.tok _,⟨_,rfl⟩,q⟩
theorem Qnt {f:aB->aB->Sem aB} {g:Int->Int->Bool}
  (rule:∀ (i j:Int) (t u:Tok) (s:aC) (Q:aB->aC->Prop) (E:aB->aC->Prop),Q (.bool (g i j)) s->aI (aJ X.prog X.w) X.A (f (.int i t) (.int j u)) Q E s) :
  OpR X f (rI0 fun i j=>.bl (g i j)):=by
 intro pins s σ H x y v u Q I rx ry h;obtain ⟨i,j,rfl,rfl,q⟩:=h;obtain ⟨t,rfl⟩:=rx;obtain ⟨t',rfl⟩:=ry;exact rule i j t t' s _ _ ⟨.bl (g i j),H,I,rfl,q⟩
def J04 (i j:Int):Prop:=0 < j/\j < 1073741824
def CMul (i j:Int):Prop:=(-(2 ^ 64) < i/\i < 2 ^ 64)\/(-(2 ^ 64) < j/\j < 2 ^ 64)
theorem CMul.ok {i j:Int} (h:CMul i j):IntMulOk i j:=by
 rcases h with ⟨h1,h2⟩ | ⟨h1,h2⟩
 ·exact .of_left (intBits_le_64 h1 h2)
 ·exact .of_right (intBits_le_64 h1 h2)
theorem Qt6:OpR X (aa .Add) (rI0 fun i j=>.int (i + j)):=Qwh fun _ _ _ _ _ _ _ q=>add_int q
theorem Qt0:OpR X (aa .Sub) (rI0 fun i j=>.int (i - j)):=Qwh fun _ _ _ _ _ _ _ q=>sub_int q
theorem Qt2:OpR X (aa .Mult) (rI CMul fun i j=>.int (i * j)):=opI fun _ _ _ _ _ _ _ hc q=>mul_int q hc.ok
theorem Qnr:OpR X (aa .FloorDiv) (rI J04 fun i j=>.int (i / j)):=opI fun i j _ _ _ _ _ hc q=>by
 have h1:(0:Int) < j:=hc.1;have h2:j < 1073741824:=hc.2;exact floordiv_int (by omega) (by rw [Int.fdiv_eq_ediv_of_nonneg i (by omega)]; exact q) (.inl (PyProof.noPylong_small (by omega)))
theorem Qt3:OpR X (aa .Mod) (rI (fun _ j=>0 < j) fun i j=>.int (i % j)):=opI fun i j _ _ _ _ _ hc q=>by
 have h1:(0:Int) < j:=hc;exact mod_int' (by omega) (by rw [Int.fmod_eq_emod_of_nonneg i (by omega)]; exact q)
theorem unI {f:aB->Sem aB} {g:Int->Int}
  (rule:∀ (i:Int) (t:Tok) (s:aC) (Q:aB->aC->Prop) (E:aB->aC->Prop),Q (.int (g i) s.toks) { s with toks:=s.toks + 1 }->aI (aJ X.prog X.w) X.A (f (.int i t)) Q E s) :
  UnR X f (rU fun i=>.int (g i)):=by
 intro pins s σ H x v Q I rx h;obtain ⟨i,rfl,q⟩:=h;obtain ⟨t,rfl⟩:=rx;exact rule i t s _ _ ⟨.int (g i),H,I.tok _,⟨_,rfl⟩,q⟩
theorem Qqz:UnR X (unaryOp .USub) (rU fun i=>.int (-i)):=unI fun _ _ _ _ _ q=>neg_int q
end
section
variable {a:aF}
theorem Qk1 {σ:St} {Q:VK} {k k':Bool} (I:Inv X pins σ H s) (q:Q (.bl k) H) (e:k=k'):EP X pins σ Q (.bool k') s:=by
 subst e;exact ⟨.bl k,H,I,rfl,q⟩
theorem Qwd:OpR X (aU .Lt) (rI0 fun i j=>.bl (decide (i < j))):=Qnt fun _ _ _ _ _ _ _ q=>lt_int q
theorem Qwe:OpR X (aU .LtE) (rI0 fun i j=>.bl (decide (i<=j))):=Qnt fun _ _ _ _ _ _ _ q=>le_int q
theorem Qwf:OpR X (aU .Gt) (rI0 fun i j=>.bl (decide (j < i))):=Qnt fun _ _ _ _ _ _ _ q=>gt_int q
theorem Qwg:OpR X (aU .GtE) (rI0 fun i j=>.bl (decide (j<=i))):=Qnt fun _ _ _ _ _ _ _ q=>ge_int q
theorem Qnq:OpR X (aU .IsNot) (fun x y H Q=>y=.non/\Q (.bl (!decide (x=.non))) H):=by
 intro pins s σ H x y v u Q I rx ry h;obtain ⟨rfl,q⟩:=h;cases ry;refine isnot_none_gen (Qk1 I q ?_);cases x <;> first
  | (cases rx; rfl)
  | (obtain ⟨t,rfl⟩:=rx; rfl)
theorem OpR.or {r':R2} (h:OpR X f r) (h':OpR X f r'):OpR X f (fun x y H Q=>r x y H Q\/r' x y H Q):=by
 intro pins s σ H x y v u Q I rx ry q;rcases q with q | q
 ·exact h pins s σ H x y v u Q I rx ry q
 ·exact h' pins s σ H x y v u Q I rx ry q
theorem Qci (b:aF) (h:op≠.In:=by decide) (h2:op≠.NotIn:=by decide):bF op b=false:=by
 have e1:(op == CmpOp.In)=false:=by cases op <;> first | rfl | exact absurd rfl h
 have e2:(op == CmpOp.NotIn)=false:=by cases op <;> first | rfl | exact absurd rfl h2
 cases b <;> simp [bF,e1,e2]
theorem Qnd (ho:OpR X (aU op) r) (ha:PE X a ta) (hb:PE X b tb) (hm:bF op b=false):PE X (.Compare a [op] [b] pos) (tOp r ta tb):=by
 intro pins s σ H Q I h;exact wpAny_Compare1 (Qud ha hb I h fun v u s2 x y H2 I2 rx ry q=>ho pins s2 σ H2 x y v u Q I2 rx ry q) hm
def Qqc (t:TE):TT:=fun σ H Q=>t σ H fun x H'=>∃ k,x=.bl k/\Q k H'
theorem Qmy (ho:OpR X (aU op) r) (ha:PE X a ta) (hb:PE X b tb) (hm:bF op b=false):PT X (.Compare a [op] [b] pos) (Qqc (tOp r ta tb)):=by
 intro pins s σ H Q I h;refine wpAny_isTrue_Compare1 (thn (ha pins s σ H _ I h) fun v s1 ⟨x,H1,I1,r1,q1⟩=>thn (hb pins s1 σ H1 _ I1 q1) fun u s2 ⟨y,H2,I2,r2,q2⟩=>
  thn (ho pins s2 σ H2 x y v u _ I2 r1 r2 q2) fun c s3 ⟨z,H3,I3,r3,k,e,q3⟩=>?_) hm
 subst e;cases r3;exact aq ⟨H3,I3,q3⟩
def Qbr (r r':R2) (ta tb tc:TE):TE:=fun σ H Q=>ta σ H fun x H1=>tb σ H1 fun y H2=>r x y H2 fun z H3=>∃ k,z=.bl k /\
 (if k=true then tc σ H3 fun w' H4=>r' y w' H4 Q else Q (.bl false) H3)
theorem Qiz {op':CmpOp} {r':R2} (ho:OpR X (aU op) r) (ho':OpR X (aU op') r') (ha:PE X a ta) (hb:PE X b tb) (hc:PE X c tc)
  (hm:lastMarks [op,op'] [b,c]=false:=by with_unfolding_all rfl):PE X (.Compare a [op,op'] [b,c] pos) (Qbr r r' ta tb tc):=by
 intro pins s σ H Q I h;refine Compare_chain (thn (ha pins s σ H _ I h) fun v s1 ⟨x,H1,I1,r1,q1⟩=>chain_link (thn (hb pins s1 σ H1 _ I1 q1) fun u s2 ⟨y,H2,I2,r2,q2⟩=>
  thn (ho pins s2 σ H2 x y v u _ I2 r1 r2 q2) fun d s3 ⟨z,H3,I3,r3,k,e,q3⟩=>?_)) hm
 subst e;cases r3;refine aq ?_;cases k with
 | false=>exact ite_ff ⟨.bl false,H3,I3,rfl,q3⟩
 | true=>exact ite_tt (chain_last (thn (hc pins s3 σ H3 _ I3 q3) fun w' s4 ⟨z',H4,I4,r4,q4⟩=>ho' pins s4 σ H4 y z' u w' Q I4 r2 r4 q4))
theorem Qig {op':CmpOp} {r':R2} (ho:OpR X (aU op) r) (ho':OpR X (aU op') r') (ha:PE X a ta) (hb:PE X b tb) (hc:PE X c tc)
  (hm:lastMarks [op,op'] [b,c]=false:=by with_unfolding_all rfl):PT X (.Compare a [op,op'] [b,c] pos) (Qqc (Qbr r r' ta tb tc)):=by
 intro pins s σ H Q I h;refine isTrue_chain (thn (ha pins s σ H _ I h) fun v s1 ⟨x,H1,I1,r1,q1⟩=>test_link (thn (hb pins s1 σ H1 _ I1 q1) fun u s2 ⟨y,H2,I2,r2,q2⟩=>
  thn (ho pins s2 σ H2 x y v u _ I2 r1 r2 q2) fun d s3 ⟨z,H3,I3,r3,k,e,q3⟩=>?_)) hm
 subst e;cases r3;refine aq ?_;cases k with
 | false=>
  obtain ⟨k',e',q'⟩:=q3;cases e';exact ite_ff ⟨H3,I3,q'⟩
 | true=>
  refine ite_tt (test_last (thn (hc pins s3 σ H3 _ I3 q3) fun w' s4 ⟨z',H4,I4,r4,q4⟩=>thn (ho' pins s4 σ H4 y z' u w' _ I4 r2 r4 q4) fun d' s5 ⟨z2,H5,I5,r5,k2,e2,q5⟩=>?_))
  subst e2;cases r5;exact aq ⟨H5,I5,q5⟩
theorem Q30:(sizeLine:Nat) < 2 ^ 63:=by rw [sizeLine_eq]; decide
theorem Qcd:OpR X (aa .Add) (fun x y H Q=>∃ i j,x=.str i/\y=.str j/\i.length + j.length<=sizeLine/\Q (.str (i ++ j)) H):=by
 intro pins s σ H x y v u Q I rx ry h;obtain ⟨i,j,rfl,rfl,hz,q⟩:=h;obtain ⟨t,rfl⟩:=rx;obtain ⟨t',rfl⟩:=ry;exact add_str (fun t' tk=>⟨.str (i ++ j),H,I.tok _,⟨_,rfl⟩,q⟩) hz
theorem x9 {x:V} (r:Vals [x] us):∃ u,us=[u]/\RelV x u:=by
 cases r with
 | cons r1 r2=>cases r2; exact ⟨_,rfl,r1⟩
theorem Qh8 {x:V} (r:Vals [x,y] us):∃ u w',us=[u,w']/\RelV x u/\RelV y w':=by
 cases r with
 | cons r1 r2=>
  cases r2 with
  | cons r3 r4=>cases r4; exact ⟨_,_,rfl,r1,r3⟩
theorem Qgs (hc:X.calm=true):K3 X (.builtin "max") (fun xs H Q=>∃ i j,xs=[.int i,.int j]/\Q (.int (if j > i then j else i)) H):=by
 intro pins s σ H xs us Q I r h;obtain ⟨i,j,rfl,q⟩:=h;obtain ⟨u,w',rfl,⟨t,rfl⟩,⟨t',rfl⟩⟩:=Qh8 r;refine max_two_ints (I.ok.hd hc) fun h' tk k=>⟨_,H,I.kept k,?_,q⟩
 by_cases hj:j > i
 ·rw [bM hj,bM hj]; exact ⟨_,rfl⟩
 ·rw [bN hj,bN hj]; exact ⟨_,rfl⟩
theorem Qgq (hc:X.calm=true):K3 X (.builtin "min") (fun xs H Q=>∃ i j,xs=[.int i,.int j]/\Q (.int (if j < i then j else i)) H):=by
 intro pins s σ H xs us Q I r h;obtain ⟨i,j,rfl,q⟩:=h;obtain ⟨u,w',rfl,⟨t,rfl⟩,⟨t',rfl⟩⟩:=Qh8 r;refine min_two_ints (I.ok.hd hc) fun h' tk k=>⟨_,H,I.kept k,?_,q⟩
 by_cases hj:j < i
 ·rw [bM hj,bM hj]; exact ⟨_,rfl⟩
 ·rw [bN hj,bN hj]; exact ⟨_,rfl⟩
end
structure ObjM (h:Heap) (x dx C:aA) (mA:Str->Option aB):Prop where
 obj:h.get? x=some (PySem.W.instObj C dx)
 ns:h.Ns1 dx mA
 ne:dx≠x
theorem Q7v {h:Heap} (n:h.Ns1 dx mA):∃ od,h.get? dx=some od/\∀ name,PySem.W.lookIn name od=some (mA name):=by
 obtain ⟨o,es,ep,ho,hd,hk,_,hm⟩:=n;refine ⟨o,ho,fun name=>?_⟩;have e:=hm name;unfold nsFind findBy at e;rw [<- Array.find?_toList] at e;unfold PySem.W.lookIn;rw [hd];dsimp only
 split
 ·rename_i y q;rw [q] at e;exact congrArg some e
 ·rename_i q;rw [q] at e;have a:es.toList.any (·.refKey)=false:=by
   rw [List.any_eq_false];intro y hy;obtain ⟨z,t,hkey⟩:=hk y (Array.mem_toList_iff.mp hy);simp [DictEntry.refKey,hkey]
  have a':¬ es.toList.any (·.refKey)=true:=by rw [a]; exact D8
  rw [bN a'];exact congrArg some e
theorem ObjM.look {h:Heap} {x C:aA} (I:ObjM h x dx C mA):∃ od,PySem.W.InstAt h x (PySem.W.instObj C dx) C (some od)/\∀ name,PySem.W.lookIn name od=some (mA name):=
 let ⟨od,ho,hl⟩:=Q7v I.ns
 ⟨od,⟨I.obj,rfl,rfl,ho⟩,hl⟩
variable {prog:aP} {A:aQ} {K:PySem.W.Frag} {dx C f:aA} {mA:Str->Option aB} {name:Str} {v:aB}
section
variable {w:aN} {x:aA}
theorem Qps {expr:Bool} {Q:aB->aC->Prop} (X:K.In s.heap) (I:ObjM s.heap x dx C mA) (hg:PySem.W.plainGet K C name=true) (hh:PySem.W.hasDictIn K C=true)
  (ha:PySem.W.findIn K (.ref C) name=some none) (hv:mA name=some v) (hv':PySem.W.handedIn v=true) (h:Q v { s with toks:=s.toks + 1 }) :
  aI (aJ prog w) A (getAttr (.ref x) name expr) Q E s:=by
 obtain ⟨od,J,hl⟩:=I.look;exact PySem.W.get_value X J (PySem.W.plainGet_of hg).1 (PySem.W.findObj_own hh ha rfl (by rw [hl,hv])) hv' h
theorem Qjv {pl:Sem Bool} {Q:aB × List aB->aC->Prop} (X:K.In s.heap) (I:ObjM s.heap x dx C mA) (hg:PySem.W.plainGet K C name=true)
  (hf:PySem.W.findIn K (.ref C) name=some (some (.ref f))) (ht:PySem.W.isFn K (.ref f)=true) (hv:mA name=none) (h:Q (.ref f,[.ref x]) s) :
  aI (aJ prog w) A (getMethod (.ref x) name pl) Q E s:=by
 obtain ⟨od,J,hl⟩:=I.look;exact PySem.W.method_fn X J (PySem.W.plainGet_of hg).1 (PySem.W.plainGet_of hg).2 hf (beq_iff_eq.mp ht) (by show (PySem.W.lookIn name od).map (·.isSome)=some false; rw [hl,hv]; rfl) h
theorem Qmi {ns:List Str} {Q:Unit->aC->Prop} (X:K.In s.heap) (I:ObjM s.heap x dx C mA)
  (hs:PySem.W.findIn K (.ref C) "__setattr__" = some (some (.builtin "object.__setattr__"))) (hp:PySem.W.plainOver K C=true) (ht:PySem.W.takerIn K C name=some none) (hh:PySem.W.hasDictIn K C=true)
  (hw:PySem.Within mA ns) (hsz:ns.length<=sizeLine)
  (h:∀ h',ObjM h' x dx C (fun y=>if y=name then some v else mA y)->Heap.SameBut dx s.heap h'->Q () { s with heap:=h',toks:=s.toks + 2 }) :
  aI (aJ prog w) A (setAttr (.ref x) name v) Q E s:=by
 obtain ⟨od,J,hl⟩:=I.look;refine PySem.W.set_plain X J hs (PySem.W.osa_open (s:={ s with toks:=s.toks + 1 }) (r:=none) X J hp ht fun b=>?_)
 obtain ⟨cd,hc,hd'⟩:=PySem.W.any_some hh;have hx:s.heap.get? x=some ⟨.ref C,some dx,.plain,#[]⟩:=I.obj;refine aD (wpAny_pure (aD (aD (wpAny_loadPart hx (aD (PySem.W.Looks.here (s:={ s with toks:=s.toks + 1 }) (PySem.W.looks_clsIn X hc) ?_))))));rw [hd'];refine wpAny_pure (a:=some dx) (aD (wpAny_pure (aD ?_)));refine wpAny_nsSet1 (s:={ s with toks:=s.toks + 1 }) I.ns fun h' hn2 hs2=>?_
 obtain ⟨oD,esD,epD,hoD,hdD,hcD⟩:=hn2.count (PySem.Within.cons name v hw);refine aD (wpAny_lookBehind hoD (by rw [hdD]; exact pastItsLine_dict (F1 hcD (by rw [D2]; omega))) ?_);exact wpAny_pure (h _ ⟨(hs2.2 _ (Ne.symm I.ne)).trans I.obj,hn2,I.ne⟩ hs2)
theorem Qjf {R:Result->aC->Prop} {vs:List aB} {kw:List (Str × aB)} (X:K.In s.heap) (hm:PySem.W.makesIn K C=true)
  (hi:PySem.W.findIn K (.ref C) "__init__" = some (some (.ref f))) (hf:PySem.W.typeIn K (.ref f)=some (.type "function"))
  (h:codeAny (aJ prog w) (A.under (.builtin "type.__call__" ⟨.ref C :: vs,kw⟩)) (.call (.ref f) ⟨.ref (s.heap.objs.size + 1) :: vs,kw⟩) (PySem.W.InitBack (s.heap.objs.size + 1) R)
   { s with heap:=(s.heap.push PySem.W.emptyDict).push (PySem.W.instObj C s.heap.objs.size) }) :
  codeAny (aJ prog w) A (.call (.ref C) ⟨vs,kw⟩) R s:=by
 obtain ⟨hh,g,d,t,os⟩:=s;exact PySem.W.make_core (PySem.W.makes_of X hm) (PySem.W.looks_findIn X hi) (fun self=>PySem.W.bind_fn X self hf) (.inl rfl) h
end
def y8 (f:Str) (v:V):List (Str × V)->List (Str × V)
 | []=>[(f,v)]
 | (g,x) :: r=>if g=f then (g,v) :: r else (g,x) :: y8 f v r
theorem Q3b (f g:Str) (v:V):∀ fs:List (Str × V),(y8 f v fs).lookup g=if g=f then some v else fs.lookup g
 | []=>by
  show List.lookup g [(f,v)]=_
  by_cases h:g=f
  ·have hb:(g == f)=true:=beq_iff_eq.mpr h;simp only [List.lookup,hb,bM h]
  ·have hb:(g == f)=false:=beq_eq_false_iff_ne.mpr h;simp only [List.lookup,hb,bN h]
 | (k,x) :: r=>by
  have ih:=Q3b f g v r;rw [show y8 f v ((k,x) :: r)=(if k=f then (k,v) :: r else (k,x) :: y8 f v r) from rfl]
  by_cases hk:k=f
  ·rw [bM hk]
   by_cases h:g=k
   ·have hb:(g == k)=true:=beq_iff_eq.mpr h;simp only [List.lookup,hb,bM (h.trans hk)]
   ·have hb:(g == k)=false:=beq_eq_false_iff_ne.mpr h;simp only [List.lookup,hb,bN (fun e:g=f=>h (e.trans hk.symm))]
  ·rw [bN hk]
   by_cases h:g=k
   ·have hb:(g == k)=true:=beq_iff_eq.mpr h;simp only [List.lookup,hb,bN (fun e:g=f=>hk (h.symm.trans e))]
   ·have hb:(g == k)=false:=beq_eq_false_iff_ne.mpr h;simp only [List.lookup,hb];exact ih
theorem Q32 (f:Str) (v:V):∀ fs:List (Str × V),f∈(y8 f v fs).map (·.1)/\∀ g,g∈fs.map (·.1)->g∈(y8 f v fs).map (·.1)
 | []=>⟨by simp [y8],fun g h=>by simp at h⟩
 | (k,x) :: r=>by
  obtain ⟨i1,i2⟩:=Q32 f v r;rw [show y8 f v ((k,x) :: r)=(if k=f then (k,v) :: r else (k,x) :: y8 f v r) from rfl]
  by_cases hk:k=f
  ·rw [bM hk];subst hk;exact ⟨by simp,fun g h=>by simpa using h⟩
  ·rw [bN hk];refine ⟨?_,fun g h=>?_⟩
   ·rw [G8];exact O6 _ i1
   ·rw [G8] at h ⊢;rcases E7.mp h with e | e
    ·exact E7.mpr (.inl e)
    ·exact O6 _ (i2 g e)
theorem Q3c (f:Str) (v:V):∀ fs:List (Str × V),(y8 f v fs).length<=fs.length + 1
 | []=>by simp [y8]
 | (k,x) :: r=>by
  have ih:=Q3c f v r;rw [show y8 f v ((k,x) :: r)=(if k=f then (k,v) :: r else (k,x) :: y8 f v r) from rfl]
  by_cases hk:k=f
  ·rw [bM hk,D2,D2]; omega
  ·rw [bN hk,D2,D2]; omega
theorem RelO.some_of {v:V} {o:Option aB} (r:RelO (some v) o):∃ u,o=some u/\RelV v u:=by
 cases o with
 | none=>exact (show False from r).elim
 | some u=>exact ⟨u,rfl,r⟩
theorem RelO.none_of {o:Option aB} (r:RelO none o):o=none:=by
 cases o with
 | none=>rfl
 | some u=>exact (show False from r).elim
theorem Qga {v:V} {u:aB} (r:RelV v u):PySem.W.handedIn u=true:=by
 cases v with
 | non=>cases (show u=Value.none from r); rfl
 | bl b=>cases (show u=Value.bool b from r); rfl
 | int i=>obtain ⟨t,e⟩:=(show ∃ t,u=Value.int i t from r); cases e; rfl
 | str x=>obtain ⟨t,e⟩:=(show ∃ t,u=Value.str x t from r); cases e; rfl
 | byt b=>obtain ⟨t,e⟩:=(show ∃ t,u=Value.bytes b t from r); cases e; rfl
 | flt b=>obtain ⟨t,e⟩:=(show ∃ t,u=Value.float b t from r); cases e; rfl
 | ref a=>cases (show u=Value.ref a from r); rfl
 | ty n=>cases (show u=Value.type n from r); rfl
section
variable {w:aN} {h:Heap} {fs fs':List (Str × V)}
theorem Q43 (hok:HOk P w H h) (e:H a=some (.ins C dx fs)):∃ mA,ObjM h a dx C mA/\(∀ f,RelO (fs.lookup f) (mA f))/\PySem.Within mA (fs.map (·.1))/\fs.length<=1000/\H dx=some (.own a):=by
 obtain ⟨d,z,ne,ob,mA,n,r,q⟩:=(show ObjOk P w H h a (.ins C dx fs) from hok a _ e);exact ⟨mA,⟨ob,n,ne⟩,r,q,z,d⟩
end
structure Cls (K:PySem.W.Frag) (C:aA):Prop where
 pg:PySem.W.plainGet K C Str.empty=true
 hd:PySem.W.hasDictIn K C=true
 po:PySem.W.plainOver K C=true
 sa:PySem.W.findIn K (.ref C) "__setattr__" = some (some (.builtin "object.__setattr__"))
theorem Cls.get (c:Cls K C) (f:Str):PySem.W.plainGet K C f=true:=c.pg
def NoAttr (K:PySem.W.Frag) (C:aA) (f:Str):Prop:=PySem.W.findIn K (.ref C) f=some none
theorem NoAttr.taker {f:Str} (n:NoAttr K C f):PySem.W.takerIn K C f=some none:=by
 unfold PySem.W.takerIn;rw [show PySem.W.findIn K (.ref C) f=some none from n];rfl
structure Meth (K:PySem.W.Frag) (C:aA) (m:Str) (f:aA):Prop where
 at_:PySem.W.findIn K (.ref C) m=some (some (.ref f))
 fn:PySem.W.isFn K (.ref f)=true
 kp:PySem.W.keepIn K (.ref f)=true
section
variable {σ:St} {fs:List (Str × V)} {f:Str} {v:V}
theorem Qcz {b:Bool} {Q:aB->aC->Prop} (I:Inv X pins σ H s) (e:H a=some (.ins C dx fs)) (c:Cls X.K C) (n:NoAttr X.K C f) (l:fs.lookup f=some v)
  (h:∀ u s',Inv X pins σ H s'->RelV v u->Q u s'):aI (aJ X.prog X.w) A (getAttr (.ref a) f b) Q E s:=by
 obtain ⟨mA,O,r,_,_,_⟩:=Q43 I.hok e;obtain ⟨u,hu,ru⟩:=RelO.some_of (v:=v) (o:=mA f) (by rw [<- l]; exact r f);exact Qps I.kIn O (c.get f) c.hd n hu (Qga ru) (h u _ (I.tok _) ru)
theorem Q65 {m:Str} {g:aA} {pl:Sem Bool} {Q:aB × List aB->aC->Prop} (I:Inv X pins σ H s) (e:H a=some (.ins C dx fs)) (c:Cls X.K C) (k:Meth X.K C m g) (l:fs.lookup m=none)
  (h:Q (.ref g,[.ref a]) s):aI (aJ X.prog X.w) A (getMethod (.ref a) m pl) Q E s:=by
 obtain ⟨mA,O,r,_,_,_⟩:=Q43 I.hok e;have hn:mA m=none:=RelO.none_of (by rw [<- l]; exact r m);exact Qjv I.kIn O (c.get m) k.at_ k.fn hn h
theorem Qc1 {u:aB} {Q:Unit->aC->Prop} (I:Inv X pins σ H s) (e:H a=some (.ins C dx fs)) (c:Cls X.K C) (n:NoAttr X.K C f) (hl:fs.length < 1000) (ry:RelV y u)
  (h:∀ s',Inv X pins σ (upd H a (.ins C dx (y8 f y fs))) s'->Q () s'):aI (aJ X.prog X.w) A (setAttr (.ref a) f u) Q E s:=by
 obtain ⟨mA,O,r,wi,_,ho⟩:=Q43 I.hok e;have hz:(fs.map (·.1)).length<=sizeLine:=by rw [O2,sizeLine_eq]; omega
 refine Qmi I.kIn O c.sa c.po n.taker c.hd wi hz fun h' O' sb=>h _ ?_
 have hd:∃ o,h'.get? dx=some o:=let ⟨o,_,_,e',_⟩:=O'.ns; ⟨o,e'⟩;refine I.write (x:=a) (e:=dx) (by rw [e]; exact True.intro) (.inr ho) (fun b q hb z=>(sb.2 b hb).trans z) hd ?_
 refine ⟨by rw [Q7 O.ne]; exact ho,?_,O.ne,O'.obj,_,O'.ns,fun g=>?_,fun g hg=>?_⟩
 ·have:=Q3c f y fs; omega
 ·show RelO ((y8 f y fs).lookup g) (if g=f then some u else mA g);rw [Q3b]
  by_cases q:g=f
  ·rw [bM q,bM q]; exact ry
  ·rw [bN q,bN q]; exact r g
 ·by_cases q:g=f
  ·rw [q]; exact (Q32 f y fs).1
  ·refine (Q32 f y fs).2 g (wi g fun z=>hg ?_);show (if g=f then some u else mA g)=none;rw [bN q]; exact z
theorem Inv.made (I:Inv X pins σ H s):Inv X pins σ (upd (upd H s.heap.objs.size (.own (s.heap.objs.size + 1))) (s.heap.objs.size + 1) (.ins C s.heap.objs.size []))
  { s with heap:=(s.heap.push PySem.W.emptyDict).push (PySem.W.instObj C s.heap.objs.size) }:=by
 have e1:(s.heap.push PySem.W.emptyDict).get? s.heap.objs.size=some PySem.W.emptyDict:=D6 s.heap rfl;have e2:((s.heap.push PySem.W.emptyDict).push (PySem.W.instObj C s.heap.objs.size)).get? (s.heap.objs.size + 1)=some (PySem.W.instObj C s.heap.objs.size):=by
  have:=D6 (s.heap.push PySem.W.emptyDict) (o:=PySem.W.instObj C s.heap.objs.size) rfl
  rwa [F9] at this
 have e3:(s.heap.push PySem.W.emptyDict).Ns s.heap.objs.size (fun _=>none):=⟨PySem.W.emptyDict,#[],_,e1,rfl,(fun e he=>absurd he (by simp)),fun _=>rfl⟩;have I1:=I.laid (a:=s.heap.objs.size) (o:=.own (s.heap.objs.size + 1)) (h':=s.heap.push PySem.W.emptyDict) (t':=s.toks) (fun b u q=>O0 _ q) (O4 _) ⟨_,e1⟩;refine I1.laid (a:=s.heap.objs.size + 1) (o:=.ins C s.heap.objs.size []) (t':=s.toks) (fun b u q=>O0 _ q) (Nat.le_of_eq (F9 _ _)) ?_;have ne:s.heap.objs.size≠s.heap.objs.size + 1:=E6 (Nat.lt_succ_self _);refine ⟨by rw [Q7 ne,Qz],Nat.zero_le _,ne,e2,fun _=>none,(Heap.Ns1.of_empty e3).at fun o q=>O0 _ q,fun _=>True.intro,fun y hy=>absurd rfl hy⟩
theorem Qep {prog:aP} {w:aN} {env:Env} {e:aF} {pos:Pos} {s:aC} {Q:aB->aC->Prop} (hb:ai e f env (aL e env)=aL e env)
  (h:aI (aJ prog w) A (aL e env) (fun o s₁=>aI (aJ prog w) A (getAttr o f true) Q E s₁) E s):aI (aJ prog w) A (aL (.Attribute e f pos) env) Q E s:=
 Attribute_any_ h (by rw [arm_eval_Attribute,hb])
end
def Qz5 (K:PySem.W.Frag) (ta:TE) (f:Str):TE:=fun σ H Q=>ta σ H fun x H1=>∃ a C dx fs v,x=.ref a/\H1 a=some (.ins C dx fs)/\Cls K C/\NoAttr K C f/\fs.lookup f=some v/\Q v H1
def Qz8 (K:PySem.W.Frag) (ta tv:TE) (f:Str):TS:=fun D σ H=>tv σ H fun y H1=>ta σ H1 fun x H2=>∃ a C dx fs,x=.ref a/\H2 a=some (.ins C dx fs)/\Cls K C/\NoAttr K C f/\fs.length < 1000 /\
 D.nx σ (upd H2 a (.ins C dx (y8 f y fs)))
variable {value:aF} {pos' tpos:Pos} {tv:TE}
section
variable {o e:aF} {f:Str}
theorem Qss (he:PE X e ta) (hb:ai e f X.env (aL e X.env)=aL e X.env):PE X (.Attribute e f pos) (Qz5 X.K ta f):=by
 intro pins s σ H Q I h;refine Qep hb (thn (he pins s σ H _ I h) fun u s1 ⟨x,H1,I1,rx,a,C,dx,fs,v,ex,ea,c,n,l,q⟩=>?_)
 subst ex;obtain rfl:u=Value.ref a:=rx;exact Qcz I1 ea c n l fun u' s2 I2 ru=>⟨v,H1,I2,ru,q⟩
theorem Qsf (ha:PE X o ta) (hv:PE X value tv) (hs:swapsWith value (some (.Attribute o f pos')) pos.line X.env=pure false):PS X (.Assign [.Attribute o f pos'] value pos) (Qz8 X.K ta tv f):=by
 intro pins s σ H D I h;refine plainObj_wpAny_Assign_Attribute (thn (hv pins s σ H _ I h) fun u s1 ⟨y,H1,I1,ry,q⟩=>thn (ha pins s1 σ H1 _ I1 q) fun ov s2 ⟨x,H2,I2,rx,a,C,dx,fs,ex,ea,c,n,l,q2⟩=>?_) hs
 subst ex;obtain rfl:ov=Value.ref a:=rx;exact Qc1 I2 ea c n l ry fun s3 I3=>⟨σ,_,I3,q2⟩
end
variable {Q:aB->aC->Prop}
section
variable {σ:St} {c:aB} {b:Bool}
inductive TyOf (K:PySem.W.Frag) (H:Hp):V->aB->Prop where
 | non:TyOf K H .non (.type "NoneType")
 | bl (x:Bool):TyOf K H (.bl x) (.type "bool")
 | int (i:Int):TyOf K H (.int i) (.type "int")
 | str (x:Str):TyOf K H (.str x) (.type "str")
 | flt (x:UInt64):TyOf K H (.flt x) (.type "float")
 | lst {a:aA} {xs:List V} (e:H a=some (.lst xs)):TyOf K H (.ref a) (.type "list")
 | frz {a:aA} {o:Obj} {xs:List V} (e:H a=some (.frz o (.lst xs))):TyOf K H (.ref a) (.type "list")
 | tup {a:aA} {xs:List V} (e:H a=some (.tup xs)):TyOf K H (.ref a) (.type "tuple")
 | dK {a:aA} {kvs:List (Key × V)} (e:H a=some (.dK kvs)):TyOf K H (.ref a) (.type "dict")
 | dT {a:aA} {kvs:List (HK × V)} (e:H a=some (.dT kvs)):TyOf K H (.ref a) (.type "dict")
 | ins {a C dx:aA} {fs:List (Str × V)} (e:H a=some (.ins C dx fs)) (cl:Cls K C) (ha:PySem.W.findIn K (.ref C) "__class__" = some (some (.builtin "object.__class__")))
   (hn:PySem.W.specialIn K (.builtin "object.__class__") "__get__" = some (some (.builtin "getset_descriptor.__get__"))) (htk:PySem.W.takesIn K (.builtin "object.__class__")=some true)
   (hm:PySem.W.mroIn K C (.type "object")=some true):TyOf K H (.ref a) (.ref C)
theorem Qg4 {x:V} {u t:aB} (I:Inv X pins σ H s) (rx:RelV x u) (ty:TyOf X.K H x t) (e:PySem.W.kitOne X.K t c=some b) (h:∀ tk,Q (.bool b) { s with toks:=tk }) :
  aI (aJ X.prog X.w) A (call (.builtin "isinstance") [u,c]) Q E s:=by
 cases ty with
 | non=>cases (show u=Value.none from rx); exact PySem.W.kia_one PySem.W.kitx_none I.kIn True.intro e (fun z=>nomatch z) h
 | bl y=>cases (show u=Value.bool y from rx); exact PySem.W.kia_one PySem.W.kitx_bool I.kIn True.intro e (fun z=>nomatch z) h
 | int i=>obtain ⟨t,q⟩:=(show ∃ t,u=Value.int i t from rx); cases q; exact PySem.W.kia_one PySem.W.kitx_int I.kIn True.intro e (fun z=>nomatch z) h
 | str y=>obtain ⟨t,q⟩:=(show ∃ t,u=Value.str y t from rx); cases q; exact PySem.W.kia_one PySem.W.kitx_str I.kIn True.intro e (fun z=>nomatch z) h
 | flt y=>obtain ⟨t,q⟩:=(show ∃ t,u=Value.float y t from rx); cases q; exact PySem.W.kia_one PySem.W.kitx_float I.kIn True.intro e (fun z=>nomatch z) h
 | @lst a xs ea=>
  cases (show u=Value.ref a from rx);obtain ⟨_,_,n,_,h1⟩:=(show ObjOk X.prog X.w H s.heap a (.lst xs) from I.hok a _ ea);exact PySem.W.kia_one PySem.W.kitx_list I.kIn ⟨_,h1,rfl⟩ e (fun z=>nomatch z) h
 | @frz a ob xs ea=>
  cases (show u=Value.ref a from rx);obtain ⟨_,_,_,n,_,h1⟩:=(show ObjOk X.prog X.w H s.heap a (.frz ob (.lst xs)) from I.hok a _ ea);exact PySem.W.kia_one PySem.W.kitx_list I.kIn ⟨_,h1,rfl⟩ e (fun z=>nomatch z) h
 | @tup a xs ea=>
  cases (show u=Value.ref a from rx);obtain ⟨_,_,_,p⟩:=(show ObjOk X.prog X.w H s.heap a (.tup xs) from I.hok a _ ea);obtain ⟨o,h1,h2,_⟩:=p;exact PySem.W.kia_one PySem.W.kitx_tuple I.kIn ⟨o,h1,h2⟩ e (fun z=>nomatch z) h
 | @dK a kvs ea=>
  cases (show u=Value.ref a from rx);obtain ⟨_,_,vs,_,p⟩:=(show ObjOk X.prog X.w H s.heap a (.dK kvs) from I.hok a _ ea);obtain ⟨o,es,ep,h1,h2,_⟩:=p;exact PySem.W.kia_one PySem.W.kitx_dict I.kIn ⟨o,h1,h2.1⟩ e (fun z=>nomatch z) h
 | @dT a kvs ea=>
  cases (show u=Value.ref a from rx);obtain ⟨_,_,xs,_,o,es,ep,h1,h2,_⟩:=(show ObjOk X.prog X.w H s.heap a (.dT kvs) from I.hok a _ ea);exact PySem.W.kia_one PySem.W.kitx_dict I.kIn ⟨o,h1,h2.1⟩ e (fun z=>nomatch z) h
 | @ins a C dx fs ea cl ha hn htk hm=>
  cases (show u=Value.ref a from rx);obtain ⟨mA,O,_⟩:=Q43 I.hok ea;obtain ⟨od,J,_⟩:=O.look;exact PySem.W.kia_one (PySem.W.kitx_own (cl.get _) cl.hd ha hn htk hm) I.kIn J e (fun z=>nomatch z) h
end
structure Room (k:Nat) (A:aQ):Prop where
 hd:A.handled=none
 dp:A.depth + 3 * k + 5 < recursionLimit
 un:A.units + 16 * k + 200 < aV
theorem Room.mono {j k:Nat} (r:Room k A) (h:j<=k):Room j A:=⟨r.hd,by have:=r.dp; omega,by have:=r.un; omega⟩
theorem Room.deeper {k:Nat} (r:Room (k + 1) A) (env:Env):Room k (A.deeper env):=
 ⟨r.hd,by have:=r.dp; show A.depth + 1 + 3 * k + 5 < _; omega,by have:=r.un; show A.units + 3 + 16 * k + 200 < _; omega⟩
theorem Qcs :(A.under (.builtin "type.__call__" ⟨.ref C :: us,kw⟩)).depth=A.depth + 1:=by
 first | rfl | simp [Around.under,Code.weight,Code.isCreation,Code.isGuard,Code.isCaller,Code.frames,Code.isFrame,guardIds]
theorem Qcr :(A.under (.builtin "type.__call__" ⟨.ref C :: us,kw⟩)).units=A.units + 1:=by
 first | rfl | simp [Around.under,Code.cUnits,Code.frames,Code.isFrame]
theorem Room.make {k:Nat} (r:Room (k + 1) A) (C:aA) (us:List aB) (kw:List (Str × aB)):Room k (A.under (.builtin "type.__call__" ⟨.ref C :: us,kw⟩)):=
 ⟨r.hd,by have:=r.dp; rw [Qcs]; omega,by have:=r.un; rw [Qcr]; omega⟩
theorem Room.depth {k:Nat} (r:Room k A):A.depth < recursionLimit:=by have:=r.dp; omega
theorem Room.units {k:Nat} (r:Room k A):A.units + 64 < aV:=by have:=r.un; omega
def Qv9:TA:=fun _ H Q=>Q [] H
def Qvc (ta:TE) (tr:TA):TA:=fun σ H Q=>ta σ H fun x H1=>tr σ H1 fun xs H2=>Q (x :: xs) H2
variable {es:List aF}
section
variable {e:aF} {t:TA}
theorem Q15:PA X [] Qv9:=fun _ _ _ _ H Q I h=>Calls.spliced_nil ⟨[],H,I,.nil,h⟩
theorem Kn (ha:PE X e te) (hr:PA X es t) (hs:aM (e :: es) X.env=(false,aL e X.env) :: aM es X.env:=by rfl):PA X (e :: es) (Qvc te t):=by
 intro pos pins s σ H Q I h;rw [hs];show aI _ _ (spliced ((false,aL e X.env) :: aS pos (aM es X.env))) _ _ s;refine Calls.spliced_cons (thn (ha pins s σ H _ I h) fun u s1 ⟨x,H1,I1,r1,q1⟩=>?_)
 exact thn (hr pos pins s1 σ H1 _ I1 q1) fun us s2 ⟨xs,H2,I2,r2,q2⟩=>⟨x :: xs,H2,I2,.cons r1 r2,q2⟩
def Qyy (t:TA):TE:=fun σ H Q=>t σ H fun xs H1=>xs.length<=sizeLine/\∀ p,H1 p=none->Q (.ref p) (upd H1 p (.tup xs))
def Qz2 (t:TA):TE:=fun σ H Q=>t σ H fun xs H1=>xs.length<=sizeLine/\∀ p,H1 p=none->Q (.ref p) (upd H1 p (.lst xs))
theorem Qsm {x1} (h:PA X es t):PE X (.Tuple es x1 pos) (Qyy t):=by
 intro pins s σ H Q I hq;refine wpAny_Tuple_spliced (thn (h pos pins s σ H _ I hq) fun us s1 ⟨xs,H1,I1,r,z,q⟩=>⟨by rw [<- r.length]; exact z,?_⟩)
 have hf:H1 s1.heap.objs.size=none:=I1.hok.fresh (O4 _);refine ⟨.ref s1.heap.objs.size,upd H1 s1.heap.objs.size (.tup xs),I1.laid (t':=s1.toks) (fun b u e=>O0 _ e) (O4 _) ?_,rfl,q _ hf⟩;exact ⟨z,us,r,⟨_,D6 _ rfl,rfl,_,rfl⟩⟩
theorem Qix (h:PA X es t):PE X (.List es pos) (Qz2 t):=by
 intro pins s σ H Q I hq;refine wpAny_List_spliced (thn (h pos pins s σ H _ I hq) fun us s1 ⟨xs,H1,I1,r,z,q⟩=>⟨by rw [<- r.length]; exact z,?_⟩)
 have hf:H1 s1.heap.objs.size=none:=I1.hok.fresh (O4 _);refine ⟨.ref s1.heap.objs.size,upd H1 s1.heap.objs.size (.lst xs),I1.laid (t':=s1.toks) (fun b u e=>O0 _ e) (O4 _) ?_,rfl,q _ hf⟩;exact ⟨z,us,0,r,D6 _ rfl⟩
end
abbrev Sp:=List V->Hp->VK->XK->Prop
abbrev CXT:=List Env->Hp->aC->XK->aB->aC->Prop
structure Env0 (P:aP) (w:aN) (K:PySem.W.Frag) (mg:Str->Option aB) (base:Heap) (A:aQ) (outer:List Env) (s:aC) (H:Hp):Prop where
 frames:A.frames=some outer
 mod:Mod K mg base
 bs:∀ b o,base.get? b=some o->s.heap.get? b=some o/\H b=none
 bsz:base.objs.size<=s.heap.objs.size
 funs:s.heap.FunFrames base outer
 frf:∀ b∈frs outer,H b=none
 hok:HOk P w H s.heap
 bare:AllBare s.gens
def CE (outer:List Env) (P:aP) (w:aN) (H:Hp) (s:aC) (Q:VK) (u:aB) (s':aC):Prop:=
 ∃ v H',s'.os=s.os/\AllBare s'.gens/\Un (frs outer) [] H H' s.heap s'.heap/\HOk P w H' s'.heap/\RelV v u/\Q v H'
def CR (CX:CXT) (outer:List Env) (P:aP) (w:aN) (H:Hp) (s:aC) (Q:VK) (E:XK) (r:Result) (s':aC):Prop:=
 match r with
 | .ok (.ret u)=>CE outer P w H s Q u s'
 | .ok _=>False
 | .error e=>CX outer H s E e s'
structure FnOk (P:aP) (w:aN) (K:PySem.W.Frag) (mg:Str->Option aB) (base:Heap) (CX:CXT) (k:Nat) (f:aA) (fd:aO) (ps:List Str) (sp:Sp):Prop where
 len:∀ vs H Q E,sp vs H Q E->vs.length=ps.length
 run:∀ (A:aQ) (outer:List Env) (s:aC) (H:Hp) (args:Args) (us:List aB) (vs:List V) (Q:VK) (E:XK),Room k A->Env0 P w K mg base A outer s H->BindsTo s fd args (ps.zip us)->Vals vs us->sp vs H Q E ->
  codeAny (aJ P w) A (.call (.ref f) args) (CR CX outer P w H s Q E) s
theorem FnOk.imp {w:aN} {base:Heap} {CX:CXT} {k:Nat} {sp sp':Sp} (F:FnOk P w K mg base CX k f fd ps sp)
  (h:∀ vs H Q E,sp' vs H Q E->sp vs H Q E):FnOk P w K mg base CX k f fd ps sp':=
 ⟨fun vs H Q E q=>F.len vs H Q E (h _ _ _ _ q),fun A outer s H args us vs Q E hr he hb hv hs=>F.run A outer s H args us vs Q E hr he hb hv (h _ _ _ _ hs)⟩
theorem Env0.make {w:aN} {base:Heap} {outer:List Env} (e:Env0 P w K mg base A outer s H) (C:aA) (us:List aB) (kw:List (Str × aB)) :
  Env0 P w K mg base (A.under (.builtin "type.__call__" ⟨.ref C :: us,kw⟩)) outer s H:=⟨by first | exact e.frames | (simpa [Around.under,Code.envs,Code.isFrame,pushEnvs] using e.frames),e.mod,e.bs,e.bsz,e.funs,e.frf,e.hok,e.bare⟩
variable {s':aC}
section
variable {σ:St}
theorem Inv.env0 (I:Inv X pins σ H s):Env0 X.prog X.w X.K X.mg X.base X.A X.stack s H:=
 ⟨I.ok.frames,I.ok.mod,I.bs,F1 I.ok.bsz I.sz,I.stack,I.stkFree,I.hok,I.bare⟩
theorem Inv.after {Q:VK} {u:aB} (I:Inv X pins σ H s) (h:CE X.stack X.prog X.w H s Q u s'):EP X pins σ Q u s':=by
 obtain ⟨v,H',os,bare,un,hok,r,q⟩:=h;obtain ⟨hh,g,d,t,os'⟩:=s';obtain rfl:os'=s.os:=os;exact ⟨v,H',I.call (h':=hh) (g':=g) (d':=d) (t':=t) (ch:=[]) un hok bare (fun b z=>absurd z (by simp)),r,q⟩
end
def Qvd (sp:Sp) (dvs:List V) (E:XK) (t:TA):TE:=fun σ H Q=>t σ H fun vs H1=>sp (vs ++ dvs) H1 Q E
def Qqe (C:aA) (m:Str) (sp:Sp) (dvs:List V) (E:XK) (ta:TE) (t:TA):TE:=fun σ H Q=>ta σ H fun x H1=>∃ a dx fs,x=.ref a/\H1 a=some (.ins C dx fs)/\fs.lookup m=none /\
 t σ H1 fun vs H2=>sp (x :: (vs ++ dvs)) H2 Q E
def Qva (C:aA) (sp:Sp) (dvs:List V) (E:XK) (t:TA):TE:=fun σ H Q=>t σ H fun vs H1=>∀ x dx,H1 x=none->H1 dx=none->dx≠x ->
 sp (.ref x :: (vs ++ dvs)) (upd (upd H1 dx (.own x)) x (.ins C dx [])) (fun v H2=>v=.non/\Q (.ref x) H2) E
def Binds (K:PySem.W.Frag) (fd:aO) (ps:List Str) (ds:List aB):Prop:=
 ∀ (s:aC) (us:List aB),K.In s.heap->(us ++ ds).length=ps.length->BindsTo s fd ⟨us,[]⟩ (ps.zip (us ++ ds))
theorem Binds.all (h:∀ us:List aB,us.length=ps.length->bindArgs fd ⟨us,[]⟩=pure (ps.zip us)):Binds K fd ps []:=fun s us _ hl=>by
 rw [G9] at hl ⊢;exact .of_eq (h us hl)
def Xr (CX:CXT) (X:Cx) (E:XK):Prop:=∀ (pins:List (aA × Obj)) (σ:St) (H:Hp) (s:aC) (e:aB) (s':aC),Inv X pins σ H s->CX X.stack H s E e s'->X.xe e s'
variable {CX:CXT} {fd:aO} {ps:List Str} {sp:Sp} {dvs:List V} {ds:List aB} {m:Str} {p apos:Pos}
section
variable {k:Nat} {E:XK} {x:Str} {e o:aF} {t:TA}
theorem Qc5 {pins:List (aA × Obj)} {σ:St} {H:Hp} {s:aC} {Q:VK} {us:List aB} {vs:List V} (F:FnOk X.prog X.w X.K X.mg X.base CX k f fd ps sp) (hr:Room k X.A) (hb:Binds X.K fd ps ds) (hd:Vals dvs ds) (hx:Xr CX X E)
  (I:Inv X pins σ H s) (r:Vals vs us) (h:sp (vs ++ dvs) H Q E):aI (aJ X.prog X.w) X.A (call (.ref f) us) (EP X pins σ Q) X.xe s:=by
 have r2:Vals (vs ++ dvs) (us ++ ds):=r.append hd;have hl:(us ++ ds).length=ps.length:=by rw [<- r2.length]; exact F.len _ _ _ _ h
 refine wpAny_call (bG (F.run X.A X.stack s H ⟨us,[]⟩ (us ++ ds) (vs ++ dvs) Q E hr I.env0 (hb s us I.kIn hl) r2 h) fun r s' hq=>?_)
 cases r with
 | error e=>exact hx pins σ H s e s' I hq
 | ok fl=>
  cases fl with
  | ret u=>exact I.after hq
  | next=>exact False.elim hq
  | brk=>exact False.elim hq
  | cont=>exact False.elim hq
theorem Qne (F:FnOk X.prog X.w X.K X.mg X.base CX k f fd ps sp) (hr:Room k X.A) (hg:Gl X x) (hm:X.mg x=some (.ref f)) (hk:PySem.W.keepIn X.K (.ref f)=true) (hb:Binds X.K fd ps ds) (hd:Vals dvs ds) (hx:Xr CX X E)
  (ha:PA X (e :: es) t) (hdb:(x == ("__debug__" : Str))=false:=by decide) (he:aM (e :: es) X.env=(false,aL e X.env) :: aM es X.env:=by rfl) (hpl:(aS pos (aM es X.env)).any (·.1)=false:=by rfl) :
  PE X (.Call (.Name x p) (e :: es) [] pos) (Qvd sp dvs E t):=by
 intro pins s σ H Q I h;refine wpAny_Call_Name_kw (Xy I hg hm ?_ hdb);refine PySem.W.callWith_K (h₀:=X.base) I.ok.mod.kin hk (thn (ha pos pins s σ H _ I h) fun us s1 ⟨vs,H1,I1,r,q⟩=>⟨I1.kIn,?_⟩) he hpl
 exact Qc5 F hr hb hd hx I1 r q
theorem Qna {pl:Sem Bool} (he:PE X o ta) (c:Cls X.K C) (hm:Meth X.K C m f) (F:FnOk X.prog X.w X.K X.mg X.base CX k f fd ps sp) (hr:Room k X.A) (hb:Binds X.K fd ps ds) (hd:Vals dvs ds) (hx:Xr CX X E) (ha:PA X (e :: es) t)
  (hst:aM (e :: es) X.env=(false,aL e X.env) :: aM es X.env:=by rfl) (hpl:(aS pos (aM es X.env)).any (·.1)=false:=by rfl)
  (ht:aL (.Call (.Attribute o m apos) (e :: es) [] pos) X.env=(do
   let ov <- aL o X.env
   standAt apos.atName
   let (f,first) <- ag [ov] (getMethod ov m pl)
   callWith pos f first (aS pos (aM (e :: es) X.env)) (backToKw pos (keywordEach [] X.env))):=by rfl) :
  PE X (.Call (.Attribute o m apos) (e :: es) [] pos) (Qqe C m sp dvs E ta t):=by
 intro pins s σ H Q I h;refine PySem.W.methodCall_KW (pl:=pl) (thn (he pins s σ H _ I h) fun u s1 ⟨x,H1,I1,rx,a,dx,fs,ex,ea,l,q⟩=>?_) ht
 subst ex;obtain rfl:u=Value.ref a:=rx;refine Q65 I1 ea c hm l ?_;refine PySem.W.callWith_K (first:=[.ref a]) (h₀:=X.base) I.ok.mod.kin hm.kp (thn (ha pos pins s1 σ H1 _ I1 q) fun us s2 ⟨vs,H2,I2,r,q2⟩=>⟨I2.kIn,?_⟩) hst hpl
 exact Qc5 (us:=.ref a :: us) (vs:=.ref a :: vs) F hr hb hd hx I2 (.cons rfl r) q2
theorem Qiw {pl:Sem Bool} (he:PE X o ta) (c:Cls X.K C) (hm:Meth X.K C m f) (F:FnOk X.prog X.w X.K X.mg X.base CX k f fd ps sp) (hr:Room k X.A) (hb:Binds X.K fd ps ds) (hd:Vals dvs ds) (hx:Xr CX X E)
  (ht:aL (.Call (.Attribute o m apos) [] [] pos) X.env=(do
   let ov <- aL o X.env
   standAt apos.atName
   let (f,first) <- ag [ov] (getMethod ov m pl)
   callWith pos f first (aS pos (aM [] X.env)) (backToKw pos (keywordEach [] X.env))):=by rfl) :
  PE X (.Call (.Attribute o m apos) [] [] pos) (Qqe C m sp dvs E ta Qv9):=by
 intro pins s σ H Q I h;refine PySem.W.methodCall_KW (pl:=pl) (thn (he pins s σ H _ I h) fun u s1 ⟨x,H1,I1,rx,a,dx,fs,ex,ea,l,q⟩=>?_) ht
 subst ex;obtain rfl:u=Value.ref a:=rx;refine Q65 I1 ea c hm l ?_;exact PySem.W.callWith_K0 (first:=[.ref a]) I1.kIn hm.kp (Qc5 (us:=[.ref a]) (vs:=[.ref a]) F hr hb hd hx I1 (.cons rfl .nil) q)
structure Mk (K:PySem.W.Frag) (C f:aA):Prop where
 makes:PySem.W.makesIn K C=true
 init:PySem.W.findIn K (.ref C) "__init__" = some (some (.ref f))
 fn:PySem.W.isFn K (.ref f)=true
 kp:PySem.W.keepIn K (.ref C)=true
theorem Qi4 {pins:List (aA × Obj)} {σ:St} {H:Hp} {s:aC} {Q:VK} {us:List aB} {vs:List V} (M:Mk X.K C f) (F:FnOk X.prog X.w X.K X.mg X.base CX k f fd ps sp) (hr:Room (k + 1) X.A) (hb:Binds X.K fd ps ds) (hd:Vals dvs ds)
  (hx:Xr CX X E) (I:Inv X pins σ H s) (r:Vals vs us)
  (h:∀ x dx,H x=none->H dx=none->dx≠x->sp (.ref x :: (vs ++ dvs)) (upd (upd H dx (.own x)) x (.ins C dx [])) (fun v H2=>v=.non/\Q (.ref x) H2) E) :
  aI (aJ X.prog X.w) X.A (call (.ref C) us) (EP X pins σ Q) X.xe s:=by
 have hq:=h (s.heap.objs.size + 1) s.heap.objs.size (I.hok.fresh (Nat.le_succ _)) (I.hok.fresh (O4 _)) (E6 (Nat.lt_succ_self _));have I2:=Inv.made (C:=C) I;have r2:Vals (V.ref (s.heap.objs.size + 1) :: (vs ++ dvs)) (Value.ref (s.heap.objs.size + 1) :: (us ++ ds)):=.cons rfl (r.append hd);have hl:(Value.ref (s.heap.objs.size + 1) :: us ++ ds).length=ps.length:=by
  have e:=r2.length;rw [F.len _ _ _ _ hq] at e;exact e.symm
 refine wpAny_call (Qjf (f:=f) I.kIn M.makes M.init (beq_iff_eq.mp M.fn) (bG (F.run _ X.stack _ _ ⟨Value.ref (s.heap.objs.size + 1) :: us,[]⟩ (Value.ref (s.heap.objs.size + 1) :: (us ++ ds)) _ _ E (hr.make C us [])
  (I2.env0.make C us []) (hb _ (Value.ref (s.heap.objs.size + 1) :: us) I2.kIn hl) r2 hq) fun r s' hq'=>?_))
 cases r with
 | error e=>exact hx pins σ _ _ e s' I2 hq'
 | ok fl=>
  cases fl with
  | ret u=>
   obtain ⟨v,H',I3,rv,ev,q3⟩:=I2.after hq';subst ev;exact ⟨rv,⟨V.ref (s.heap.objs.size + 1),H',I3,rfl,q3⟩⟩
  | next=>exact False.elim hq'
  | brk=>exact False.elim hq'
  | cont=>exact False.elim hq'
theorem Qnb (M:Mk X.K C f) (F:FnOk X.prog X.w X.K X.mg X.base CX k f fd ps sp) (hr:Room (k + 1) X.A) (hg:Gl X x) (hm:X.mg x=some (.ref C)) (hb:Binds X.K fd ps ds) (hd:Vals dvs ds) (hx:Xr CX X E)
  (ha:PA X (e :: es) t) (hdb:(x == ("__debug__" : Str))=false:=by decide) (he:aM (e :: es) X.env=(false,aL e X.env) :: aM es X.env:=by rfl) (hpl:(aS pos (aM es X.env)).any (·.1)=false:=by rfl) :
  PE X (.Call (.Name x p) (e :: es) [] pos) (Qva C sp dvs E t):=by
 intro pins s σ H Q I h;refine wpAny_Call_Name_kw (Xy I hg hm ?_ hdb);refine PySem.W.callWith_K (h₀:=X.base) I.ok.mod.kin M.kp (thn (ha pos pins s σ H _ I h) fun us s1 ⟨vs,H1,I1,r,q⟩=>⟨I1.kIn,?_⟩) he hpl
 exact Qi4 M F hr hb hd hx I1 r q
end
def PK (X:Cx) (kws:List Keyword) (t:TA):Prop:=
 ∀ (pos:Pos) (pins:List (aA × Obj)) (s:aC) (σ:St) (H:Hp) (Q:List V->Hp->Prop),Inv X pins σ H s->t σ H Q->aI (aJ X.prog X.w) X.A (evalAll ((backToKw pos (keywordEach kws X.env)).map (·.2))) (AP X pins σ Q) X.xe s
structure FnScope (N P:List Str) (sc:Scope):Prop where
 kind:sc.kind=.function
 co:sc.isCoroutine=false
 gen:sc.isGenerator=false
 nd:N.Nodup
 pre:N.take P.length=P
 par:∀ x∈P,sc.names.lookup x=some .local\/sc.names.lookup x=some .cell
 nofree:∀ y∈sc.names,y.2≠.free
theorem Q8b {kindOf:Str->Option aj} {x:Str}:∀ {binds:List (Str × aB)} {m:Str->Option aB},(∀ v,(x,v)∉binds)->bindL kindOf binds m x=m x
 | [],_,_=>rfl
 | (n,v) :: r,m,h=>by
  unfold bindL;rw [Q8b fun w hw=>h w (O6 _ hw)]
  split
  ·have:x≠n:=by rintro rfl; exact h v D3
   simp [this]
  ·rfl
theorem Q8d {kindOf:Str->Option aj} {x:Str}:∀ {binds:List (Str × aB)} {m:Str->Option aB},(∀ v,(x,v)∉binds)->bindC kindOf binds m x=m x
 | [],_,_=>rfl
 | (n,v) :: r,m,h=>by
  unfold bindC;rw [Q8d fun w hw=>h w (O6 _ hw)]
  split
  ·rfl
  ·have:x≠n:=by rintro rfl; exact h v D3
   simp [this]
theorem Q8c {kindOf:Str->Option aj} {x:Str} {v:aB}:∀ {P:List Str} {vs:List aB} {i:Nat} {m:Str->Option aB},P.Nodup->P[i]?=some x->vs[i]?=some v->kindOf x=some .local ->
  bindL kindOf (P.zip vs) m x=some v
 | [],_,_,_,_,h,_,_=>by simp at h
 | _ :: _,[],_,_,_,_,h,_=>by simp at h
 | p :: P,w :: vs,0,m,nd,h1,h2,hk=>by
  simp at h1 h2; subst h1; subst h2;show bindL kindOf ((p,w) :: P.zip vs) m p=_;unfold bindL;rw [Q8b fun v hv=>(List.nodup_cons.mp nd).1 (List.of_mem_zip hv).1,bM hk]
  simp
 | p :: P,w :: vs,i + 1,m,nd,h1,h2,hk=>by
  show bindL kindOf ((p,w) :: P.zip vs) m x=_;unfold bindL;exact Q8c (i:=i) (List.nodup_cons.mp nd).2 (by simpa using h1) (by simpa using h2) hk
theorem Q8e {kindOf:Str->Option aj} {x:Str} {v:aB}:∀ {P:List Str} {vs:List aB} {i:Nat} {m:Str->Option aB},P.Nodup->P[i]?=some x->vs[i]?=some v->kindOf x≠some .local ->
  bindC kindOf (P.zip vs) m x=some v
 | [],_,_,_,_,h,_,_=>by simp at h
 | _ :: _,[],_,_,_,_,h,_=>by simp at h
 | p :: P,w :: vs,0,m,nd,h1,h2,hk=>by
  simp at h1 h2; subst h1; subst h2;show bindC kindOf ((p,w) :: P.zip vs) m p=_;unfold bindC;rw [Q8d fun v hv=>(List.nodup_cons.mp nd).1 (List.of_mem_zip hv).1,bN hk]
  simp
 | p :: P,w :: vs,i + 1,m,nd,h1,h2,hk=>by
  show bindC kindOf ((p,w) :: P.zip vs) m x=_;unfold bindC;exact Q8e (i:=i) (List.nodup_cons.mp nd).2 (by simpa using h1) (by simpa using h2) hk
def start (N:List Str) (vs:List V):St:=vs.map some ++ List.replicate (N.length - vs.length) none
def Qd2 (CX:CXT) (P:aP) (w:aN) (K:PySem.W.Frag) (mg:Str->Option aB) (base:Heap) (N:List Str) (qual:Str) (scope:Scope) (f:aA) (cd:aB) (A:aQ) (outer:List Env) (s:aC) (H:Hp) (E:XK):Cx where
 prog:=P
 w:=w
 K:=K
 mg:=mg
 base:=base
 A:=A.deeper (envOfC qual scope s.heap.objs.size f cd)
 N:=N
 s₀:=s
 H₀:=H
 env:=envOfC qual scope s.heap.objs.size f cd
 outer:=outer
 stack:=envOfC qual scope s.heap.objs.size f cd :: outer
 ex:=[]
 calm:=true
 fn:=fun _=>true
 pn:=[]
 xe:=fun e s'=>aI (aJ P w) (A.deeper (envOfC qual scope s.heap.objs.size f cd)) (leaving (envOfC qual scope s.heap.objs.size f cd) e) (fun _ s''=>CX outer H s E e s'') (fun e' s''=>CX outer H s E e' s'') s'
theorem Qbi {sc:Scope} {x:Str} (h:sc.names.lookup x=some .cell):∃ c,(af n sc.names []).lookup x=some c:=by
 have q:=PySem.W.cellsFrom_some sc.names n [] (.inl h);exact Option.isSome_iff_exists.mp q
theorem Qg7 {CX:CXT} {P:aP} {w:aN} {K:PySem.W.Frag} {mg:Str->Option aB} {base:Heap} {N ps:List Str} {qual:Str} {scope:Scope} {f:aA} {cd:aB} {A:aQ} {outer:List Env} {s s1:aC} {H:Hp} {E:XK} {us:List aB} {vs:List V}
  (S:FnScope N ps scope) (hd:A.handled=none) (e0:Env0 P w K mg base A outer s H) (hl:vs.length=ps.length) (r:Vals vs us)
  (x:InCallC s s.heap.objs.size (bindL (envOfC qual scope s.heap.objs.size f cd).kindOf (ps.zip us) fun _=>none) (af (s.heap.objs.size + 1) scope.names []) (bindC (envOfC qual scope s.heap.objs.size f cd).kindOf (ps.zip us) fun _=>none) s1) :
  Inv (Qd2 CX P w K mg base N qual scope f cd A outer s H E) [] (start N vs) H s1:=by
 have hpl:ps.length<=N.length:=by have:=congrArg List.length S.pre; rw [List.length_take] at this; omega
 obtain ⟨h1,tk,rfl,hk⟩:=x.done;have noA:∀ b:aA,b∉(Qd2 CX P w K mg base N qual scope f cd A outer s H E).ex:=fun b z=>absurd (show b∈([]:List aA) from z) (by simp)
 refine ⟨⟨e0.mod,S.kind,rfl,rfl,O4 _,fun y z c h1 h2=>?_,fun y hy=>?_,fun y c _ h=>?_,fun _=>hd,Around.frames_deeper e0.frames,.inr ⟨rfl,rfl⟩,fun b z=>absurd z (noA b),e0.bs,e0.bsz,fun b _ _=>noA b,fun b z=>absurd z (noA b),e0.funs,e0.frf⟩,
  rfl,e0.bare,Un.kept hk,⟨_,x.toInCall.ns,fun i y v h1 h2 h3=>?_⟩,fun y c h=>⟨_,x.cell y c h⟩,e0.hok.fresh (O4 _),fun y c h=>?_,fun p hp=>absurd (show p∈([]:List (aA × Obj)) from hp) (by simp),e0.hok.kept hk,?_⟩
 ·exact name_of_addr x.apart (PySem.mem_of_lookup h1) (PySem.mem_of_lookup h2)
 ·have hy:scope.names.lookup y=some .cell\/scope.names.lookup y=some .free:=hy;rcases hy with hy | hy
  ·exact Qbi hy
  ·exact absurd rfl (S.nofree _ (PySem.mem_of_lookup hy))
 ·exact O7 (x.above y c (PySem.mem_of_lookup h))
 ·have hi:i < vs.length:=by
   unfold start at h2
   by_cases hi:i < vs.length
   ·exact hi
   ·rw [E2 (by simpa using hi)] at h2;rw [F8] at h2
    split at h2 <;> cases h2
  have ha:vs[i]?=some v:=by
   unfold start at h2;rw [O9 (by simpa using hi),E3] at h2;cases e:vs[i]? with
   | none=>rw [e] at h2; cases h2
   | some a=>rw [e] at h2; cases h2; rfl
  obtain ⟨u,hu,rv⟩:=r.get ha;have hp:ps[i]?=some y:=by
   rw [<- S.pre,List.getElem?_take_of_lt (by omega)]; exact h1
  have ndP:ps.Nodup:=by rw [<- S.pre]; exact S.nd.sublist (List.take_sublist _ _)
  refine ⟨u,rv,?_⟩;rcases S.par y (E4 hp) with k | k
  ·exact .inl ⟨k,Q8c ndP hp hu k⟩
  ·obtain ⟨c,e⟩:=Qbi (n:=s.heap.objs.size + 1) k;refine .inr ⟨.inl k,c,e,?_⟩;have q:=x.cell y c e;rw [Q8e ndP hp hu (by show scope.names.lookup y≠_; rw [k]; decide)] at q;exact q
 ·exact e0.hok.fresh (O7 (x.above y c (PySem.mem_of_lookup h)))
 ·unfold start;show _=N.length;rw [D0,O2,L7];omega
theorem Qqu {CX:CXT} {P:aP} {w:aN} {K:PySem.W.Frag} {mg:Str->Option aB} {base:Heap} {k:Nat} {f:aA} {name qual:Str} {params:Arguments} {body:List aK} {scope:Scope} {dV kV doc pm cdv ct oc:aB} {an od:Option aA}
  {osl:Array (Option aB)} {N ps:List Str} {sp:Sp} (lk:K.lookup f=some ⟨oc,od,.func (PySem.W.fnOf name qual params body scope dV kV doc pm an cdv ct),osl⟩) (hcd:PySem.W.codeIn K cdv qual=true) (S:FnScope N ps scope)
  (len:∀ vs H Q E,sp vs H Q E->vs.length=ps.length)
  (hbody:∀ (A:aQ) (outer:List Env) (s:aC) (H:Hp) (vs:List V) (Q:VK) (E:XK),Room k (A.deeper (envOfC qual scope s.heap.objs.size f cdv))->sp vs H Q E ->
   ∃ t,PSs (Qd2 CX P w K mg base N qual scope f cdv A outer s H E) body t/\t { nx:=fun _ H'=>Q .non H',rt:=Q } (start N vs) H) :
  FnOk P w K mg base CX (k + 1) f (PySem.W.fnOf name qual params body scope dV kV doc pm an cdv ct) ps sp:=by
 refine ⟨len,fun A outer s H args us vs Q E hr e0 hb r hsp=>?_⟩;have hl:=len _ _ _ _ hsp;have KX:K.In s.heap:=e0.mod.kin.keeps fun b o e=>(e0.bs b o e).1
 have lim:s.heap.NoLimit:=e0.mod.nolimit.keeps fun b o e=>(e0.bs b o e).1
 have hkind:∀ y∈ps.zip us,scope.names.lookup y.1=some .local\/(scope.names.lookup y.1=some .cell/\((af (s.heap.objs.size + 1) scope.names []).lookup y.1).isSome=true):=fun ⟨n,v⟩ hy=>by
  rcases S.par n (List.of_mem_zip hy).1 with q | q
  ·exact .inl q
  ·exact .inr ⟨q,PySem.W.cellsFrom_some _ _ _ (.inl q)⟩
 refine codeAny_call_function hr.depth (KX _ _ lk) rfl S.co S.gen rfl (PySem.W.codeRec_of KX hcd) (hb _ _ _ _ ?_);refine wpAny_newFunctionEnv_cells S.kind hkind fun env he s1 x=>?_
 subst he;refine ⟨lim.keeps x.toInCall.keep,codeAny_func ?_⟩;obtain ⟨t,ht,hq⟩:=hbody A outer s H vs Q E (hr.deeper _) hsp;have I:Inv (Qd2 CX P w K mg base N qual scope f cdv A outer s H E) [] (start N vs) H s1:=Qg7 S hr.hd e0 hl r x;refine ae (ht [] s1 (start N vs) H _ I hq) (fun fl s' hs=>?_) fun e s' hs=>hs
 have fin:∀ {σ':St} {H':Hp} {v:V} {u:aB},Inv (Qd2 CX P w K mg base N qual scope f cdv A outer s H E) [] σ' H' s'->RelV v u->Q v H'->CE outer P w H s Q u s':=
  fun {σ' H' v u} J rv q=>⟨v,H',J.os,J.bare,J.base,J.hok,rv,q⟩
 cases fl with
 | ret u=>
  obtain ⟨v,σ',H',J,rv,q⟩:=hs;exact fin J rv q
 | next=>
  obtain ⟨σ',H',J,q⟩:=hs;exact fin (v:=V.non) (u:=Value.none) J rfl q
 | brk=>
  obtain ⟨_,_,_,q⟩:=hs;exact False.elim q
 | cont=>
  obtain ⟨_,_,_,q⟩:=hs;exact False.elim q
variable {T:String} {r:List V->Hp->VK->Prop}
section
variable {x:Str} {e:aF} {t:TA} {id:String}
def tCB (r:List V->Hp->VK->Prop) (t:TA):TE:=fun σ H Q=>t σ H fun vs H1=>r vs H1 Q
theorem Q57 (hc:K3 X (.builtin id) r) (hg:Gl X x) (hm:X.mg x=none) (hv:aW x=some (.builtin id)) (ha:PA X (e :: es) t) (hn:x≠"__name__" := by decide) (hdb:(x == ("__debug__" : Str))=false:=by decide)
  (he:aM (e :: es) X.env=(false,aL e X.env) :: aM es X.env:=by rfl) (hpl:(aS pos (aM es X.env)).any (·.1)=false:=by rfl):PE X (.Call (.Name x p) (e :: es) [] pos) (tCB r t):=by
 intro pins s σ H Q I h;refine wpAny_Call_Name_kw (Q00 I hg hm hv ?_ hn hdb);exact PyProof.Rows.callWith_builtin1 (thn (ha pos pins s σ H _ I h) fun us s1 ⟨vs,H1,I1,r1,q1⟩=>hc pins s1 σ H1 vs us Q I1 r1 q1) he hpl
theorem Q7i (hc:K3 X (.type T) r) (hg:Gl X x) (hm:X.mg x=none) (hv:aW x=some (.type T)) (ha:PA X (e :: es) t) (hn:x≠"__name__" := by decide) (hdb:(x == ("__debug__" : Str))=false:=by decide)
  (he:aM (e :: es) X.env=(false,aL e X.env) :: aM es X.env:=by rfl) (hpl:(aS pos (aM es X.env)).any (·.1)=false:=by rfl):PE X (.Call (.Name x p) (e :: es) [] pos) (tCB r t):=by
 intro pins s σ H Q I h;refine wpAny_Call_Name_kw (Q00 I hg hm hv ?_ hn hdb);exact PyProof.Rows.callWith_type1 (thn (ha pos pins s σ H _ I h) fun us s1 ⟨vs,H1,I1,r1,q1⟩=>hc pins s1 σ H1 vs us Q I1 r1 q1) he hpl
end
end L2
namespace HT
open PySem PyProof.Rows
def lexLt:List Int->List Int->Bool
 | [],[]=>false
 | [],_ :: _=>true
 | _ :: _,[]=>false
 | x :: xs,y :: ys=>if x=y then lexLt xs ys else decide (x < y)
theorem Qcy (x y:Int) (xs ys:List Int):lexLt (x :: xs) (y :: ys)=if x=y then lexLt xs ys else decide (x < y):=rfl
theorem Q73:lexLt [] []=false:=rfl
theorem Q5u (y:Int) (ys:List Int):lexLt [] (y :: ys)=true:=rfl
theorem Q5v (x:Int) (xs:List Int):lexLt (x :: xs) []=false:=rfl
theorem Qk3 (A:aQ) (s:aC) (a:Int) (t:Tok) (c:Int) (u:Tok):∃ e,SeqAt.EqAt A s (.int a t) (.int c u) e/\(e=true <-> a=c):=
 ⟨(a == c),SeqAt.EqAt.int_int a t c u,by simp⟩
theorem Qi8 (A:aQ) (s:aC) (a:Int) (t:Tok) (c:Int) (u:Tok) (prog:aP) (w:aN) (E:aB->aC->Prop) (Q:aB->aC->Prop) (h:Q (.bool (decide (a < c))) s) :
  aI (aJ prog w) A (richCompare .Lt (.int a t) (.int c u)) Q E s:=
 (PyProof.Rows.lt_int h:aI (aJ prog w) A (aU .Lt (.int a t) (.int c u)) Q E s)
section
open PySem.SeqAt
open PySem.AutoSeq1 (wpAny_loadPart')
open PySem.MeetsSeq PySem.MeetsSeq2 PySem.MeetsSeq3
theorem Q6h (l b:aA) (items items2:Array aB) (n n2:Nat) (dd dd2:Option aA) (sl sl2:Array (Option aB)) (ns ms:List Int) (hi:IntsAre items.toList ns) (hj:IntsAre items2.toList ms) :
  Meets (Builtin.«tuple.__lt__» ⟨[.ref l,.ref b],[]⟩)
   (fun _ R s=>s.heap.get? l=some { cls:=.type "tuple",dict:=dd,data:=.seq items n,slots:=sl }/\s.heap.get? b=some { cls:=.type "tuple",dict:=dd2,data:=.seq items2 n2,slots:=sl2 } /\
    R (.ok (.ret (.bool (lexLt ns ms)))) s):=
 .of_wp fun prog w A R s h=>by
  obtain ⟨hp,g,d,tk,os⟩:=s; obtain ⟨hl,hb,h⟩:=h;have f2:=AutoSeq1.sub_tuple_tuple;have z1:items.size=ns.length:=by rw [<- hi.length]; simp
  have z2:items2.size=ms.length:=by rw [<- hj.length]; simp
  wp_walk using wpAny_loadPart' hl,wpAny_loadPart' hb,wpAny_forIn_list _ (fun rest b s'=>b.1=none/\s'=⟨hp,g,d,tk,os⟩/\∃ (vs ws:List aB) (ns' ms':List Int),rest=vs.zip ws /\
   IntsAre vs ns'/\IntsAre ws ms'/\ns'.length + items2.size=ms'.length + items.size/\R (.ok (.ret (.bool (lexLt ns' ms')))) ⟨hp,g,d,tk,os⟩) _
  case turn=>
   rintro ⟨y,x⟩ rest b s' ⟨hb',rfl,vs,ws,ns',ms',hz,hvi,hwi,hlen,hR⟩;cases hvi with
   | nil=>rw [List.zip_nil_left] at hz; cases hz
   | cons a t hvi'=>
    cases hwi with
    | nil=>rw [List.zip_nil_right] at hz; cases hz
    | cons c u hwi'=>
     rw [List.zip_cons_cons] at hz;injection hz with hyx hrest
     injection hyx with hy hx
     subst hy hx;rw [Qcy] at hR;simp only [D2] at hlen;obtain ⟨e,he,hiff⟩:=Qk3 A.in1 ⟨hp,g,d,tk,os⟩ a t c u;refine aD (he prog w _ _ ?_);cases e with
     | true=>
      rw [bM (hiff.mp rfl)] at hR
      wp_walk
      exact ⟨rfl,rfl,_,_,_,_,hrest,hvi',hwi',by omega,hR⟩
     | false=>
      rw [bN (fun q=>absurd (hiff.mpr q) D8)] at hR
      have hri:=Qi8 A.in1 ⟨hp,g,d,tk,os⟩ a t c u prog w
      wp_walk using hri
      exact ⟨_,rfl,by simpa using hR⟩
  case fin=>
   rintro ⟨b1,b2⟩ s' ⟨hb',rfl,vs,ws,ns',ms',hz,hvi,hwi,hlen,hR⟩;simp only at hb';subst hb';have hv:lexLt ns' ms'=decide (items.size < items2.size):=by
    cases hvi with
    | nil=>
     cases hwi with
     | nil=>
      simp only [List.length_nil] at hlen;rw [Q73];exact (bO (by omega)).symm
     | cons c u hw=>
      simp only [List.length_nil,D2] at hlen;rw [Q5u];exact (bP (by omega)).symm
    | cons a t hv=>
     cases hwi with
     | nil=>
      simp only [List.length_nil,D2] at hlen;rw [Q5v];exact (bO (by omega)).symm
     | cons c u hw=>
      rw [List.zip_cons_cons] at hz;cases hz
   rw [hv] at hR
   wp_walk
   exact ⟨_,rfl,by simpa [Builtin.Tuple.tupleCompareSizes] using hR⟩
  case h=>
   exact ⟨rfl,rfl,items.toList,items2.toList,ns,ms,rfl,hi,hj,by omega,h⟩
end
variable {prog:aP} {A:aQ} {E:aB->aC->Prop} {s:aC}
section
variable {w:aN}
theorem lt_tupInts {l b:aA} {items items2:Array aB} {ns ms:List Int} {Q:aB->aC->Prop} (hl:IsTup s.heap l items) (hb:IsTup s.heap b items2) (hi:IntsAre items.toList ns) (hj:IntsAre items2.toList ms)
  (hu:A.units < aV) (h:Q (.bool (lexLt ns ms)) s):aI (aJ prog w) A (aU .Lt (.ref l) (.ref b)) Q E s:=by
 obtain ⟨⟨cls,dd,data,sl⟩,ho,hc,n,hd⟩:=id hl;obtain ⟨⟨cls2,dd2,data2,sl2⟩,ho2,hc2,n2,hd2⟩:=id hb;simp only at hc hd hc2 hd2;subst hc hd hc2 hd2;exact richCompare_meets_room (op:=.Lt) ⟨_,ho,rfl⟩ ⟨_,ho2,rfl⟩ PySem.F.slot_tuple_lt PySem.F.entry_tuple_lt (PySem.F.args_tuple_lt_2 _ _) (Q6h l b items items2 n n2 dd dd2 sl sl2 ns ms hi hj)
  ⟨ho,ho2,show Value.bool (lexLt ns ms)≠Value.notImplemented/\Q (.bool (lexLt ns ms)) s from ⟨(fun x=>nomatch x),h⟩⟩ hu
theorem cat_tup {t b:aA} {vs ws:List aB} {Q:aB->aC->Prop} (ht:IsTup s.heap t vs.toArray) (hb:IsTup s.heap b ws.toArray) (hv:vs≠[])
  (h1:ws=[]->Q (.ref t) s) (h2:ws≠[]->Q (.ref s.heap.objs.size) { s with heap:=s.heap.push { cls:=.type "tuple",data:=.seq (vs ++ ws).toArray } })
  (hsz:vs.length + ws.length<=sizeLine):aI (aJ prog w) A (aa .Add (.ref t) (.ref b)) Q E s:=by
 obtain ⟨⟨cls,dd,data,sl⟩,ho,hc,n,hd⟩:=id ht;obtain ⟨⟨cls2,dd2,data2,sl2⟩,ho2,hc2,n2,hd2⟩:=id hb;simp only at hc hd hc2 hd2;subst hc hd hc2 hd2;have e:vs.toArray ++ ws.toArray=(vs ++ ws).toArray:=by simp
 by_cases hw:ws=[]
 ·exact concat_meets ⟨_,ho,rfl⟩ ⟨_,ho2,rfl⟩ noFill_tuple_add seq_tuple_add PySem.F.slot_tuple_add PySem.F.entry_tuple_add (PySem.F.args_tuple_add_2 _ _)
   (tuple_addW1 t b vs.toArray ws.toArray n n2 dd dd2 sl sl2 (by simpa using hv) (by simp [hw])) ⟨ho,ho2,h1 hw⟩
 ·refine concat_meets ⟨_,ho,rfl⟩ ⟨_,ho2,rfl⟩ noFill_tuple_add seq_tuple_add PySem.F.slot_tuple_add PySem.F.entry_tuple_add (PySem.F.args_tuple_add_2 _ _)
   (tuple_addW2 t b vs.toArray ws.toArray n n2 dd dd2 sl sl2 (by simpa using hv) (by simpa using hw) (by rw [O5,O5]; exact hsz)) ⟨ho,ho2,?_⟩
  rw [e];exact h2 hw
def sIx (n d:Nat):Option Int->Nat
 | none=>d
 | some v=>if v < 0 then (v + (n:Int)).toNat else min v.toNat n
theorem sIx_none (n d:Nat):sIx n d none=d:=rfl
theorem sIx_nat (n d k:Nat):sIx n d (some (k:Int))=min k n:=by
 show (if (k:Int) < 0 then ((k:Int) + (n:Int)).toNat else min (k:Int).toNat n)=min k n;rw [bN (by omega),Int.toNat_natCast]
theorem Qs5 (n d:Nat) (hd:d<=n) (o:Option Int):sIx n d o<=n:=by
 cases o with
 | none=>exact hd
 | some v=>
  show (if v < 0 then (v + (n:Int)).toNat else min v.toNat n)<=n
  by_cases hv:v < 0
  ·rw [bM hv]; omega
  ·rw [bN hv]; exact Nat.min_le_right _ _
theorem Qeg (v:Int) (n d:Nat):(if v < 0 then max (v + (n:Int)) 0 else min v (n:Int))=((sIx n d (some v):Nat):Int):=by
 show (if v < 0 then max (v + (n:Int)) 0 else min v (n:Int))=(((if v < 0 then (v + (n:Int)).toNat else min v.toNat n):Nat):Int)
 by_cases hv:v < 0
 ·simp only [bM hv]; omega
 ·simp only [bN hv]; omega
theorem Qda (lo hi:Option Int) (n:Nat):Builtin.Slice.sliceAdjust lo hi 1 (n:Int)=(((sIx n 0 lo:Nat):Int),((sIx n n hi:Nat):Int)):=by
 have h1:¬ ((1:Int) < 0):=by omega
 unfold Builtin.Slice.sliceAdjust;simp only [h1,if_false];refine Prod.ext ?_ ?_
 ·cases lo with
  | none=>rfl
  | some v=>exact Qeg v n 0
 ·cases hi with
  | none=>rfl
  | some v=>exact Qeg v n n
theorem Qca (i j:Nat):Builtin.Slice.slicePlaces (i:Int) (j:Int) 1=j - i:=by
 unfold Builtin.Slice.slicePlaces;have h1:(1:Int) > 0:=by omega
 simp only [h1,if_true,Int.ediv_one]
 split <;> omega
theorem Q4s {v:aB} {o:Option Int} {Q:Option Int->aC->Prop} (p:IsPart v o) (h:Q o s):aI (aJ prog w) A (Builtin.Slice.slicePartIndex v) Q E s:=by
 cases p with
 | none=>exact slicePart_none h
 | int i t=>exact slicePart_int h
theorem jr {sl:aA} {vl vu:aB} {lo hi:Option Int} {n:Nat} {Q:Int × Int × Nat->aC->Prop} (hs:s.heap.IsSliceOf sl vl vu .none) (pl:IsPart vl lo) (pu:IsPart vu hi)
  (h:Q (((sIx n 0 lo:Nat):Int),1,sIx n n hi - sIx n 0 lo) s):aI (aJ prog w) A (Builtin.Slice.sliceApplied (.ref sl) (pure (n:Int))) Q E s:=by
 obtain ⟨os,hos,hcs,hds⟩:=id hs;unfold Builtin.Slice.sliceApplied Builtin.Slice.sliceFields;refine aD (aD (aX hos hds (x:=vl) rfl (aD (aX hos hds (x:=vu) rfl (aD (aX hos hds (x:=.none) rfl (wpAny_pure ?_)))))));refine aD (slicePart_none ?_);show aI _ _ (if ((1:Int) == 0)=true then _ else _) _ _ s;rw [bN (by decide)];refine aD (Q4s pl (aD (Q4s pu (aD (wpAny_pure ?_)))));show aI _ _ (match Builtin.Slice.sliceAdjust lo hi 1 (n:Int) with | (lo,hi)=>pure (lo,(1:Int),Builtin.Slice.slicePlaces lo hi 1)) _ _ s
 rw [Qda lo hi n];show aI _ _ (pure (((sIx n 0 lo:Nat):Int),(1:Int),Builtin.Slice.slicePlaces ((sIx n 0 lo:Nat):Int) ((sIx n n hi:Nat):Int) 1)) _ _ s;rw [Qca];exact wpAny_pure h
theorem Qiq (xs:Array aB) (i k:Nat):((List.range k).filterMap fun (m:Nat)=>xs[((i:Int) + (m:Int) * 1).toNat]?).toArray=((xs.toList.drop i).take k).toArray:=by
 have e:(fun (m:Nat)=>xs[((i:Int) + (m:Int) * 1).toNat]?)=fun m=>xs[i + m]?:=by
  funext m;have:((i:Int) + (m:Int) * 1).toNat=i + m:=by omega
  rw [this]
 rw [e];have:=pick_run xs i k;rw [List.filterMap_map] at this;have e2:((fun x=>xs[x]?) ∘ fun x=>i + x)=fun m=>xs[i + m]?:=rfl
 rw [e2] at this;rw [this]
theorem getItem_tuple_cut {t sl:aA} {items:Array aB} {vl vu:aB} {lo hi:Option Int} {Q:aB->aC->Prop} (ht:IsTup s.heap t items) (hs:s.heap.IsSliceOf sl vl vu .none) (pl:IsPart vl lo) (pu:IsPart vu hi)
  (hw:¬ (sIx items.size 0 lo=0/\sIx items.size items.size hi=items.size))
  (h:Q (.ref s.heap.objs.size) { s with heap:=s.heap.push { cls:=.type "tuple",data:=.seq ((items.toList.drop (sIx items.size 0 lo)).take (sIx items.size items.size hi - sIx items.size 0 lo)).toArray } })
  (hsz:items.size<=sizeLine):aI (aJ prog w) A (getItem (.ref t) (.ref sl)) Q E s:=by
 have htake:sizeOk (.seq ((items.toList.drop (sIx items.size 0 lo)).take (sIx items.size items.size hi - sIx items.size 0 lo)).toArray):=by
  show ((items.toList.drop (sIx items.size 0 lo)).take (sIx items.size items.size hi - sIx items.size 0 lo)).toArray.size<=sizeLine;rw [O5,List.length_take,List.length_drop,Array.length_toList];omega
 have hj:sIx items.size items.size hi<=items.size:=Qs5 _ _ (O4 _) hi;obtain ⟨os,hos,hcs,hds⟩:=id hs;have hTs:s.TypeIs (.ref sl) "slice" := ⟨os,hos,hcs⟩;unfold getItem
 try with_reducible refine bB ?_
 first | refine aD (wpAny_pure ?_) | skip
 refine aD (wpAny_sequenceKey ht.typeIs (by decide) ?_);refine aD (wpAny_callSpecial?_slot (name:=Str.ofString "__getitem__") ht.typeIs PyProof.Rows.slot_tuple_getitem
  (ay PyProof.Rows.slot_tuple_getitem ht.typeIs entry_tuple_getitem ?_ (args_tuple_getitem _ _)))
 show aI _ _ (Builtin.Tuple.tupleItemsOf (.ref t) >>= _) _ _ s;refine aD (tupleItemsOf_ ht ?_);refine aD (bK hTs ?_);rw [bM (by decide)];refine aD (jr hs pl pu ?_);have hno:¬ ((((sIx items.size 0 lo:Nat):Int) == 0 && (1:Int) == 1 && (sIx items.size items.size hi - sIx items.size 0 lo) == items.size)=true):=by
  intro q;rw [F6,F6] at q;have q1:((sIx items.size 0 lo:Nat):Int)=0:=eq_of_beq q.1.1;have q2:sIx items.size items.size hi - sIx items.size 0 lo=items.size:=eq_of_beq q.2;exact hw ⟨by omega,by omega⟩
 show aI _ _ (if (((sIx items.size 0 lo:Nat):Int) == 0 && (1:Int) == 1 && (sIx items.size items.size hi - sIx items.size 0 lo) == items.size)=true then _ else _) _ _ s;rw [bN hno,Qiq]
 first
  | exact aD (m:=Builtin.Tuple.tupleExact _) (aw (wpAny_pure ⟨_,rfl,wpAny_pure h⟩) htake)
  | exact aD (m:=Builtin.Tuple.tupleExact _) (aw (aD (wpAny_pure (wpAny_pure ⟨_,rfl,wpAny_pure h⟩))) htake)
  | exact aD (aD (m:=Builtin.Tuple.tupleExact _) (aw (wpAny_pure (wpAny_pure ⟨_,rfl,wpAny_pure h⟩)) htake))
  | exact aD (aD (m:=Builtin.Tuple.tupleExact _) (aw (wpAny_pure ⟨_,rfl,wpAny_pure h⟩) htake))
end
end HT
namespace L2
open PySem PySem.Spec PyProof.Rows
variable {xs:List V} {us:List aB} {n t':Nat} {α:Type} {σ:St} {H:Hp} {s:aC} {p:aA}
abbrev TO:=St->Hp->(Option Int->Hp->Prop)->Prop
def PO (X:Cx) (e:Option aF) (t:TO):Prop:=
 ∀ (pins:List (aA × Obj)) (s:aC) (σ:St) (H:Hp) (Q:Option Int->Hp->Prop),Inv X pins σ H s->t σ H Q ->
  aI (aJ X.prog X.w) X.A (evalPart e X.env) (fun u s'=>∃ o H',Inv X pins σ H' s'/\IsPart u o/\Q o H') X.xe s
def Qm3:TO:=fun _ H Q=>Q none H
def Qv7 (t:TE):TO:=fun σ H Q=>t σ H fun x H1=>∃ i,x=.int i/\Q (some i) H1
theorem Q1d {ns:List Int}:∀ {us:List aB},Vals (ns.map V.int) us->IntsAre us ns:=by
 induction ns with
 | nil=>intro us r; rw [List.map_nil] at r; cases r; exact .nil
 | cons n ns ih=>
  intro us r;rw [G8] at r;cases r with
  | cons r1 r2=>
   obtain ⟨t,e⟩:=r1;subst e;exact .cons n t (ih r2)
variable {X:Cx} {e:aF} {te:TE} {lo hi:Option aF} {tl th:TO} {pos p2:Pos}
theorem Qn3:PO X none Qm3:=by
 intro pins s σ H Q I h;rw [evalPart_none];exact wpAny_pure ⟨none,H,I,.none,h⟩
theorem Qn2 (h:PE X e te):PO X (some e) (Qv7 te):=by
 intro pins s σ H Q I hw;rw [evalPart_some];refine thn (h pins s σ H _ I hw) fun u s1 ⟨x,H1,I1,r1,q1⟩=>?_
 obtain ⟨i,rfl,q⟩:=q1;obtain ⟨t,rfl⟩:=r1;exact ⟨some i,H1,I1,.int i t,q⟩
def SlR (X:Cx) (r:V->Option Int->Option Int->Hp->VK->Prop):Prop:=
 ∀ (pins:List (aA × Obj)) (s:aC) (σ:St) (H:Hp) (x:V) (v vl vu:aB) (lo hi:Option Int) (sl:aA) (Q:VK),Inv X pins σ H s->RelV x v->s.heap.IsSliceOf sl vl vu .none->IsPart vl lo->IsPart vu hi->r x lo hi H Q ->
  ∃ T id,typeLookup (.type T) "__getitem__" = pure (some (.builtin id))/\s.TypeIs v T/\aI (aJ X.prog X.w) X.A (getItem v (.ref sl)) (EP X pins σ Q) X.xe s
theorem SlR.or {r r':V->Option Int->Option Int->Hp->VK->Prop} (h:SlR X r) (h':SlR X r'):SlR X (fun x lo hi H Q=>r x lo hi H Q\/r' x lo hi H Q):=by
 intro pins s σ H x v vl vu lo hi sl Q I rx hs pl pu q;rcases q with q | q
 ·exact h pins s σ H x v vl vu lo hi sl Q I rx hs pl pu q
 ·exact h' pins s σ H x v vl vu lo hi sl Q I rx hs pl pu q
def tSl (r:V->Option Int->Option Int->Hp->VK->Prop) (te:TE) (tl th:TO):TE:=fun σ H Q=>te σ H fun x H1=>tl σ H1 fun l H2=>th σ H2 fun u H3=>r x l u H3 Q
theorem Qiv {r:V->Option Int->Option Int->Hp->VK->Prop} (hr:SlR X r) (he:PE X e te) (hl:PO X lo tl) (hu:PO X hi th):PE X (.Subscript e (.Slice lo hi none p2) pos) (tSl r te tl th):=by
 intro pins s σ H Q I h;refine Subscript_ (thn (he pins s σ H _ I h) fun v s1 ⟨x,H1,I1,r1,q1⟩=>?_)
 refine wpAny_Slice (thn (hl pins s1 σ H1 _ I1 q1) fun vl s2 ⟨l,H2,I2,pl,q2⟩=>thn (hu pins s2 σ H2 _ I2 q2) fun vu s3 ⟨u,H3,I3,pu,q3⟩=>?_)
 rw [evalPart_none];refine wpAny_pure ?_;have I4:Inv X pins σ H3 { s3 with heap:=s3.heap.push { cls:=.type "slice",data:=.fields #[vl,vu,.none] } }:=I3.kept (t':=s3.toks) fun b ob q=>O0 _ q
 obtain ⟨T,id,hT,ht,hg⟩:=hr pins { s3 with heap:=s3.heap.push { cls:=.type "slice",data:=.fields #[vl,vu,.none] } } σ H3 x v vl vu l u s3.heap.objs.size Q I4 r1 (Heap.IsSliceOf.new ..) pl pu q3;show aI (aJ X.prog X.w) X.A (subscriptTail e (.Slice lo hi none p2) v (.ref s3.heap.objs.size)) (EP X pins σ Q) X.xe { s3 with heap:=s3.heap.push { cls:=.type "slice",data:=.fields #[vl,vu,.none] } };exact tail_any (ops:=[.ref s3.heap.objs.size,v]) ht hT hg (by with_unfolding_all rfl)
def Qbf (xs:List V) (lo hi:Option Int):List V:=(xs.drop (HT.sIx xs.length 0 lo)).take (HT.sIx xs.length xs.length hi - HT.sIx xs.length 0 lo)
theorem Q3d (xs:List V) (lo hi:Option Int):(Qbf xs lo hi).length<=xs.length:=by
 unfold Qbf;rw [List.length_take,List.length_drop];omega
def Qza (K:PySem.W.Frag):V->Option Int->Option Int->Hp->VK->Prop:=fun x lo hi H Q=>∃ a xs,x=.ref a/\SqT K H a xs /\
 ¬ (HT.sIx xs.length 0 lo=0/\HT.sIx xs.length xs.length hi=xs.length)/\∀ p,H p=none->Q (.ref p) (upd H p (.tup (Qbf xs lo hi)))
theorem sl_tup:SlR X (Qza X.K):=by
 intro pins s σ H x v vl vu lo hi sl Q I rx hs pl pu h;obtain ⟨a,xs,rfl,hx,hw,q⟩:=h;cases rx;obtain ⟨its,r,ht,hz⟩:=I.tuple hx;have hlen:its.toArray.size=xs.length:=by rw [O5]; exact r.length.symm
 refine ⟨"tuple",_,PyProof.Rows.slot_tuple_getitem.lookup,ht.typeIs,?_⟩;refine HT.getItem_tuple_cut ht hs pl pu (by rw [hlen]; exact hw) ?_ (by rw [hlen]; exact hz);rw [hlen];refine ⟨.ref s.heap.objs.size,_,I.laid (t':=s.toks) (o:=.tup (Qbf xs lo hi)) (fun b ob q=>O0 _ q) (O4 _) ?_,rfl,q _ (I.hok.fresh (O4 _))⟩;exact ⟨F1 (Q3d xs lo hi) hz,_,(r.drop (HT.sIx xs.length 0 lo)).take (HT.sIx xs.length xs.length hi - HT.sIx xs.length 0 lo),IsTup.new _ _⟩
def Qzd (K:PySem.W.Frag):R2:=fun x y H Q=>∃ a b ns ms,x=.ref a/\y=.ref b/\SqT K H a (ns.map V.int)/\SqT K H b (ms.map V.int)/\Q (.bl (HT.lexLt ns ms)) H
theorem Qt4 (hu:X.A.units < aV):OpR X (aU .Lt) (Qzd X.K):=by
 intro pins s σ H x y v u Q I rx ry h;obtain ⟨a,b,ns,ms,rfl,rfl,ha,hb,q⟩:=h;cases rx;cases ry;obtain ⟨its,r1,p1,_⟩:=I.tuple ha;obtain ⟨its2,r2,p2,_⟩:=I.tuple hb;have i1:IntsAre its.toArray.toList ns:=Q1d r1;have i2:IntsAre its2.toArray.toList ms:=Q1d r2;exact HT.lt_tupInts p1 p2 i1 i2 hu ⟨.bl (HT.lexLt ns ms),H,I,rfl,q⟩
def Qqi (K:PySem.W.Frag):R2:=fun x y H Q=>∃ a b xs ys,x=.ref a/\y=.ref b/\SqT K H a xs/\SqT K H b ys/\xs≠[]/\xs.length + ys.length<=sizeLine /\
 (ys=[]->Q (.ref a) H)/\(ys≠[]->∀ p,H p=none->Q (.ref p) (upd H p (.tup (xs ++ ys))))
theorem Vals.nil_iff (r:Vals xs us):us=[] <-> xs=[]:=by
 cases r with
 | nil=>simp
 | cons _ _=>simp
theorem op_catT:OpR X (aa .Add) (Qqi X.K):=by
 intro pins s σ H x y v u Q I rx ry h;obtain ⟨a,b,xs,ys,rfl,rfl,ha,hb,hx,hz,q1,q2⟩:=h;cases rx;cases ry;obtain ⟨its,r1,p1,_⟩:=I.tuple ha;obtain ⟨its2,r2,p2,_⟩:=I.tuple hb;refine HT.cat_tup p1 p2 (fun z=>hx (r1.nil_iff.mp z)) (fun z=>⟨.ref a,H,I,rfl,q1 (r2.nil_iff.mp z)⟩) (fun z=>?_) (by rw [<- r1.length,<- r2.length]; exact hz)
 refine ⟨.ref s.heap.objs.size,_,I.laid (t':=s.toks) (o:=.tup (xs ++ ys)) (fun b ob q=>O0 _ q) (O4 _) ?_,rfl,q2 (fun w=>z (r2.nil_iff.mpr w)) _ (I.hok.fresh (O4 _))⟩;exact ⟨by rw [D0]; exact hz,_,r1.append r2,IsTup.new _ _⟩
def ixN (n:Nat) (i:Int):Option Nat:=if 0<=i then (if i < n then some i.toNat else none) else if -(n:Int)<=i then some (i + n).toNat else none
def atI {α:Type} (xs:List α) (i:Int):Option α:=(ixN xs.length i).bind fun j=>xs[j]?
theorem Qe8 {i:Int} {j:Nat} (h:ixN n i=some j):seqIndex? i n=some j/\j < n/\-(n:Int)<=i/\i < n:=by
 unfold ixN at h
 by_cases h0:0<=i
 ·rw [bM h0] at h
  by_cases h1:i < n
  ·rw [bM h1] at h;have e:i.toNat=j:=Option.some.inj h;exact ⟨by rw [seqIndex_of h0 h1,e],by omega,by omega,h1⟩
  ·rw [bN h1] at h; cases h
 ·rw [bN h0] at h
  by_cases h1:-(n:Int)<=i
  ·rw [bM h1] at h;have e:(i + n).toNat=j:=Option.some.inj h;exact ⟨by rw [seqIndex_neg (by omega) h1,e],by omega,h1,by omega⟩
  ·rw [bN h1] at h; cases h
theorem atI_get {xs:List α} {i:Int} {v:α} (h:atI xs i=some v):∃ j,seqIndex? i xs.length=some j/\xs[j]?=some v/\j < xs.length/\-(xs.length:Int)<=i/\i < xs.length:=by
 unfold atI at h;cases e:ixN xs.length i with
 | none=>rw [e] at h; cases h
 | some j=>
  rw [e] at h;obtain ⟨h1,h2,h3,h4⟩:=Qe8 e;exact ⟨j,h1,h,h2,h3,h4⟩
def Qeq (b:aF):Prop:=∀ o i,subscripted b false o i=operate [o,i] (getItem o i)
def IxR (X:Cx) (r:R2):Prop:=
 ∀ (value slice:aF) (pins:List (aA × Obj)) (s:aC) (σ:St) (H:Hp) (x y:V) (v u:aB) (Q:VK),Inv X pins σ H s->RelV x v->RelV y u->r x y H Q ->
  subscripted slice false v u=operate [v,u] (getItem v u)->aI (aJ X.prog X.w) X.A (subscriptTail value slice v u) (EP X pins σ Q) X.xe s
def MtR (X:Cx) (id:String) (r:V->List V->Hp->VK->Prop):Prop:=
 ∀ (pins:List (aA × Obj)) (s:aC) (σ:St) (H:Hp) (x:V) (xs:List V) (v:aB) (us:List aB) (Q:VK),Inv X pins σ H s->RelV x v->Vals xs us->r x xs H Q ->
  aI (aJ X.prog X.w) X.A (call (.builtin id) (v :: us)) (EP X pins σ Q) X.xe s
section
variable {X:Cx} {a b:aF} {ta tb:TE} {pos:Pos}
theorem IxR.or {r r':R2} (h:IxR X r) (h':IxR X r'):IxR X (fun x y H Q=>r x y H Q\/r' x y H Q):=by
 intro value slice pins s σ H x y v u Q I rx ry q hs;rcases q with q | q
 ·exact h value slice pins s σ H x y v u Q I rx ry q hs
 ·exact h' value slice pins s σ H x y v u Q I rx ry q hs
theorem Qw4 {r:R2} (hr:IxR X r) (ha:PE X a ta) (hb:PE X b tb) (hs:Qeq b):PE X (.Subscript a b pos) (tOp r ta tb):=by
 intro pins s σ H Q I h;exact Subscript_ (Qud ha hb I h fun v u s2 x y H2 I2 rx ry q=>hr a b pins s2 σ H2 x y v u Q I2 rx ry q (hs _ _))
def Qvs (K:PySem.W.Frag):R2:=fun x y H Q=>∃ p xs i v,x=.ref p/\y=.int i/\SqL K H p xs/\atI xs i=some v/\Q v H
def Qvq (K:PySem.W.Frag):R2:=fun x y H Q=>∃ p xs i v,x=.ref p/\y=.int i/\SqT K H p xs/\atI xs i=some v/\Q v H
def Qvr:R2:=fun x y H Q=>∃ z i c,x=.str z/\y=.int i/\z.length<=sizeLine/\atI z.cps.toList i=some c/\Q (.str ⟨#[c]⟩) H
theorem ix_list:IxR X (Qvs X.K):=by
 intro value slice pins s σ H x y v u Q I rx ry h hs;obtain ⟨p,xs,i,z,rfl,rfl,hq,he,q⟩:=h;cases rx;obtain ⟨t,rfl⟩:=ry;obtain ⟨its,r,pl,hz⟩:=I.list hq;obtain ⟨j,h1,h2,h3,h4,h5⟩:=atI_get he;obtain ⟨w,ew,rw'⟩:=r.get h2;have hl:=r.length;have hn:=Q30;have fin:EP X pins σ Q w s:=⟨z,H,I,rw',q⟩
 by_cases h0:0<=i
 ·have hj:i.toNat=j:=by
   rw [seqIndex_of h0 h5] at h1;exact Option.some.inj h1
  exact item_listR pl.isList h0 (by omega) (by rw [hj]; simpa using ew) fin hs
 ·have hj:(i + (its.toArray.size:Int)).toNat=j:=by
   rw [seqIndex_neg (by omega) h4] at h1;rw [O5,<- hl];exact Option.some.inj h1
  exact subscriptTail_builtinR (x:=w) pl.isList.typeIs slot_list_getitem.lookup
   (wpAny_getItem_list_neg (Q:=fun r s'=>r=w/\EP X pins σ Q r s') pl.isList (by omega) (by rw [O5] <;> omega) (by omega) (by rw [hj]; simpa using ew) ⟨rfl,fin⟩) hs
theorem ix_tup:IxR X (Qvq X.K):=by
 intro value slice pins s σ H x y v u Q I rx ry h hs;obtain ⟨p,xs,i,z,rfl,rfl,hq,he,q⟩:=h;cases rx;obtain ⟨t,rfl⟩:=ry;obtain ⟨its,r,pl,hz⟩:=I.tuple hq;obtain ⟨j,h1,h2,h3,h4,h5⟩:=atI_get he;obtain ⟨w,ew,rw'⟩:=r.get h2;have hl:=r.length;have hn:=Q30;have fin:EP X pins σ Q w s:=⟨z,H,I,rw',q⟩;exact subscriptTail_builtinR (x:=w) pl.typeIs slot_tuple_getitem.lookup
  (getItem_tuple (j:=j) (Q:=fun r s'=>r=w/\EP X pins σ Q r s') pl (by omega) (by omega) (by rw [O5,<- hl]; exact h1) (by simpa using ew) ⟨rfl,fin⟩) hs
theorem Qtv:IxR X Qvr:=by
 intro value slice pins s σ H x y v u Q I rx ry h hs;obtain ⟨z,i,c,rfl,rfl,hz,he,q⟩:=h;obtain ⟨t,rfl⟩:=rx;obtain ⟨t',rfl⟩:=ry;obtain ⟨j,h1,h2,h3,h4,h5⟩:=atI_get he;have hl:z.cps.toList.length=z.length:=by simp [Str.length]
 rw [hl] at h1 h4 h5;have hn:=Q30;exact tail_any (typeIs_str s z t) slot_str_getitem.lookup (getItem_str (c:=c) (by
  have e1:decide (i < -(2 ^ 63:Int))=false:=bO (by omega);have e2:decide (i>=2 ^ 63)=false:=bO (by omega);rw [e1,e2,Bool.or_false]) (by rw [h1]; simpa using h2) ⟨.str ⟨#[c]⟩,H,I.tok _,⟨_,rfl⟩,q⟩) hs
def rIx (K:PySem.W.Frag):R2:=fun x y H Q=>Qvs K x y H Q\/Qvq K x y H Q\/Qvr x y H Q
theorem Qtw:IxR X (rIx X.K):=ix_list.or (ix_tup.or Qtv)
theorem Qcq (its:List aB) (n j:Nat) (u:aB):Obj.mapSeq (·.setIfInBounds j u) { cls:=.type "list",data:=.seq its.toArray n }={ cls:=.type "list",data:=.seq (its.set j u).toArray n }:=by
 simp [Obj.mapSeq]
theorem Inv.lst {pins:List (aA × Obj)} (I:Inv X pins σ H s) (h:H p=some (.lst xs)) :
  ∃ (its:List aB) (n:Nat),Vals xs its/\s.heap.get? p=some { cls:=.type "list",data:=.seq its.toArray n }/\xs.length<=sizeLine:=by
 obtain ⟨z,its,n,r,e⟩:=I.hok p _ h;exact ⟨its,n,r,e,z⟩
theorem Inv.lstUpd {pins:List (aA × Obj)} {ys:List V} {its its':List aB} {n n':Nat} {f:Obj->Obj} (I:Inv X pins σ H s) (h:H p=some (.lst xs))
  (ho:s.heap.get? p=some { cls:=.type "list",data:=.seq its.toArray n }) (hf:f { cls:=.type "list",data:=.seq its.toArray n }={ cls:=.type "list",data:=.seq its'.toArray n' }) (r:Vals ys its') (hz:ys.length<=sizeLine) (t:Nat) :
  Inv X pins σ (upd H p (.lst ys)) { s with heap:=s.heap.update p f,toks:=t }:=by
 have e:(s.heap.update p f).get? p=some { cls:=.type "list",data:=.seq its'.toArray n' }:=by
  rw [L8 f ho (by rw [hf] <;> rfl),hf]
 refine I.write (x:=p) (e:=p) (by rw [h]; trivial) (.inl rfl) (fun b u hb q=>(F3 _ _ (Ne.symm hb)).trans q) ⟨_,e⟩ ?_
 exact ⟨hz,its',n',r,e⟩
def Qvn:V->V->V->Hp->(Hp->Prop)->Prop:=fun o i v H Q=>∃ p xs k j,o=.ref p/\i=.int k/\H p=some (.lst xs)/\ixN xs.length k=some j/\Q (upd H p (.lst (xs.set j v)))
theorem Qhs:Qxv X Qvn:=by
 intro pins s σ H o i v ov iv u Q I ro ri rv h;obtain ⟨p,xs,k,j,rfl,rfl,hp,hj,q⟩:=h;cases ro;obtain ⟨t,rfl⟩:=ri;obtain ⟨its,n,r,ho,hz⟩:=I.lst hp;obtain ⟨h1,h2,h3,h4⟩:=Qe8 hj;have hl:=r.length;have hn:=Q30;have I':Inv X pins σ (upd H p (.lst (xs.set j v))) { s with heap:=s.heap.update p (Obj.mapSeq (·.setIfInBounds j u)) }:=
  I.lstUpd hp ho (Qcq its n j u) (r.set rv j) (by rw [F2]; exact hz) s.toks
 by_cases h0:0<=k
 ·have hk:k.toNat=j:=by
   rw [seqIndex_of h0 h4] at h1;exact Option.some.inj h1
  exact PySem.W.ki_setAt ho h0 (by omega) (by rw [O5,<- hl]; exact h4) (by rw [hk]; exact ⟨_,I',q⟩)
 ·have hk:(k + (its.toArray.size:Int)).toNat=j:=by
   rw [seqIndex_neg (by omega) h3] at h1;rw [O5,<- hl];exact Option.some.inj h1
  exact PySem.W.ki_setBack ho (by omega) (by rw [O5,<- hl]; exact h3) (by omega) (by rw [hk]; exact ⟨_,I',q⟩)
theorem Q8r (lo hi:Option Int) (n:Nat):(bD lo hi none n).1=((HT.sIx n 0 lo:Nat):Int)/\(bD lo hi none n).2.1=((HT.sIx n n hi:Nat):Int)/\(bD lo hi none n).2.2=1:=by
 refine ⟨?_,?_,rfl⟩
 ·cases lo with
  | none=>simp [bD,HT.sIx]
  | some i=>
   simp only [bD,HT.sIx,Option.getD_none,show (1:Int) > 0 by decide,if_true]
   by_cases h:i < 0
   ·simp only [h,if_true] <;> omega
   ·simp only [h,if_false] <;> omega
 ·cases hi with
  | none=>simp [bD,HT.sIx]
  | some i=>
   simp only [bD,HT.sIx,Option.getD_none,show (1:Int) > 0 by decide,if_true]
   by_cases h:i < 0
   ·simp only [h,if_true] <;> omega
   ·simp only [h,if_false] <;> omega
theorem Q6i (its:List aB) (lo hi:Option Int):slicePick its.toArray lo hi none=((its.drop (HT.sIx its.length 0 lo)).take (HT.sIx its.length its.length hi - HT.sIx its.length 0 lo)).toArray:=by
 obtain ⟨h1,h2,h3⟩:=Q8r lo hi its.toArray.size;unfold slicePick;rw [h1,h2,h3];simp only [sliceRange_one,pick_run,O5] <;> rfl
def Qzb (K:PySem.W.Frag):V->Option Int->Option Int->Hp->VK->Prop:=fun x lo hi H Q=>∃ a xs,x=.ref a/\SqL K H a xs/\∀ p,H p=none->Q (.ref p) (upd H p (.lst (Qbf xs lo hi)))
theorem Qmd:SlR X (Qzb X.K):=by
 intro pins s σ H x v vl vu lo hi sl Q I rx hs pl pu h;obtain ⟨a,xs,rfl,hx,q⟩:=h;cases rx;obtain ⟨its,r,ht,hz⟩:=I.list hx;have hlen:=r.length;refine ⟨"list",_,slot_list_getitem.lookup,ht.isList.typeIs,?_⟩;refine wpAny_getItem_list_slice ht.isList hs pl pu .none (by simp) ?_ (by rw [O5] <;> omega);rw [Q6i,<- hlen];refine ⟨.ref s.heap.objs.size,_,I.laid (t':=s.toks) (o:=.lst (Qbf xs lo hi)) (fun b ob q=>O0 _ q) (O4 _) ?_,rfl,q _ (I.hok.fresh (O4 _))⟩;exact ⟨F1 (Q3d xs lo hi) hz,_,0,(r.drop (HT.sIx xs.length 0 lo)).take (HT.sIx xs.length xs.length hi - HT.sIx xs.length 0 lo),D6 _ rfl⟩
theorem Q9t:K3 X (.builtin "len") (fun xs H Q=>∃ p ys,xs=[.ref p]/\(SqL X.K H p ys\/SqT X.K H p ys)/\Q (.int ys.length) H):=by
 intro pins s σ H xs us Q I r h;obtain ⟨p,ys,rfl,hq,q⟩:=h;obtain ⟨u,rfl,rx⟩:=x9 r;cases rx;have hn:=Q30;rcases hq with hq | hq
 ·obtain ⟨its,r',pl,hz⟩:=I.list hq;have hlen:=r'.length;exact Calls.call_len_list pl.isList (by simp only [O5] <;> omega) ⟨.int ys.length,H,I.tok _,⟨s.toks + 1,by rw [O5,hlen]⟩,q⟩
 ·obtain ⟨its,r',pl,hz⟩:=I.tuple hq;have hlen:=r'.length;exact len_tuple pl (by simp only [O5] <;> omega) ⟨.int ys.length,H,I.tok _,⟨s.toks + 1,by rw [O5,hlen]⟩,q⟩
theorem Q9s:K3 X (.builtin "len") (fun xs H Q=>∃ z,xs=[.str z]/\z.length<=sizeLine/\Q (.int z.length) H):=by
 intro pins s σ H xs us Q I r h;obtain ⟨z,rfl,hz,q⟩:=h;obtain ⟨u,rfl,t,rfl⟩:=x9 r;have hn:=Q30;exact len_str (by omega) ⟨.int z.length,H,I.tok _,⟨_,rfl⟩,q⟩
theorem Q0y:K3 X (.type "tuple") (fun xs H Q=>∃ p ys,xs=[.ref p]/\((SqL X.K H p ys/\∀ l,H l=none->Q (.ref l) (upd H l (.tup ys)))\/(SqT X.K H p ys/\Q (.ref p) H))):=by
 intro pins s σ H xs us Q I r h;obtain ⟨p,ys,rfl,h⟩:=h;obtain ⟨u,rfl,rx⟩:=x9 r;cases rx;rcases h with ⟨hq,q⟩ | ⟨hq,q⟩
 ·obtain ⟨its,r',pl,hz⟩:=I.list hq;have hlen:=r'.length;refine call_tuple_list pl.isList (fun h' kp=>?_) (by simp only [O5] <;> omega);have I1:Inv X pins σ H { s with heap:=h' }:=I.kept (t':=s.toks) kp;have I2:Inv X pins σ (upd H h'.objs.size (.tup ys)) { s with heap:=h'.push { cls:=.type "tuple",data:=.seq its.toArray } }:=
   I1.laid (t':=s.toks) (fun b o e=>O0 _ e) (O4 _) (show ObjOk X.prog X.w _ _ _ (.tup ys) from ⟨hz,its,r',IsTup.new _ _⟩)
  exact ⟨.ref h'.objs.size,_,I2,rfl,q _ (I1.hok.fresh (O4 _))⟩
 ·obtain ⟨its,r',pl,hz⟩:=I.tuple hq;exact call_tuple_same pl ⟨.ref p,H,I,rfl,q⟩
def tyV (K:PySem.W.Frag) (T:String) (x:V) (H:Hp):Prop:=match x with
 | .str _=>T = "str"
 | .int _=>T = "int"
 | .ref p=>(T = "list" /\ ∃ xs,SqL K H p xs)\/(T = "tuple" /\ ∃ o,K.lookup p=some o/\o.cls=.type "tuple" /\ o.dict=none) \/
   (T = "dict" /\ ((∃ kvs,H p=some (.dK kvs))\/∃ kvs,H p=some (.dT kvs)))\/(T = "set" /\ ∃ S n,H p=some (.set S n))
 | _=>False
theorem Qr0 {pins:List (aA × Obj)} {T:String} {x:V} {v:aB} (I:Inv X pins σ H s) (r:RelV x v) (ty:tyV X.K T x H) :
  s.TypeIs v T/\∀ a,v=.ref a->∃ ob,s.heap.get? a=some ob/\ob.dict=none:=by
 cases x with
 | str z=>
  obtain ⟨t,rfl⟩:=r;cases (show T = "str" from ty);exact ⟨typeIs_str s z t,fun _ e=>nomatch e⟩
 | int i=>
  obtain ⟨t,rfl⟩:=r;cases (show T = "int" from ty);exact ⟨typeIs_int s i t,fun _ e=>nomatch e⟩
 | ref p=>
  cases r;rcases ty with ⟨rfl,xs,hq⟩ | ⟨rfl,o,hk,hc,hd⟩ | ⟨rfl,hk⟩ | ⟨rfl,S,n,hk⟩
  ·obtain ⟨its,_,pl,_⟩:=I.list hq;refine ⟨pl.isList.typeIs,fun a e=>?_⟩;cases e;obtain ⟨o,n,e,c,hd,_⟩:=pl;exact ⟨o,e,hd⟩
  ·refine ⟨⟨o,I.kIn p o hk,hc⟩,fun a e=>?_⟩
   cases e;exact ⟨o,I.kIn _ o hk,hd⟩
  ·have z:∃ o,s.heap.get? p=some o/\o.ExactDict:=by
    rcases hk with ⟨kvs,hk⟩ | ⟨kvs,hk⟩
    ·obtain ⟨_,_,_,_,o,_,_,e,ex,_⟩:=I.hok p _ hk;exact ⟨o,e,ex⟩
    ·obtain ⟨_,_,_,_,o,_,_,e,ex,_⟩:=I.hok p _ hk;exact ⟨o,e,ex⟩
   obtain ⟨o,e,ex⟩:=z;refine ⟨⟨o,e,ex.1⟩,fun a e2=>?_⟩
   cases e2;exact ⟨o,e,ex.2.1⟩
  ·obtain ⟨o,_,_,_,e,ex,_⟩:=I.hok p _ hk;refine ⟨⟨o,e,ex.1⟩,fun a e2=>?_⟩
   cases e2;exact ⟨o,e,ex.2.1⟩
 | _=>exact False.elim ty
def tBM (K:PySem.W.Frag) (T:String) (r:V->List V->Hp->VK->Prop) (to:TE) (t:TA):TE:=fun σ H Q=>to σ H fun x H1=>tyV K T x H1/\t σ H1 fun xs H2=>r x xs H2 Q
variable {o e:aF} {es:List aF} {to:TE} {t:TA} {name:Str} {apos cpos:Pos} {T id:String} {r:V->List V->Hp->VK->Prop}
theorem Qw5 (pa:PlainAttrs T) (slot:Slot T name id) (hty:typeOf (.builtin id)=pure (.type "method_descriptor")) (hm:MtR X id r) (ho:PE X o to) (ha:PA X (e :: es) t)
  (hbase:ai o name X.env (aL o X.env)=aL o X.env:=by rfl)
  (hfew:((aS cpos (aM (e :: es) X.env)).all (fun x=>!x.1) && (backToKw cpos (keywordEach [] X.env)).all (fun x=>x.1.isSome)
   && decide ((e :: es).length + ([]:List Keyword).length + (if ([]:List Keyword).isEmpty then 0 else 1) < 30))=true:=by rfl)
  (hline:(apos.endLine == cpos.line)=true:=by rfl) (hs:aM (e :: es) X.env=(false,aL e X.env) :: aM es X.env:=by rfl) (hplain:(aS cpos (aM es X.env)).any (·.1)=false:=by rfl) :
  PE X (.Call (.Attribute o name apos) (e :: es) [] cpos) (tBM X.K T r to t):=by
 intro pins s σ H Q I h;refine wpAny_Call_method_late hbase hfew hline rfl (thn (ho pins s σ H _ I h) fun v s1 ⟨x,H1,I1,r1,ty,q1⟩=>?_)
 obtain ⟨h1,h2⟩:=Qr0 I1 r1 ty;refine ⟨T,id,pa,slot,hty,h1,h2,?_⟩;have hA:=ha cpos pins s1 σ H1 _ I1 q1;rw [hs] at hA ⊢;refine Calls.callWith_builtin (by show (false || (aS cpos (aM es X.env)).any (·.1))=false; rw [hplain] <;> rfl) (Calls.evalArgs_plain ?_);exact thn hA fun us s2 ⟨vs,H2,I2,r2,q2⟩=>hm pins s2 σ H2 x vs v us Q I2 r1 r2 q2
end
def MtM (X:Cx) (id:String) (r:V->List V->Hp->VK->Prop):Prop:=
 ∀ (pins:List (aA × Obj)) (s:aC) (σ:St) (H:Hp) (x:V) (xs:List V) (v:aB) (us:List aB) (Q:VK),Inv X pins σ H s->RelV x v->Vals xs us->r x xs H Q ->
  aI (aJ X.prog X.w) X.A (call (.builtin id) (v :: us)) (EP X pins σ Q) X.xe s
theorem Vals.one:∀ {x:V} {us:List aB},Vals [x] us->∃ u,us=[u]/\RelV x u
 | _,_,.cons r .nil=>⟨_,rfl,r⟩
theorem Vals.rep (h:Vals xs us):∀ k:Nat,Vals (List.replicate k xs).flatten (List.replicate k us).flatten
 | 0=>.nil
 | k + 1=>by
  rw [L6,L6,List.flatten_cons,List.flatten_cons];exact Vals.append h (Vals.rep h k)
theorem Q36 (its:List aB):∀ (k:Nat) (acc:List aB),
  List.foldl (fun x1 x2=>x1 ++ x2) acc.toArray (List.replicate k its.toArray)=(acc ++ (List.replicate k its).flatten).toArray
 | 0,acc=>by simp
 | k + 1,acc=>by
  have e:acc.toArray ++ its.toArray=(acc ++ its).toArray:=by simp
  have e2:(acc ++ its) ++ (List.replicate k its).flatten=acc ++ (List.replicate (k + 1) its).flatten:=by
   rw [L6,List.flatten_cons,L5]
  rw [<- e2,<- Q36 its k (acc ++ its),<- e,L6,List.foldl_cons]
variable {pins:List (aA × Obj)} {σ:St} {H:Hp} {s:aC} {l b:aA} {xs ys zs:List V}
theorem Inv.lset {its its':List aB} {n:Nat} {f:Array aB->Array aB} {t':Nat} (I:Inv X pins σ H s) (hH:H l=some (.lst xs))
  (e:s.heap.get? l=some { cls:=.type "list",data:=.seq its.toArray n }) (hf:f its.toArray=its'.toArray) (hv:Vals ys its') (hz:ys.length<=sizeLine) :
  Inv X pins σ (upd H l (.lst ys)) { s with heap:=s.heap.update l (Obj.mapSeq f),toks:=t' }:=by
 have q:=PySem.IsL.update e f;rw [hf] at q;refine I.write (x:=l) (e:=l) (by rw [hH]; exact trivial) (.inl rfl) (fun b' u hb hu=>(F3 s.heap (Obj.mapSeq f) (Ne.symm hb)).trans hu) ⟨_,q⟩ ?_
 exact ⟨hz,its',_,hv,q⟩
theorem Inv.lnew {its:List aB} {t':Nat} (I:Inv X pins σ H s) (hv:Vals ys its) (hz:ys.length<=sizeLine) :
  Inv X pins σ (upd H s.heap.objs.size (.lst ys)) { s with heap:=s.heap.push { cls:=.type "list",data:=.seq its.toArray },toks:=t' }:=
 I.laid (fun _ _ q=>O0 _ q) (O4 _) ⟨hz,its,0,hv,D6 _ rfl⟩
theorem Inv.fresh (I:Inv X pins σ H s):H s.heap.objs.size=none:=I.hok.fresh (O4 _)
theorem Inv.lstM (I:Inv X pins σ H s) (hH:H l=some (.lst xs)):xs.length<=sizeLine/\∃ (its:List aB) (n:Nat),Vals xs its/\xs.length=its.length/\s.heap.get? l=some { cls:=.type "list",data:=.seq its.toArray n }:=by
 obtain ⟨z,its,n,r,e⟩:=I.hok l _ hH;exact ⟨z,its,n,r,r.length,e⟩
theorem Qax (h:n<=sizeLine):Builtin.List.listTooLong n=false:=by
 unfold Builtin.List.listTooLong;exact bO (by omega)
def Qmu:V->List V->Hp->VK->Prop:=fun x vs H Q=>∃ l xs y,x=.ref l/\vs=[y]/\H l=some (.lst xs)/\xs.length < sizeLine/\Q .non (upd H l (.lst (xs ++ [y])))
theorem Qfv:MtM X "list.append" Qmu:=by
 intro pins s σ H x vs v us Q I rx rv h;obtain ⟨l,xs,y,rfl,rfl,hH,hz,q⟩:=h;cases rx;obtain ⟨u,rfl,ru⟩:=rv.one;obtain ⟨z,its,n,r,hl,e⟩:=I.lstM hH;refine bA F.slot_list_append ⟨_,e,rfl⟩ F.entry_list_append (F.args_list_append_2 _ _) (PySem.list_append l its.toArray n u (by rw [O5]; omega)) ⟨e,?_⟩;refine ⟨.non,_,I.lset (its':=its ++ [u]) hH e (by simp) (r.append (.cons ru .nil)) ?_,rfl,q⟩;rw [D0,List.length_singleton];omega
def Qmt:V->List V->Hp->VK->Prop:=fun x vs H Q=>∃ l b xs zs,x=.ref l/\vs=[.ref b]/\H l=some (.lst xs)/\H b=some (.lst zs)/\xs.length + zs.length<=sizeLine/\Q .non (upd H l (.lst (xs ++ zs)))
theorem Qfu:MtM X "list.extend" Qmt:=by
 intro pins s σ H x vs v us Q I rx rv h;obtain ⟨l,b,xs,zs,rfl,rfl,hH,hB,hz,q⟩:=h;cases rx;obtain ⟨u,rfl,ru⟩:=rv.one;cases ru;obtain ⟨z,its,n,r,hl,e⟩:=I.lstM hH;obtain ⟨z2,its2,n2,r2,hl2,e2⟩:=I.lstM hB;have hsz:its.toArray.size + its2.toArray.size<=sizeLine:=by rw [O5,O5]; omega
 have hlong:¬ (!its.toArray.isEmpty && Builtin.List.listTooLong (its.toArray.size + its2.toArray.size))=true:=by
  rw [Qax hsz,Bool.and_false];exact D8
 refine bA F.slot_list_extend ⟨_,e,rfl⟩ F.entry_list_extend (F.args_list_extend_2 _ _)
  (AutoSeq1.list_extend_list_list_0 l its.toArray n b its2.toArray n2 hlong (by rw [O5]; omega) (by omega)) ⟨e,e2,?_⟩
 refine ⟨.non,_,I.lset (its':=its ++ its2) hH e (by simp) (r.append r2) ?_,rfl,q⟩;rw [D0];omega
def Qze:R2:=fun x y H Q=>∃ l b xs zs,x=.ref l/\y=.ref b/\H l=some (.lst xs)/\H b=some (.lst zs)/\xs.length + zs.length<=sizeLine/\∀ p,H p=none->Q (.ref p) (upd H p (.lst (xs ++ zs)))
theorem Qt5:OpR X (aa .Add) Qze:=by
 intro pins s σ H x y v u Q I rx ry h;obtain ⟨l,b,xs,zs,rfl,rfl,hH,hB,hz,q⟩:=h;cases rx;cases ry;obtain ⟨z,its,n,r,hl,e⟩:=I.lstM hH;obtain ⟨z2,its2,n2,r2,hl2,e2⟩:=I.lstM hB;refine PySem.P.add_list e e2 ?_ (by rw [O5,O5]; omega);have ea:its.toArray ++ its2.toArray=(its ++ its2).toArray:=by simp
 rw [ea];exact ⟨.ref _,_,I.lnew (t':=s.toks) (r.append r2) (by rw [D0]; omega),rfl,q _ I.fresh⟩
def Qzc:R2:=fun x y H Q=>∃ l k xs,x=.ref l/\y=.int k/\H l=some (.lst xs)/\-(2 ^ 63)<=k/\k < 2 ^ 63/\xs.length * k.toNat<=sizeLine /\
 ∀ p,H p=none->Q (.ref p) (upd H p (.lst (List.replicate k.toNat xs).flatten))
theorem Q9d (xs:List α) (k:Nat):(List.replicate k xs).flatten.length=k * xs.length:=by
 induction k with
 | zero=>simp
 | succ k ih=>rw [L6,List.flatten_cons,D0,ih,Nat.succ_mul,Nat.add_comm]
theorem Qt1:OpR X (aa .Mult) Qzc:=by
 intro pins s σ H x y v u Q I rx ry h;obtain ⟨l,k,xs,rfl,rfl,hH,h1,h2,hz,q⟩:=h;cases rx;obtain ⟨t,rfl⟩:=ry;obtain ⟨z,its,n,r,hl,e⟩:=I.lstM hH;have hlen:its.toArray.size * k.toNat<=sizeLine:=by rw [O5,<- hl]; exact hz
 have hcap:¬ its.toArray.size * k.toNat > (2 ^ 63 - 1) / 8:=by
  have:(sizeLine:Nat)<=(2 ^ 63 - 1) / 8:=by decide
  omega
 have hfit:¬ (!Builtin.List.listFitsIndex k)=true:=by
  rw [fitsIndex_both h1 h2];exact D8
 have hlong:¬ Builtin.List.listTooLong (its.toArray.size * k.toNat)=true:=by
  rw [Qax hlen];exact D8
 have hnew:List.foldl (fun x1 x2=>x1 ++ x2) #[] (List.replicate (if its.toArray.isEmpty=true then 0 else k.toNat) its.toArray)=(List.replicate k.toNat its).flatten.toArray:=by
  have f0:∀ m:Nat,List.foldl (fun x1 x2=>x1 ++ x2) #[] (List.replicate m its.toArray)=(List.replicate m its).flatten.toArray:=fun m=>by
   have:=Q36 its m [];rw [List.nil_append] at this;exact this
  rw [f0];cases its with
  | nil=>simp
  | cons a r'=>rw [bN (by simp)]
 refine wpAny_binaryOp_repeat_ref (T := "list") (U := "int") (by decide) ⟨_,e,rfl⟩ (fun s'=>typeIs_int s' k t) noFill_list_mul F.fills_int_mul F.slot_int_rmul repeat_list F.slot_int_index.lookup
  (bA F.slot_int_rmul (typeIs_int s k t) F.entry_int_rmul (F.args_int_rmul_2 _ _) (int___rmul___int_list k t l its.toArray n)
   ⟨e,rfl,⟨_,e,rfl⟩,bA F.slot_list_mul ⟨_,e,rfl⟩ F.entry_list_mul (F.args_list_mul_2 _ _) (AutoListH.list___mul___list_int_3 l its.toArray n k t hfit hcap hlong) ⟨e,?_⟩⟩)
 rw [hnew];exact ⟨.ref _,_,I.lnew (t':=s.toks) (r.rep k.toNat) (by rw [Q9d,Nat.mul_comm]; exact hz),rfl,q _ I.fresh⟩
end L2
namespace Att
open PySem PySem.W PySem.Calls PyProof.Rows
theorem Q3t {P:Params} {h:Heap}:∀ (ns:List Int) (vs:List aB),WellAll P h vs (ns.map WData.int)->IntsAre vs ns:=by
 intro ns
 induction ns with
 | nil=>
  intro vs w;rw [List.map_nil] at w;cases w;exact .nil
 | cons n ns ih=>
  intro vs w;rw [G8] at w;cases w with
  | cons a b=>
   cases a;exact .cons _ _ (ih _ b)
theorem Qf9 {l:OpenLaw} {n:Nat} (hn:l.most=some n) {P:Params} {h:Heap} {args:List WData} {vals:List aB}
  (hpre:l.row.toRowW.claim.pre args=true) (hwl:WellAll P h vals args) :
  ∃ a vs ns,vals=[Value.ref a]/\args=[WData.list (ns.map WData.int)]/\h.get? a=some { cls:=.type "list",data:=.seq vs.toArray }/\IntsAre vs ns/\ns.length<=n:=by
 have hsh:WShape.hasAll [] args [.list .int]=true:=(pre_splitW hpre).1;have hc:l.pre.holds [] { args:=args }=true:=(pre_splitW hpre).2;obtain ⟨d,r,rfl,h1,h2⟩:=hasAllW_cons hsh;obtain rfl:=hasAllW_nil h2;obtain ⟨xs,rfl,h3⟩:=hasW_list h1;obtain ⟨ns,rfl⟩:=items_int h3;have hlen:ns.length<=n:=by
  unfold OpenLaw.pre at hc;have h4:(WTm.not (.lt (.lit (.int (n:Int))) (.len (.arg 0)))).holds [] { args:=[.list (ns.map .int)] }=true:=by
   have h4:=(holds_andW hc).1;rw [hn] at h4;exact h4
  have h5:=condW_of h4 (w_not (w_lt w_lit (w_len_list (w_arg rfl))));rw [O2] at h5;refine Nat.le_of_not_lt fun q=>?_
  have q':(n:Int) < ((ns.length:Nat):Int):=by omega
  first
   | (rw [bP q'] at h5; exact absurd h5 (by decide))
   | (simp at h5; omega)
 cases hwl with
 | cons w1 w2=>
  cases w2;cases w1 with
  | list ho hall=>exact ⟨_,_,ns,rfl,rfl,ho,Q3t ns _ hall,hlen⟩
theorem Qff (l:OpenLaw) (args:List WData):l.row.toRowW.claim.post args (.bool true) args=true:=
 postW_of (r:=l.row.toRowW) (X:=(true == true))
  (show WShape.has [] (.bool true) .bool=true by first | rfl | decide | simp [WShape.has,WShape.arms,WShape.armsAll])
  (show (WTm.eq .res (.lit (.bool true))).value [] { args:=args,res:=some (.bool true),after:=args }=some (.bool (true == true)) from w_eq_bool (w_res rfl) w_lit) rfl
theorem attach_call {l:OpenLaw} {n:Nat} {q:aP} {loose:List Str} {XP:(Str->Option aB)->Heap->Prop} {YP:aN->Heap->Prop} {d:DefRec}
  (hn:l.most=some n) (hdf:d.params.defaults=[])
  (call:∀ (w:aN) (s₀ s₁:aC) (mg mb:Str->Option aB) (fa:aA) (o:Obj) (pm cd doc:aB) (a:aA) (vs:List aB) (ns:List Int),
   Ground q loose [] XP w s₀ mg mb s₁.heap->YP w s₁.heap ->
   s₁.heap.get? fa=some o->o.data=.func (docDef d.name d.params d.body d.scope pm cd doc)->s₁.heap.CodeRec cd d.name->mg d.name=some (.ref fa) ->
   s₁.heap.get? a=some { cls:=.type "list",data:=.seq vs.toArray }->IntsAre vs ns->ns.length<=n->s₁.gens=#[] ->
   codeAny (aJ l.prog w) callerA (.call (.ref fa) ⟨[.ref a],[]⟩) (fun r s'=>r=.ok (.ret (.bool true))/\OldK s₁.heap s'.heap/\s'.os=s₁.os/\AllBare s'.gens) s₁) :
  WalkO q loose XP YP l.row.toRowW d [] (fun f vs=>PySem.call f vs):=by
 intro w s₀ s₁ mg mb G Y fa o pm cd doc dV kV ho hd hcd hD hmg hg args vals as hpre hlay hrd hwl hlo;obtain rfl:dV=.none:=Dflts.none hD hdf;obtain rfl:kV=.none:=Dflts.noKw hD;obtain ⟨a,vs,ns,rfl,rfl,hobj,hints,hlen⟩:=Qf9 hn hpre hwl;refine enter_call (bG (call w s₀ s₁ mg mb fa o pm cd doc a vs ns G Y ho (fd_plain hd) hcd hmg hobj hints hlen hg) fun r s' hq=>?_)
 obtain ⟨rfl,h2,h3,h4⟩:=hq;exact ⟨.inl ⟨.bool true,.bool true,[],rfl,fun _=>rfl,.bool true,Qff l _,fun _=>⟨List.Pairwise.nil,fun _ hm=>(nomatch hm)⟩⟩,h2,h3,h4⟩
end Att
namespace L2
open PySem PySem.Spec PyProof.Rows
variable {a f it l z i1 i2 l1 l2:aA} {fd:aO} {sp:Sp} {ns:List Int} {st:aK} {ps:List Str} {H:Hp} {ta:TA} {h':Heap} {Q:aB->aC->Prop} {t1 t2:Bool} {k1 k2:Nat} {b:aB} {xs:List V} {tp:Pos}
theorem Q78:∀ {vs:List aB} {ns:List Int},IntsAre vs ns->Vals (ns.map V.int) vs
 | _,_,.nil=>.nil
 | _,_,.cons n t h=>.cons ⟨t,rfl⟩ (Q78 h)
def Quj (H:Hp):Prop:=∀ b,H b=none\/∃ o xs,H b=some (.frz o (.lst xs))
theorem Qjn {P:aP} {w:aN} {K:PySem.W.Frag} {mg mb:Str->Option aB} {CX:CXT} {k:Nat} {fa a:aA} {fd:aO} {x:Str} {sp:Sp} {s₁:aC} {vs:List aB} {ns:List Int}
  (KX:K.In s₁.heap) (hns:s₁.heap.Ns aR mg) (hb:s₁.heap.Ns builtinsNs mb) (hbb:∀ x:Str,x≠"__name__" -> mb x=aW x) (hlim:s₁.heap.NoLimit) (hg:s₁.gens=#[])
  (ha:s₁.heap.get? a=some { cls:=.type "list",data:=.seq vs.toArray }) (hi:IntsAre vs ns) (hl:ns.length<=sizeLine) (hr:Room k callerA)
  (F:∀ base:Heap,K.In base->base.Ns aR mg->FnOk P w K mg base CX k fa fd [x] sp) (hbind:∀ (s:aC) (u:aB),BindsTo s fd ⟨[u],[]⟩ [(x,u)])
  (hsp:∀ H:Hp,Quj H->SqL K H a (ns.map V.int)->sp [.ref a] H (fun v _=>v=.bl true) fun _ _ _=>False)
  (hCX:∀ H e s',CX [] H s₁ (fun _ _ _=>False) e s'->False) :
  codeAny (aJ P w) callerA (.call (.ref fa) ⟨[.ref a],[]⟩) (fun r s'=>r=.ok (.ret (.bool true))/\OldK s₁.heap s'.heap/\s'.os=s₁.os/\AllBare s'.gens) s₁:=by
 have rv:=Q78 hi;have lenV:=hi.length;have core:∀ H:Hp,Quj H->SqL K H a (ns.map V.int)->HOk P w H s₁.heap->(∀ b,H b≠none->b=a)->(H a≠none->K.lookup a=none) ->
   codeAny (aJ P w) callerA (.call (.ref fa) ⟨[.ref a],[]⟩) (fun r s'=>r=.ok (.ret (.bool true))/\OldK s₁.heap s'.heap/\s'.os=s₁.os/\AllBare s'.gens) s₁:=by
  intro H hO hS hok hA hK;have base_of:∀ {b:aA} {o:Obj},s₁.heap.get? b=some o->H b=none->(Q9i s₁.heap H).get? b=some o:=fun e n=>Qju e n
  have noA:∀ {b:aA} {o:Obj} {es:Array DictEntry} {ep:Nat},s₁.heap.get? b=some o->o.data=.dict es ep->H b=none:=fun {b o es ep} e d=>by
   cases q:H b with
   | none=>rfl
   | some u=>
    have e':b=a:=hA b (by rw [q]; simp);subst e';rw [ha] at e; cases e;have d':Data.seq vs.toArray _=Data.dict es ep:=d;cases d'
  have nsK:∀ {b:aA} {m:Str->Option aB},s₁.heap.Ns b m->(Q9i s₁.heap H).Ns b m:=fun {b m} ⟨o,es,ep,e,d,r⟩=>⟨o,es,ep,base_of e (noA e d),d,r⟩
  have hKb:K.In (Q9i s₁.heap H):=fun b o e=>base_of (KX b o e) (by
   cases q:H b with
   | none=>rfl
   | some u=>
    have e':b=a:=hA b (by rw [q]; simp);subst e';rw [hK (by rw [q]; simp)] at e; cases e)
  have hM:Mod K mg (Q9i s₁.heap H):=⟨hKb,nsK hns,⟨mb,nsK hb,hbb⟩,let ⟨mc,h1,h2⟩:=hlim; ⟨mc,nsK h1,h2⟩⟩;have e0:Env0 P w K mg (Q9i s₁.heap H) callerA [] s₁ H:=⟨rfl,hM,fun b o e=>Qnx e,Nat.le_of_eq (Qg9 _ _),trivial,fun b hb=>absurd (show b∈([]:List aA) from hb) (by simp),hok,.of_eq hg⟩;refine bG ((F _ hKb (nsK hns)).run callerA [] s₁ H ⟨[.ref a],[]⟩ [.ref a] [.ref a] _ _ hr e0 (hbind s₁ (.ref a)) (.cons rfl .nil) (hsp H hO hS)) fun r s' h=>?_
  cases r with
  | error e=>exact (hCX H e s' h).elim
  | ok fl=>
   cases fl with
   | next=>exact False.elim h
   | brk=>exact False.elim h
   | cont=>exact False.elim h
   | ret u=>
    obtain ⟨v,H',os,bare,un,hok',r',q⟩:=h;have q':v=.bl true:=q;subst q';obtain rfl:u=Value.bool true:=r';refine ⟨rfl,OldK.of_keep fun b o e=>?_,os,bare⟩;cases q:H b with
    | none=>exact un.keep b o e q (by intro z; exact absurd (show b∈([]:List aA) from z) (by simp)) (by simp)
    | some u=>
     rcases hO b with z | ⟨ob,xs,z⟩
     ·rw [q] at z; cases z
     ·have z2:=un.frzs b ob _ z;obtain ⟨e1,_⟩:=hok b _ z;obtain ⟨e2,_⟩:=hok' b _ z2;rw [e] at e1; cases e1;exact e2
 cases hk:K.lookup a with
 | some o=>
  have e:=KX a o hk;rw [ha] at e;cases e;refine core (fun _=>none) (fun _=>.inl rfl) (.inr ⟨_,vs.toArray,_,hk,rfl,rfl,rfl,by rw [O5,lenV]; exact hl,by simpa using rv⟩) (fun b u z=>by have z':(none:Option HO)=some u:=z; cases z') (fun b z=>absurd rfl z) fun z=>absurd rfl z
 | none=>
  refine core (fun b=>if b=a then some (.frz { cls:=.type "list",data:=.seq vs.toArray } (.lst (ns.map V.int))) else none) (fun b=>?_) (.inl (.inr ⟨{ cls:=.type "list",data:=.seq vs.toArray },bM rfl⟩)) (fun b u z=>?_) (fun b z=>?_) fun _=>hk
  ·by_cases hb:b=a
   ·exact .inr ⟨_,_,bM hb⟩
   ·exact .inl (bN hb)
  ·by_cases hb:b=a
   ·have z':=(bM hb).symm.trans z;cases z';subst hb;exact ⟨ha,by rw [O2]; exact hl,vs,_,rv,ha⟩
   ·have z':=(bN hb).symm.trans z;cases z'
  ·by_cases hb:b=a
   ·exact hb
   ·exact absurd (bN hb) z
theorem walk_of {l:PySem.W.OpenLaw} {n k:Nat} {q:aP} {loose:List Str} {XP:(Str->Option aB)->Heap->Prop} {YP:aN->Heap->Prop} {d:DefRec} {K:Params->PySem.W.Frag} {CX:aN->CXT} {sp:aN->Sp} {x:Str}
  (hn:l.most=some n) (hn2:n<=sizeLine) (hdf:d.params.defaults=[]) (hr:Room k callerA)
  (hY:∀ (w:aN) (h:Heap),YP w h->(K w.params).In h)
  (F:∀ (w:aN) (mg:Str->Option aB) (fa:aA) (h:Heap),(K w.params).In h->h.Ns aR mg->mg d.name=some (.ref fa) ->
   ∃ fd:aO,(∀ (s:aC) (u:aB),BindsTo s fd ⟨[u],[]⟩ [(x,u)]) /\
    ∀ base:Heap,(K w.params).In base->base.Ns aR mg->FnOk l.prog w (K w.params) mg base (CX w) k fa fd [x] (sp w))
  (hsp:∀ (w:aN) (H:Hp) (a:aA) (ns:List Int),ns.length<=n->Quj H->SqL (K w.params) H a (ns.map V.int)->sp w [.ref a] H (fun v _=>v=.bl true) fun _ _ _=>False)
  (hCX:∀ (w:aN) (H:Hp) (s:aC) (e:aB) (s':aC),CX w [] H s (fun _ _ _=>False) e s'->False) :
  PySem.W.WalkO q loose XP YP l.row.toRowW d [] (fun f vs=>PySem.call f vs):=by
 refine Att.attach_call hn hdf fun w s₀ s₁ mg mb fa o pm cd doc a vs ns G Y ho hd hcd hmg hobj hints hlen hg=>?_
 have KX:=hY w _ Y;obtain ⟨fd,hb,hF⟩:=F w mg fa _ KX G.T.g hmg;exact Qjn KX G.T.g G.T.b G.T.builtins G.T.nolimit hg hobj hints (F1 hlen hn2) hr hF hb (fun H hO hS=>hsp w H a ns hlen hO hS) fun H e s'=>hCX w H s₁ e s'
def X4 (s:aK) (j:Nat):aK:=match s with
 | .ClassDef _ _ _ body _ _ _ _ _ _ _=>body.getD j (.Pass ⟨0,0,0,0⟩)
 | _=>.Pass ⟨0,0,0,0⟩
def W6 (s:aK):Arguments:=match s with
 | .FunctionDef _ a _ _ _ _ _ _ _ _=>a
 | _=>{ posonlyargs:=[],args:=[],vararg:=none,kwonlyargs:=[],kw_defaults:=[],kwarg:=none,defaults:=[] }
def Y2 (s:aK):List aK:=match s with
 | .FunctionDef _ _ b _ _ _ _ _ _ _=>b
 | _=>[]
def Q5 (s:aK):Scope:=match s with
 | .FunctionDef _ _ _ _ _ _ sc _ _ _=>sc
 | _=>{ kind:=.function,names:=[],isGenerator:=false,isCoroutine:=false }
abbrev CX0:CXT:=fun _ _ _ _ _ _=>False
abbrev E0:XK:=fun _ _ _=>False
structure Fun (K:PySem.W.Frag) (x qual:Str) (st:aK) (f:aA) (fd:aO):Prop where
 ex:∃ (oc:aB) (od:Option aA) (kV doc pm:aB) (an:Option aA) (cdv ct:aB) (osl:Array (Option aB)),
  fd=PySem.W.fnOf x qual (W6 st) (Y2 st) (Q5 st) .none kV doc pm an cdv ct/\K.lookup f=some ⟨oc,od,.func fd,osl⟩/\PySem.W.codeIn K cdv qual=true
 kp:PySem.W.keepIn K (.ref f)=true
variable {P:aP} {K:PySem.W.Frag} {mg:Str->Option aB} {base:Heap}
section
variable {w:aN}
theorem Fun.ok {x qual:Str} {N:List Str} {k:Nat} (F:Fun K x qual st f fd) (S:FnScope N ps (Q5 st)) (len:∀ vs H Q E,sp vs H Q E->vs.length=ps.length)
  (hbody:∀ (cdv:aB) (A:aQ) (outer:List Env) (s:aC) (H:Hp) (vs:List V) (Q:VK) (E:XK),Room k (A.deeper (envOfC qual (Q5 st) s.heap.objs.size f cdv))->sp vs H Q E ->
   ∃ t,PSs (Qd2 CX0 P w K mg base N qual (Q5 st) f cdv A outer s H E).nox (Y2 st) t/\t { nx:=fun _ H'=>Q .non H',rt:=Q } (start N vs) H):FnOk P w K mg base CX0 (k + 1) f fd ps sp:=by
 obtain ⟨oc,od,kV,doc,pm,an,cdv,ct,osl,rfl,lk,hcd⟩:=F.ex;refine Qqu lk hcd S len fun A outer s H vs Q E hr hsp=>?_
 obtain ⟨t,h,q⟩:=hbody cdv A outer s H vs Q E hr hsp;exact ⟨t,h.nox,q⟩
theorem Fun.binds {x qual:Str} {ps:List Str} (F:Fun K x qual st f fd)
  (h:∀ (kV doc pm:aB) (an:Option aA) (cdv ct:aB) (us:List aB),us.length=ps.length->bindArgs (PySem.W.fnOf x qual (W6 st) (Y2 st) (Q5 st) .none kV doc pm an cdv ct) ⟨us,[]⟩=pure (ps.zip us)):Binds K fd ps []:=by
 obtain ⟨oc,od,kV,doc,pm,an,cdv,ct,osl,rfl,lk,hcd⟩:=F.ex;exact .all (h kV doc pm an cdv ct)
theorem Qd0 {x qual:Str} {oc:aB} {od an:Option aA} {osl:Array (Option aB)} {kV doc pm cdv ct:aB} (l:K.lookup f=some ⟨oc,od,.func (PySem.W.fnOf x qual (W6 st) (Y2 st) (Q5 st) .none kV doc pm an cdv ct),osl⟩)
  (c:PySem.W.codeIn K cdv qual=true) (k:PySem.W.keepIn K (.ref f)=true):Fun K x qual st f (PySem.W.fnOf x qual (W6 st) (Y2 st) (Q5 st) .none kV doc pm an cdv ct):=⟨⟨oc,od,kV,doc,pm,an,cdv,ct,osl,rfl,l,c⟩,k⟩
end
variable {X:Cx}
theorem pv (i:Nat) {x:Str} {pos:Pos} (hN:X.N[i]?=some x:=by rfl) (hv:Vis X.env.scope x:=by first | exact Or.inl rfl | exact Or.inr (Or.inl rfl) | exact Or.inr (Or.inr rfl)) (hd:(x == ("__debug__" : Str))=false:=by decide)
  (hcd:(x == ("__classdict__" : Str))=false:=by decide):PE X (.Name x pos) (Qr6 i):=Qit hN hv hd hcd
def Same (H H':Hp):Prop:=∀ b o,H b=some o->H' b=some o
theorem Same.refl (H:Hp):Same H H:=fun _ _ h=>h
def Qqa (lo c:Int) (n:Nat):It:=⟨fun i _=>i < n,fun i H x H'=>H'=H/\x=.int (lo + i * c),fun i _=>n<=i⟩
theorem Qa7 {w:aN} {tg:aF} (it:aA) (lo c:Int) (n:Nat):Turn P w K tg (Qqa lo c n) [it] it (fun i h=>IsRangeIter h it (lo + (i:Nat) * c) ((n:Int) - (i:Nat)) c) where
 mem:=by simp
 obj:=fun i h st b hb=>by
  have e:b=it:=by simpa using hb
  subst e;exact ⟨_,st,fun v z=>by
   have z':Data.fields _=Data.cell v:=z;cases z'⟩
 keep:=fun i h h' st k=>k it (by simp) _ st
 item:=by
  intro X hP hw hK hc i pins s σ H E I hf st hg;subst hP hw hK;obtain ⟨f0,f1,f2,f3,f4,f5⟩:=hf it (by simp);have W:=Walks.range (prog:=X.prog) (w:=X.w) (I.ok.hd hc) it lo c n;refine W.item i s _ _ hg st fun v h' tk hv st' kk=>?_
  obtain ⟨t,rfl⟩:=hv;have I1:Inv X pins σ H { s with heap:=h',toks:=tk }:=I.turned (fun b o hb e=>kk b o (by simpa using hb) e) f0 f1 f3 f4 f5
  exact ⟨_,rfl,Qea (s:={ s with heap:=h',toks:=tk }) (n := "range_iterator") st' rfl rfl (by decide) ⟨.int (lo + i * c),H,I1,⟨t,rfl⟩,⟨rfl,rfl⟩,st',fun b hb=>(hf b hb).1⟩⟩
 done:=by
  intro X hP hw hK hc i pins s σ H E I hf st hg;subst hP hw hK;obtain ⟨f0,f1,f2,f3,f4,f5⟩:=hf it (by simp);exact wpAny_pyNext_range_end (I.ok.hd hc) st (by have:n<=i:=hg; omega) fun h' eb=>⟨rfl,I.turned (t':=s.toks) (fun b o hb e=>eb b o hb e) f0 f1 f3 f4 f5⟩
 self:=fun _ _ _ _ _ st h=>wpAny_pyIter_rangeiter st h
variable {tg:aF}
def rsz (a b c:Int):Nat:=(Builtin.Range.rangeSize a b c).toNat
theorem Qc6 (a b c:Int):0<=Builtin.Range.rangeSize a b c:=by
 unfold Builtin.Range.rangeSize
 split
 ·split
  ·rename_i h1 h2;have:=Int.ediv_nonneg (show 0<=b - a - 1 by omega) (show 0<=c by omega);omega
  ·omega
 ·split
  ·rename_i h1 h2;have:=Int.ediv_nonneg (show 0<=a - b - 1 by omega) (show 0<=-c by omega);omega
  ·omega
theorem Qi5 {a b c:Int} (hc:c≠0) {M:Int} (h0:0<=M) (h1:b - a<=M) (h2:a - b<=M):Builtin.Range.rangeSize a b c<=M:=by
 unfold Builtin.Range.rangeSize
 split
 ·split
  ·rename_i p q;have:=Int.ediv_le_self c (show 0<=b - a - 1 by omega);omega
  ·exact h0
 ·split
  ·rename_i p q;have:=Int.ediv_le_self (-c) (show 0<=a - b - 1 by omega);omega
  ·exact h0
theorem Qfa {pins:List (aA × Obj)} {σ:St} {s:aC} {R:It->Hp->Prop} {E:aB->aC->Prop} {lo hi c:Int} {t u v:Tok} {tk:Nat} (I:Inv X pins σ H s) (hs:Builtin.Range.small lo hi c=true)
  (q:R (Qqa lo c (rsz lo hi c)) H):aI (aJ X.prog X.w) X.A (pyIter (.ref s.heap.objs.size)) (PIE X pins σ tg R) E { s with heap:=s.heap.push { cls:=.type "range",data:=.fields #[.int lo t,.int hi u,.int c v] },toks:=tk }:=by
 refine wpAny_pyIter_range (IsRange.new ..) hs ?_;have I1:Inv X pins σ H { s with heap:=s.heap.push { cls:=.type "range",data:=.fields #[.int lo t,.int hi u,.int c v] },toks:=tk }:=I.kept fun b o e=>O0 _ e
 refine ⟨(s.heap.push { cls:=.type "range",data:=.fields #[.int lo t,.int hi u,.int c v] }).objs.size,[(s.heap.push { cls:=.type "range",data:=.fields #[.int lo t,.int hi u,.int c v] }).objs.size],_,_,H,rfl,
  I1.kept (t':=tk) fun b o e=>O0 _ e,Qa7 _ lo c (rsz lo hi c),?_,fun b hb=>?_,q⟩
 ·have e1:lo + ((0:Nat):Int) * c=lo:=by simp
  have e2:(((rsz lo hi c:Nat):Int)) - ((0:Nat):Int)=Builtin.Range.rangeSize lo hi c:=by unfold rsz; have:=Qc6 lo hi c; omega
  show IsRangeIter _ _ (lo + ((0:Nat):Int) * c) ((rsz lo hi c:Int) - ((0:Nat):Int)) c;rw [e1,e2];exact D6 _ rfl
 ·have e:b=(s.heap.push { cls:=.type "range",data:=.fields #[.int lo t,.int hi u,.int c v] }).objs.size:=by simpa using hb
  subst e;exact I1.fpOk (O4 _) (I1.hok.fresh (O4 _))
def Qwy (ta:TA):TI:=fun σ H R=>ta σ H fun vs H1=>∃ i j c:Int,vs=[.int i,.int j,.int c]/\(c≠0/\-1000000<=i/\i<=1000000/\-1000000<=j/\j<=1000000/\-1000000<=c/\c<=1000000)/\R (Qqa i c (rsz i j c)) H1
theorem Q84 {a:Int} (h1:-(2 ^ 62)<=a) (h2:a < 2 ^ 62):Builtin.Range.rangeFitsLong a=true:=by
 unfold Builtin.Range.rangeFitsLong;simp only [F6,decide_eq_true_eq];omega
theorem Qrm {a b c:Int} (hc:c≠0) (h1:-1000000<=a) (h2:a<=1000000) (h3:-1000000<=b) (h4:b<=1000000) (h5:-1000000<=c) (h6:c<=1000000):Builtin.Range.small a b c=true:=by
 have r1:=Qc6 a b c;have r2:=Qi5 (a:=a) (b:=b) hc (M:=2000000) (by omega) (by omega) (by omega);unfold Builtin.Range.small;rw [Q84 (a:=a) (by omega) (by omega),Q84 (a:=b) (by omega) (by omega),Q84 (a:=c) (by omega) (by omega),Q84 (by omega) (by omega)]
 split
 ·rw [Q84 (by omega) (by omega)]; simp
 ·rw [Q84 (by omega) (by omega)]; simp
theorem Qfh {a b c:aF} {p pos:Pos} (hg:Gl X "range") (hm:X.mg "range" = none) (ha:PA X [a,b,c] ta) (hs:aM [a,b,c] X.env=[(false,aL a X.env),(false,aL b X.env),(false,aL c X.env)]:=by rfl) (hs2:aM [b,c] X.env=[(false,aL b X.env),(false,aL c X.env)]:=by rfl) :
  PI X tg (.Call (.Name "range" p) [a,b,c] [] pos) (Qwy ta):=by
 intro pins s σ H R I h;refine Call_ (Q00 I hg hm boot_range (PyProof.Rows.callWith_type1 (thn (ha pos pins s σ H _ I h) fun us s1 ⟨vs,H1,I1,r1,q1⟩=>?_) (by rw [hs,hs2]) (by rw [hs2]; rfl)))
 obtain ⟨i,j,c,e,⟨q0,q1,q2,q3,q4,q5,q6⟩,q⟩:=q1;subst e;cases r1 with
 | cons r rr=>
  cases rr with
  | cons r' rr=>
   cases rr with
   | cons r'' rr=>
    cases rr;obtain ⟨t,rfl⟩:=r;obtain ⟨t',rfl⟩:=r';obtain ⟨t'',rfl⟩:=r'';refine call_range_3 q0 (Qfa I1 (Qrm q0 q1 q2 q3 q4 q5 q6) q) (.inl ?_);exact PyProof.noPylong_small (by omega)
theorem Qd3 {scope:Scope} {env:Env} (h:∀ x∈scope.names,x.2=.free->∃ c,env.cells.lookup x.1=some c) :
  ∃ cl,closureFor scope env=pure cl/\(∀ x c,cl.lookup x=some c->env.cells.lookup x=some c)/\(∀ x∈scope.names,x.2=.free->∃ c,cl.lookup x.1=some c):=by
 have key:∀ (l:List (Str × aj)) (acc:List (Str × aA)),(∀ x∈l,x.2=.free->∃ c,env.cells.lookup x.1=some c)->(∀ x c,acc.lookup x=some c->env.cells.lookup x=some c) ->
   ∃ cl,(forIn l acc fun (x:Str × aj) (r:List (Str × aA))=>(match x with
    | (name,kind)=>if (kind == NameKind.free)=true then (do let c <- cellOf env name; pure (ForInStep.yield ((name,c) :: r))) else (do pure PUnit.unit; pure (ForInStep.yield r)):Sem (ForInStep (List (Str × aA)))))=pure cl /\
    (∀ x c,cl.lookup x=some c->env.cells.lookup x=some c)/\(∀ x∈l,x.2=.free->∃ c,cl.lookup x.1=some c)/\(∀ x c,acc.lookup x=some c->∃ c',cl.lookup x=some c'):=by
  intro l
  induction l with
  | nil=>intro acc _ ha; exact ⟨acc,rfl,ha,fun x hx=>(by simp at hx),fun x c e=>⟨c,e⟩⟩
  | cons x r ih=>
   intro acc hl ha;obtain ⟨n,k⟩:=x
   by_cases hk:k=.free
   ·subst hk;obtain ⟨c,hc⟩:=hl (n,.free) D3 rfl;have ha':∀ x c',((n,c) :: acc).lookup x=some c'->env.cells.lookup x=some c':=fun x c' e=>by
     rw [E5] at e
     by_cases hx:x=n
     ·subst hx; simp at e; rw [<- e]; exact hc
     ·have:(x == n)=false:=by simpa using hx
      rw [this] at e; exact ha x c' e
    obtain ⟨cl,e1,e2,e3,e4⟩:=ih ((n,c) :: acc) (fun y hy=>hl y (O6 _ hy)) ha'
    refine ⟨cl,?_,e2,fun y hy hf=>?_,fun y c' e=>?_⟩
    ·rw [List.forIn_cons];have hcell:cellOf env n=pure c:=by unfold cellOf; rw [hc]
     simp only [beq_self_eq_true,if_true,hcell];exact e1
    ·rcases E7.mp hy with e | hy
     ·subst e;exact e4 n c (by simp)
     ·exact e3 y hy hf
    ·by_cases hy:y=n
     ·subst hy; exact e4 y c (by simp)
     ·have:(y == n)=false:=by simpa using hy
      exact e4 y c' (by rw [E5,this]; exact e)
   ·obtain ⟨cl,e1,e2,e3,e4⟩:=ih acc (fun y hy=>hl y (O6 _ hy)) ha
    refine ⟨cl,?_,e2,fun y hy hf=>?_,e4⟩
    ·rw [List.forIn_cons];have:(k == NameKind.free)=false:=by simpa using hk
     simp only [this,Bool.false_eq_true,if_false];exact e1
    ·rcases E7.mp hy with e | hy
     ·subst e; exact absurd hf hk
     ·exact e3 y hy hf
 obtain ⟨cl,e1,e2,e3,_⟩:=key scope.names [] h (fun x c e=>by simp at e);refine ⟨cl,?_,e2,e3⟩;unfold closureFor;exact (congrArg (fun z=>z >>= pure) e1).trans rfl
theorem Q24 (f:Str->aj->aj) (x:Str):∀ l:List (Str × aj),(l.map fun y=>(y.1,f y.1 y.2)).lookup x=(l.lookup x).map (f x)
 | []=>rfl
 | (n,k) :: r=>by
  have ih:=Q24 f x r;rw [G8,E5,E5]
  by_cases hx:x=n
  ·subst hx; simp
  ·have hb:(x == n)=false:=by simpa using hx
   rw [hb]; exact ih
theorem xq {scope:Scope} {env:Env} {x:Str}:(relabel scope env).names.lookup x =
  (scope.names.lookup x).map fun k=>if (k == .free && env.scope.kind == .function && env.kindOf x == some .cell) then .cell else k:=by
 rw [<- Q24 (fun n k=>if (k == .free && env.scope.kind == .function && env.kindOf n == some .cell) then .cell else k)]
 unfold relabel;refine congrArg (List.lookup x) (List.map_congr_left fun y _=>?_);obtain ⟨n,k⟩:=y;show (if (k == NameKind.free && env.scope.kind == .function && env.kindOf n == some .cell)=true then (n,NameKind.cell) else (n,k))=_
 split <;> rfl
def Q2c (cap:List (Option Nat)) (σ:St):St:=cap.map fun c=>c.bind fun j=>(σ[j]?).join
theorem HOk.same {w:aN} {h:Heap} (ok:HOk P w H h) (hn:H a=none) (hs:Heap.SameBut a h h'):HOk P w H h':=fun b ob e=>by
 refine (ok b ob e).stay (fun c w' hc q=>(hs.2 c ?_).trans q) (fun _ q=>q) fun _ _ q=>q
 rintro rfl;rcases hc with rfl | hc
 ·rw [hn] at e; cases e
 ·rw [hn] at hc; cases hc
def HasItems (t:Bool) (h:Heap) (a:aA) (items:Array aB):Prop:=if t=true then h.IsTuple a items else h.IsList a items
def IterAt (t:Bool) (h:Heap) (it a:aA) (i:Nat):Prop:=if t=true then h.IsTupleIter it a i else h.IsListIter it a i
theorem HasItems.at {t:Bool} {h:Heap} {items:Array aB} (x:HasItems t h a items) (k:∀ o,h.get? a=some o->h'.get? a=some o):HasItems t h' a items:=by
 cases t
 ·exact Heap.IsList.at x k
 ·obtain ⟨o,e,r⟩:=x;exact ⟨o,k o e,r⟩
theorem HasItems.there {t:Bool} {h:Heap} {items:Array aB} (x:HasItems t h a items):∃ o,h.get? a=some o:=by
 cases t
 ·obtain ⟨o,e,_⟩:=x; exact ⟨o,e⟩
 ·obtain ⟨o,e,_⟩:=x; exact ⟨o,e⟩
theorem IterAt.at {t:Bool} {h:Heap} {i:Nat} (x:IterAt t h it a i) (k:∀ o,h.get? it=some o->h'.get? it=some o):IterAt t h' it a i:=by
 cases t
 ·exact Heap.IsListIter.at x k
 ·obtain ⟨o,e,r⟩:=x;exact ⟨o,k o e,r⟩
theorem IterAt.there {t:Bool} {h:Heap} {i:Nat} (x:IterAt t h it a i):∃ o,h.get? it=some o/\∀ v,o.data≠.cell v:=by
 cases t
 ·obtain ⟨o,e,_,d⟩:=x; exact ⟨o,e,fun v z=>by rw [d] at z; cases z⟩
 ·obtain ⟨o,e,_,d⟩:=x; exact ⟨o,e,fun v z=>by rw [d] at z; cases z⟩
variable {prog:aP} {A:aQ} {E:aB->aC->Prop} {s:aC}
section
variable {w:aN}
theorem Q1w {i:Nat} {items} {x:aB} {Q:aB->aC->Prop} (hit:s.heap.IsTupleIter it l i)
  (hl:s.heap.IsTuple l items) (hx:items[i]?=some x)
  (hQ:∀ h',h'.IsTupleIter it l (i + 1)->Heap.SameBut it s.heap h'->Q x { s with heap:=h' }) :
  aI (aJ prog w) A (Builtin.SmallTypes.nextOf (.ref it)) Q E s:=by
 obtain ⟨o,ho,hc,hd⟩:=id hit;obtain ⟨ol,hol,_,nl,hdl⟩:=hl;unfold Builtin.SmallTypes.nextOf;refine aD (wpAny_callSpecial?_slot (name:=Str.ofString "__next__") hit.typeIs F.slot_tuple_iterator_next
  (ay F.slot_tuple_iterator_next hit.typeIs F.entry_tuple_iterator_next ?_ (F.args_tuple_iterator_next_1 _)))
 show aI _ _ (field (.ref it) 0 >>= _) _ _ s;refine aD (aX ho hd (x:=.ref l) rfl ?_);show aI _ _ (if (Value.ref l == Value.none)=true then _ else _) _ _ s;rw [bN (show ¬ ((Value.ref l == Value.none)=true) from D8)];show aI _ _ (field (.ref it) 1 >>= _) _ _ s;refine aD (aX ho hd (x:=.int i 0) rfl ?_);show aI _ _ (seqItems? (.ref l) >>= _) _ _ s;refine aD (ar hol hdl ?_);simp only [Int.toNat_natCast,hx];refine aD (wpAny_setField ho hd (by simp) (wpAny_pure ⟨x,rfl,wpAny_pure (hQ _ ?_ (Heap.SameBut.update ..))⟩));exact ⟨_,L8 _ ho (Obj.isFreed_of_fields (Obj.data_mapFields hd _)),(Obj.cls_mapFields ..).trans hc,by
  rw [Obj.data_mapFields hd]; simp [aZ]⟩
theorem Q2z {it l:aA} {i:Nat} {items} {Q:aB->aC->Prop} (hh:A.handled=none)
  (hit:s.heap.IsTupleIter it l i) (hl:s.heap.IsTuple l items) (hx:items[i]?=none)
  (hE:∀ h' e,Heap.ExtBut it s.heap h'->(∃ o,h'.get? e=some o/\o.cls=.type "StopIteration")->E (.ref e) { s with heap:=h' }) :
  aI (aJ prog w) A (Builtin.SmallTypes.nextOf (.ref it)) Q E s:=by
 obtain ⟨o,ho,hc,hd⟩:=id hit;obtain ⟨ol,hol,_,nl,hdl⟩:=hl;unfold Builtin.SmallTypes.nextOf;refine aD (wpAny_callSpecial?_slot (name:=Str.ofString "__next__") hit.typeIs F.slot_tuple_iterator_next
  (ay F.slot_tuple_iterator_next hit.typeIs F.entry_tuple_iterator_next ?_ (F.args_tuple_iterator_next_1 _)))
 show aI _ _ (field (.ref it) 0 >>= _) _ _ s;refine aD (aX ho hd (x:=.ref l) rfl ?_);show aI _ _ (if (Value.ref l == Value.none)=true then _ else _) _ _ s;rw [bN (show ¬ ((Value.ref l == Value.none)=true) from D8)];show aI _ _ (field (.ref it) 1 >>= _) _ _ s;refine aD (aX ho hd (x:=.int i 0) rfl ?_);show aI _ _ (seqItems? (.ref l) >>= _) _ _ s;refine aD (ar hol hdl ?_);simp only [Int.toNat_natCast,hx];refine aD (bI (aD (wpAny_setField ho hd (by simp) ?_)));show aI _ _ (newExc (.type "StopIteration") [] >>= _) _ _ _;refine aD ?_;simp only [newExc,newTuple];refine aD (aw ?_ (by size_fits));refine aD (m:=firstArgMember _ _) (wpAny_of_eq (a:=Value.none) (by first | rfl | (simp only [firstArgMember]; rfl)) ?_);refine aw ?_ (by size_fits);simp only [raiseNew]
 refine aD (wpAny_handled ?_)
 first | rw [show A.in1.handled=none from hh] | rw [hh]
 refine aD (wpAny_pure (wpAny_throw ?_));exact hE _ _ (((Heap.SameBut.update ..).extBut.push _).push _) ⟨_,D6 _ rfl,rfl⟩
theorem qw {t:Bool} {i:Nat} {items:Array aB} {x:aB} {Q:aB->aC->Prop} (hit:IterAt t s.heap it l i)
  (hl:HasItems t s.heap l items) (hx:items[i]?=some x)
  (hQ:∀ h',IterAt t h' it l (i + 1)->Heap.SameBut it s.heap h'->Q x { s with heap:=h' }) :
  aI (aJ prog w) A (Builtin.SmallTypes.nextOf (.ref it)) Q E s:=by
 cases t
 ·exact wpAny_nextOf_list_item hit hl hx hQ
 ·exact Q1w hit hl hx hQ
theorem ye {t:Bool} {it l:aA} {i:Nat} {items:Array aB} {Q:aB->aC->Prop} (hh:A.handled=none)
  (hit:IterAt t s.heap it l i) (hl:HasItems t s.heap l items) (hx:items[i]?=none)
  (hE:∀ h' e,Heap.ExtBut it s.heap h'->(∃ o,h'.get? e=some o/\o.cls=.type "StopIteration")->E (.ref e) { s with heap:=h' }) :
  aI (aJ prog w) A (Builtin.SmallTypes.nextOf (.ref it)) Q E s:=by
 cases t
 ·exact wpAny_nextOf_list_end hh hit hl hx hE
 ·exact Q2z hh hit hl hx hE
def X3 (t:Bool) (l:aA):Obj:=if t=true then { cls:=.type "tuple_iterator",data:=.fields #[.ref l,.int 0 0] } else { cls:=.type "list_iterator",data:=.fields #[.ref l,.int 0 0] }
theorem Uj {t:Bool} {items:Array aB} {Q:aB->aC->Prop} (hl:HasItems t s.heap l items)
  (hQ:Q (.ref s.heap.objs.size) { s with heap:=s.heap.push (X3 t l) }):aI (aJ prog w) A (pyIter (.ref l)) Q E s:=by
 cases t
 ·exact wpAny_pyIter_list hl hQ
 ·exact bJ hl hQ
theorem Q1c {t:Bool} {h:Heap} (e:h.get? it=some (X3 t l)):IterAt t h it l 0:=by
 cases t
 ·exact ⟨_,e,rfl,rfl⟩
 ·exact ⟨_,e,rfl,rfl⟩
theorem ym (t:Bool) (l:aA):(X3 t l).isFreed=false:=by cases t <;> rfl
theorem Qes {t1 t2:Bool} {TI TO:aA} {k1 k2:Nat} {xs ys:Array aB} {x y a b:aB} {Q:aB->aC->Prop} (D:ZipApart z TI TO i1 i2 l1 l2)
  (hz:IsZip s.heap z TI TO .none) (hTI:aY s.heap TI (.ref i1) (.ref i2)) (hTO:aY s.heap TO a b)
  (h1:IterAt t1 s.heap i1 l1 k1) (h2:IterAt t2 s.heap i2 l2 k2) (hl1:HasItems t1 s.heap l1 xs) (hl2:HasItems t2 s.heap l2 ys) (hx:xs[k1]?=some x) (hy:ys[k2]?=some y)
  (hQ:∀ h',IsZip h' z TI TO (aZ s.heap.objs.size)->aY h' TO x y->IterAt t1 h' i1 l1 (k1 + 1)->IterAt t2 h' i2 l2 (k2 + 1)->aY h' s.heap.objs.size x y->h'.objs.size=s.heap.objs.size + 1 ->
   (∀ c o,c≠z->c≠TO->c≠i1->c≠i2->s.heap.get? c=some o->h'.get? c=some o)->Q (.ref s.heap.objs.size) { s with heap:=h' }) :
  aI (aJ prog w) A (Builtin.«zip.__next__» ⟨[.ref z],[]⟩) (fun fin s'=>∃ v,fin=.done (.ret v)/\Q v s') E s:=by
 show aI _ _ (field (.ref z) 2 >>= _) _ _ _;refine aD (aX hz rfl (x:=.bool false) rfl ?_);show aI _ _ (field (.ref z) 3 >>= _) _ _ _;refine aD (aX hz rfl (x:=.ref TI) rfl ?_);refine aD (ar hTI rfl ?_);show aI _ _ (Builtin.SmallTypes.ownedTupleIsFree (.ref z) >>= _) _ _ _;refine aD ?_;unfold Builtin.SmallTypes.ownedTupleIsFree;refine aD (aX hz rfl (x:=.none) rfl (wpAny_pure ?_));simp only [if_true];refine aD (bI ?_);refine aD (aX hz rfl (x:=.ref TO) rfl ?_);refine aD (bH hz (by simp) fun h₁ hz₁ hs₁=>?_)
 replace hz₁:IsZip h₁ z TI TO .ellipsis:=hz₁;refine aD ?_;simp only [List.zipIdx_cons,List.zipIdx_nil,List.forIn_cons,List.forIn_nil];refine aD (aD (wpAny_onRaise ?_));show aI _ _ (Builtin.SmallTypes.nextOf (.ref i1) >>= _) _ _ _;refine aD (qw (h1.at fun o e=>hs₁.extBut _ _ D.i1z e) (hl1.at fun o e=>hs₁.extBut _ _ D.l1z e) hx fun h₂ h1₂ hs₂=>wpAny_pure ?_)
 have hTO₂:aY h₂ TO a b:=hs₂.extBut _ _ D.TOi1 (hs₁.extBut _ _ D.TOz hTO);refine aD (ar hTO₂ rfl ?_);refine aD (wpAny_updateSeq_pair hTO₂ fun h₃ hTO₃ hs₃=>?_);replace hTO₃:aY h₃ TO x b:=hTO₃;refine aD (wpAny_letGo (wpAny_pure ?_));refine aD (aD (wpAny_onRaise ?_));show aI _ _ (Builtin.SmallTypes.nextOf (.ref i2) >>= _) _ _ _;refine aD (qw (h2.at fun o e=>hs₃.extBut _ _ D.TOi2.symm (hs₂.extBut _ _ D.i12.symm (hs₁.extBut _ _ D.i2z e)))
  (hl2.at fun o e=>hs₃.extBut _ _ D.l2TO (hs₂.extBut _ _ D.l2i1 (hs₁.extBut _ _ D.l2z e))) hy fun h₄ h2₄ hs₄=>wpAny_pure ?_)
 have hTO₄:aY h₄ TO x b:=hs₄.extBut _ _ D.TOi2 hTO₃;refine aD (ar hTO₄ rfl ?_);refine aD (wpAny_updateSeq_pair hTO₄ fun h₅ hTO₅ hs₅=>?_);replace hTO₅:aY h₅ TO x y:=hTO₅;refine aD (wpAny_letGo (wpAny_pure (wpAny_pure ?_)));refine aD (ar hTO₅ rfl ?_);refine aD (wpAny_newTuple ?_);have hsz:h₅.objs.size=s.heap.objs.size:=by rw [hs₅.1,hs₄.1,hs₃.1,hs₂.1,hs₁.1]
 have hz₅:IsZip h₅ z TI TO .ellipsis:=hs₅.extBut _ _ D.TOz.symm (hs₄.extBut _ _ D.i2z.symm (hs₃.extBut _ _ D.TOz.symm (hs₂.extBut _ _ D.i1z.symm hz₁)));have hk₅:∀ c o,c≠z->c≠TO->c≠i1->c≠i2->s.heap.get? c=some o->h₅.get? c=some o:=fun c o c1 c2 c3 c4 e=>
  hs₅.extBut _ _ c2 (hs₄.extBut _ _ c4 (hs₃.extBut _ _ c2 (hs₂.extBut _ _ c3 (hs₁.extBut _ _ c1 e))))
 have h1₅:IterAt t1 h₅ i1 l1 (k1 + 1):=h1₂.at fun o e=>hs₅.extBut _ _ D.TOi1.symm (hs₄.extBut _ _ D.i12 (hs₃.extBut _ _ D.TOi1.symm e))
 have h2₅:IterAt t2 h₅ i2 l2 (k2 + 1):=h2₄.at fun o e=>hs₅.extBut _ _ D.TOi2.symm e
 have hzlt:z < h₅.objs.size:=O8 hz₅;show aI _ _ (Builtin.SmallTypes.ownedTupleHandOut (.ref z) (.ref h₅.objs.size) >>= _) _ _ _;refine aD ?_;unfold Builtin.SmallTypes.ownedTupleHandOut;have hz₆:IsZip (h₅.push { cls:=.type "tuple",data:=.seq #[x,y] }) z TI TO .ellipsis:=O0 _ hz₅;refine aD (bH hz₆ (by simp) fun h₇ hz₇ hs₇=>?_)
 replace hz₇:IsZip h₇ z TI TO (aZ h₅.objs.size):=hz₇;refine bH hz₇ (by simp) fun h₈ hz₈ hs₈=>?_
 replace hz₈:IsZip h₈ z TI TO (aZ h₅.objs.size):=hz₈;have up:∀ c o,c≠z->h₅.get? c=some o->h₈.get? c=some o:=fun c o c1 e=>hs₈.extBut _ _ c1 (hs₇.extBut _ _ c1 (O0 _ e))
 have hT₈:aY h₈ h₅.objs.size x y:=hs₈.extBut _ _ (Nat.ne_of_gt hzlt) (hs₇.extBut _ _ (Nat.ne_of_gt hzlt) (D6 _ rfl));have hz8:h₈.objs.size=h₅.objs.size + 1:=by rw [hs₈.1,hs₇.1,F9]
 rw [hsz] at hz₈ hT₈ hz8;refine wpAny_pure ⟨_,rfl,?_⟩;show Q (.ref h₅.objs.size) _;rw [hsz];exact hQ h₈ hz₈ (up _ _ D.TOz hTO₅) (h1₅.at fun o e=>up _ o D.i1z e) (h2₅.at fun o e=>up _ o D.i2z e) hT₈ hz8 fun c o c1 c2 c3 c4 e=>up c o c1 (hk₅ c o c1 c2 c3 c4 e)
theorem Qh4 {t1 t2:Bool} {TI TO:aA} {k1 k2:Nat} {xs ys:Array aB} {a b:aB} {Q:Fin->aC->Prop} (hh:A.handled=none) (D:ZipApart z TI TO i1 i2 l1 l2)
  (hz:IsZip s.heap z TI TO .none) (hTI:aY s.heap TI (.ref i1) (.ref i2)) (hTO:aY s.heap TO a b)
  (h1:IterAt t1 s.heap i1 l1 k1) (h2:IterAt t2 s.heap i2 l2 k2) (hl1:HasItems t1 s.heap l1 xs) (hl2:HasItems t2 s.heap l2 ys) (hend:xs[k1]?=none\/ys[k2]?=none)
  (hE:∀ h' e,(∀ c o,c≠z->c≠TO->c≠i1->c≠i2->s.heap.get? c=some o->h'.get? c=some o)->(∃ o,h'.get? e=some o/\o.cls=.type "StopIteration")->E (.ref e) { s with heap:=h' }) :
  aI (aJ prog w) A (Builtin.«zip.__next__» ⟨[.ref z],[]⟩) Q E s:=by
 show aI _ _ (field (.ref z) 2 >>= _) _ _ _;refine aD (aX hz rfl (x:=.bool false) rfl ?_);show aI _ _ (field (.ref z) 3 >>= _) _ _ _;refine aD (aX hz rfl (x:=.ref TI) rfl ?_);refine aD (ar hTI rfl ?_);show aI _ _ (Builtin.SmallTypes.ownedTupleIsFree (.ref z) >>= _) _ _ _;refine aD ?_;unfold Builtin.SmallTypes.ownedTupleIsFree;refine aD (aX hz rfl (x:=.none) rfl (wpAny_pure ?_));simp only [if_true];refine aD (bI ?_);refine aD (aX hz rfl (x:=.ref TO) rfl ?_);refine aD (bH hz (by simp) fun h₁ hz₁ hs₁=>?_)
 replace hz₁:IsZip h₁ z TI TO .ellipsis:=hz₁;refine aD ?_;simp only [List.zipIdx_cons,List.zipIdx_nil,List.forIn_cons,List.forIn_nil];refine aD (aD (wpAny_onRaise ?_));show aI _ _ (Builtin.SmallTypes.nextOf (.ref i1) >>= _) _ _ _;cases hx:xs[k1]? with
 | none=>
  refine aD (ye hh (h1.at fun o e=>hs₁.extBut _ _ D.i1z e) (hl1.at fun o e=>hs₁.extBut _ _ D.l1z e) hx fun h₂ e hs₂ he=>?_)
  obtain ⟨oe,hoe,hce⟩:=he;have hz₂:IsZip h₂ z TI TO .ellipsis:=hs₂ _ _ D.i1z.symm hz₁;have hez:e≠z:=fun x=>by subst x; rw [hz₂] at hoe; cases hoe; simp at hce
  refine bH hz₂ (by simp) fun h₃ _ hs₃=>hE h₃ e (fun c o c1 _ c3 _ x=>hs₃.extBut _ _ c1 (hs₂ _ _ c3 (hs₁.extBut _ _ c1 x))) ⟨oe,hs₃.extBut _ _ hez hoe,hce⟩
 | some x=>
  have hy:ys[k2]?=none:=by rcases hend with h | h; rw [hx] at h; cases h; exact h
  refine aD (qw (h1.at fun o e=>hs₁.extBut _ _ D.i1z e) (hl1.at fun o e=>hs₁.extBut _ _ D.l1z e) hx fun h₂ h1₂ hs₂=>wpAny_pure ?_)
  have hTO₂:aY h₂ TO a b:=hs₂.extBut _ _ D.TOi1 (hs₁.extBut _ _ D.TOz hTO);refine aD (ar hTO₂ rfl ?_);refine aD (wpAny_updateSeq_pair hTO₂ fun h₃ hTO₃ hs₃=>?_);refine aD (wpAny_letGo (wpAny_pure ?_));refine aD (aD (wpAny_onRaise ?_));show aI _ _ (Builtin.SmallTypes.nextOf (.ref i2) >>= _) _ _ _;refine aD (ye hh (h2.at fun o e=>hs₃.extBut _ _ D.TOi2.symm (hs₂.extBut _ _ D.i12.symm (hs₁.extBut _ _ D.i2z e)))
   (hl2.at fun o e=>hs₃.extBut _ _ D.l2TO (hs₂.extBut _ _ D.l2i1 (hs₁.extBut _ _ D.l2z e))) hy fun h₄ e hs₄ he=>?_)
  obtain ⟨oe,hoe,hce⟩:=he;have hz₄:IsZip h₄ z TI TO .ellipsis:=hs₄ _ _ D.i2z.symm (hs₃.extBut _ _ D.TOz.symm (hs₂.extBut _ _ D.i1z.symm hz₁));have hez:e≠z:=fun x=>by subst x; rw [hz₄] at hoe; cases hoe; simp at hce
  refine bH hz₄ (by simp) fun h₅ _ hs₅=>hE h₅ e (fun c o c1 c2 c3 c4 x=>hs₅.extBut _ _ c1 (hs₄ _ _ c4 (hs₃.extBut _ _ c2 (hs₂.extBut _ _ c3 (hs₁.extBut _ _ c1 x))))) ⟨oe,hs₅.extBut _ _ hez hoe,hce⟩
theorem Q5i {t1 t2:Bool} {TI TO:aA} {k1 k2:Nat} {xs ys:Array aB} {x y a b:aB} {Q:Option aB->aC->Prop} (D:ZipApart z TI TO i1 i2 l1 l2)
  (hz:IsZip s.heap z TI TO .none) (hTI:aY s.heap TI (.ref i1) (.ref i2)) (hTO:aY s.heap TO a b)
  (h1:IterAt t1 s.heap i1 l1 k1) (h2:IterAt t2 s.heap i2 l2 k2) (hl1:HasItems t1 s.heap l1 xs) (hl2:HasItems t2 s.heap l2 ys) (hx:xs[k1]?=some x) (hy:ys[k2]?=some y)
  (hQ:∀ h',IsZip h' z TI TO (aZ s.heap.objs.size)->aY h' TO x y->IterAt t1 h' i1 l1 (k1 + 1)->IterAt t2 h' i2 l2 (k2 + 1)->aY h' s.heap.objs.size x y->h'.objs.size=s.heap.objs.size + 1 ->
   (∀ c o,c≠z->c≠TO->c≠i1->c≠i2->s.heap.get? c=some o->h'.get? c=some o)->Q (some (.ref s.heap.objs.size)) { s with heap:=h' }) :
  aI (aJ prog w) A (az (.ref z)) Q E s:=by
 have hT:s.TypeIs (.ref z) "zip" := ⟨_,hz,rfl⟩;unfold az;exact aD (wpAny_attempt (wpAny_callSpecial?_slot (name:=Str.ofString "__next__") hT F.slot_zip_next
  (ay F.slot_zip_next hT F.entry_zip_next
   (Qes D hz hTI hTO h1 h2 hl1 hl2 hx hy fun h' a1 a2 a3 a4 a5 a6 a7=>wpAny_pure (hQ h' a1 a2 a3 a4 a5 a6 a7)) (F.args_zip_next_1 _))))
theorem Q71 {t1 t2:Bool} {TI TO:aA} {k1 k2:Nat} {xs ys:Array aB} {a b:aB} {Q:Option aB->aC->Prop} (hh:A.handled=none) (D:ZipApart z TI TO i1 i2 l1 l2)
  (hz:IsZip s.heap z TI TO .none) (hTI:aY s.heap TI (.ref i1) (.ref i2)) (hTO:aY s.heap TO a b)
  (h1:IterAt t1 s.heap i1 l1 k1) (h2:IterAt t2 s.heap i2 l2 k2) (hl1:HasItems t1 s.heap l1 xs) (hl2:HasItems t2 s.heap l2 ys) (hend:xs[k1]?=none\/ys[k2]?=none)
  (hQ:∀ h',(∀ c o,c≠z->c≠TO->c≠i1->c≠i2->s.heap.get? c=some o->h'.get? c=some o)->Q none { s with heap:=h' }):aI (aJ prog w) A (az (.ref z)) Q E s:=by
 have hT:s.TypeIs (.ref z) "zip" := ⟨_,hz,rfl⟩;unfold az;refine aD (wpAny_attempt (wpAny_callSpecial?_slot (name:=Str.ofString "__next__") hT F.slot_zip_next
  (ay F.slot_zip_next hT F.entry_zip_next (Qh4 hh D hz hTI hTO h1 h2 hl1 hl2 hend fun h' e hk he=>?_) (F.args_zip_next_1 _))))
 obtain ⟨o,ho,hc⟩:=he;refine aD (bL (T := "StopIteration") (b:=true) ⟨o,ho,hc⟩ isSubtype_stop ?_);exact wpAny_pure (hQ _ hk)
end
def zH1 (t1:Bool) (h:Heap) (l1:aA):Heap:=h.push (X3 t1 l1)
def zH2 (t1 t2:Bool) (h:Heap) (l1 l2:aA):Heap:=(zH1 t1 h l1).push (X3 t2 l2)
def zH3 (t1 t2:Bool) (h:Heap) (l1 l2:aA):Heap:=(zH2 t1 t2 h l1 l2).push { cls:=.type "tuple",data:=.seq #[.ref h.objs.size,.ref (zH1 t1 h l1).objs.size] }
def zH4 (t1 t2:Bool) (h:Heap) (l1 l2:aA):Heap:=(zH3 t1 t2 h l1 l2).push { cls:=.type "tuple",data:=.seq #[.none,.none] }
def zH5 (t1 t2:Bool) (h:Heap) (l1 l2:aA):Heap:=(zH4 t1 t2 h l1 l2).push { cls:=.type "zip",data:=.fields #[.none,.bool false,.bool false,.ref (zH2 t1 t2 h l1 l2).objs.size,.ref (zH3 t1 t2 h l1 l2).objs.size] }
theorem Q5j (t1 t2:Bool) (l1 l2:aA) (xs ys:Array aB) :
  Meets (Builtin.«zip.__new__» ⟨[.type "zip",.ref l1,.ref l2],[]⟩) (fun _ R s=>HasItems t1 s.heap l1 xs/\HasItems t2 s.heap l2 ys /\
   R (.ok (.ret (.ref (zH4 t1 t2 s.heap l1 l2).objs.size))) { s with heap:=zH5 t1 t2 s.heap l1 l2 }):=
 .of_wp fun prog w A R s h=>by
  obtain ⟨hp,g,d,tk,os⟩:=s; obtain ⟨hl1,hl2,h⟩:=h;have hsub:=sub_zip;have hL1:HasItems t1 (Shared.heap ⟨hp,g,d,tk,os⟩) l1 xs:=hl1;have hL2:HasItems t2 (Shared.heap ⟨hp.push (X3 t1 l1),g,d,tk,os⟩) l2 ys:=hl2.at fun o e=>O0 _ e
  wp_walk using Uj hL1,Uj hL2
  exact ⟨_,rfl,h⟩
section
variable {w:aN}
theorem Qgm {xs ys:Array aB} {Q:aB->aC->Prop} (hl1:HasItems t1 s.heap l1 xs) (hl2:HasItems t2 s.heap l2 ys)
  (h:∀ h',IsZip h' (s.heap.objs.size + 4) (s.heap.objs.size + 2) (s.heap.objs.size + 3) .none->aY h' (s.heap.objs.size + 2) (.ref s.heap.objs.size) (.ref (s.heap.objs.size + 1)) ->
   aY h' (s.heap.objs.size + 3) .none .none->IterAt t1 h' s.heap.objs.size l1 0->IterAt t2 h' (s.heap.objs.size + 1) l2 0->h'.objs.size=s.heap.objs.size + 5 ->
   (∀ c o,s.heap.get? c=some o->h'.get? c=some o)->Q (.ref (s.heap.objs.size + 4)) { s with heap:=h' }) :
  aI (aJ prog w) A (call (.type "zip") [.ref l1,.ref l2]) Q E s:=by
 refine callType_new F.called_zip (by decide) (F.typeCall_zip_2 _ _) (F.newCall_zip_2 _ _) (fun obj=>F.args_object_init_3 obj _ _) F.entry_zip_new
  (Q5j t1 t2 l1 l2 xs ys) ⟨hl1,hl2,?_⟩
 have z1:(zH1 t1 s.heap l1).objs.size=s.heap.objs.size + 1:=F9 ..;have z2:(zH2 t1 t2 s.heap l1 l2).objs.size=s.heap.objs.size + 2:=by unfold zH2; rw [F9,z1]
 have z3:(zH3 t1 t2 s.heap l1 l2).objs.size=s.heap.objs.size + 3:=by unfold zH3; rw [F9,z2]
 have z4:(zH4 t1 t2 s.heap l1 l2).objs.size=s.heap.objs.size + 4:=by unfold zH4; rw [F9,z3]
 have z5:(zH5 t1 t2 s.heap l1 l2).objs.size=s.heap.objs.size + 5:=by unfold zH5; rw [F9,z4]
 have g5:(zH5 t1 t2 s.heap l1 l2).get? (zH4 t1 t2 s.heap l1 l2).objs.size=some { cls:=.type "zip",data:=.fields #[.none,.bool false,.bool false,.ref (zH2 t1 t2 s.heap l1 l2).objs.size,.ref (zH3 t1 t2 s.heap l1 l2).objs.size] }:=D6 _ rfl;have g4:(zH5 t1 t2 s.heap l1 l2).get? (zH3 t1 t2 s.heap l1 l2).objs.size=some { cls:=.type "tuple",data:=.seq #[.none,.none] }:=O0 _ (D6 _ rfl);have g3:(zH5 t1 t2 s.heap l1 l2).get? (zH2 t1 t2 s.heap l1 l2).objs.size=some { cls:=.type "tuple",data:=.seq #[.ref s.heap.objs.size,.ref (zH1 t1 s.heap l1).objs.size] }:=O0 _ (O0 _ (D6 _ rfl));have g2:(zH5 t1 t2 s.heap l1 l2).get? (zH1 t1 s.heap l1).objs.size=some (X3 t2 l2):=O0 _ (O0 _ (O0 _ (D6 _ (ym _ _))));have g1:(zH5 t1 t2 s.heap l1 l2).get? s.heap.objs.size=some (X3 t1 l1):=O0 _ (O0 _ (O0 _ (O0 _ (D6 _ (ym _ _)))));show _/\_;rw [z2,z3,z4] at g5;rw [z1,z2] at g3;rw [z3] at g4;rw [z1] at g2;rw [z4];exact ⟨⟨_,g5,rfl⟩,h _ g5 g3 g4 (Q1c g1) (Q1c g2) z5 fun c o x=>
  O0 _ (O0 _ (O0 _ (O0 _ (O0 _ x))))⟩
end
def SqK (K:PySem.W.Frag) (t:Bool) (H:Hp) (a:aA) (xs:List V):Prop:=if t=true then SqT K H a xs else SqL K H a xs
variable {pins:List (aA × Obj)} {σ:St} {H:Hp}
theorem Inv.seqK {t:Bool} (I:Inv X pins σ H s) (h:SqK X.K t H a xs):∃ its:List aB,Vals xs its/\HasItems t s.heap a its.toArray/\xs.length<=sizeLine:=by
 cases t
 ·obtain ⟨its,r,p,z⟩:=I.list h;exact ⟨its,r,p.isList,z⟩
 ·obtain ⟨its,r,p,z⟩:=I.tuple h;exact ⟨its,r,p,z⟩
theorem Inv.seqK_inj {t:Bool} {ys:List V} (I:Inv X pins σ H s) (h:SqK X.K t H a xs) (h':SqK X.K t H a ys):xs=ys:=by
 cases t
 ·exact I.list_inj h h'
 ·exact I.tuple_inj h h'
theorem Inv.turnedL {t':Nat} {its:List aA} (I:Inv X pins σ H s) (k:∀ b o,b∉its->s.heap.get? b=some o->h'.get? b=some o) (hf:∀ b∈its,Q6f X pins H b):Inv X pins σ H { s with heap:=h',toks:=t' }:=by
 have nit:∀ b u,H b=some u->b∉its:=fun b u e z=>by rw [(hf b z).1] at e; cases e
 refine I.step (g':=s.gens) (d':=s.drawn) (ch:=its) (fun b hb=>?_) (fun b o _ _ hc e _=>k b o hc e) (fun b o _ _ hc e _=>⟨o.slots,k b o hc e⟩) (fun _ _ _ _ n=>n)
  (fun b o hc e=>⟨o,k b o hc e⟩) (fun _ _ e=>e) (fun _ _ _ e=>e) (fun b ps e=>⟨#[],by rw [e]; simp⟩) (fun m hm=>?_) (fun b u e=>?_) I.bare
 ·obtain ⟨f0,f1,f2,f3,f4,f5⟩:=hf b hb;exact ⟨f3,f1,f4,f5⟩
 ·obtain ⟨o,es,ep,ho,r⟩:=hm;exact ⟨o,es,ep,k _ o (fun z=>(hf _ z).2.1 rfl) ho,r⟩
 ·refine (I.hok b u e).stay (fun c v hc q=>k c v ?_ q) (fun _ q=>q) fun _ _ q=>q
  rcases hc with z | z
  ·rw [z]; exact nit b u e
  ·exact nit c _ z
def Itz (K:PySem.W.Frag) (t1 t2:Bool) (a b:aA):It:=
 ⟨fun i H=>∃ xs ys x y,SqK K t1 H a xs/\SqK K t2 H b ys/\xs[i]?=some x/\ys[i]?=some y,
  fun i H v H'=>∃ p x y,H p=none/\v=.ref p/\H'=upd H p (.tup [x,y])/\∀ xs ys,SqK K t1 H a xs->SqK K t2 H b ys->xs[i]?=some x/\ys[i]?=some y,
  fun i H=>∃ xs ys,SqK K t1 H a xs/\SqK K t2 H b ys/\(xs.length<=i\/ys.length<=i)⟩
def Quz (t1 t2:Bool) (z TI TO i1 i2 a b:aA) (i:Nat) (h:Heap):Prop:=
 IsZip h z TI TO .none/\aY h TI (.ref i1) (.ref i2)/\(∃ u v,aY h TO u v)/\IterAt t1 h i1 a i/\IterAt t2 h i2 b i
theorem Q7j {a:aB}:∀ v,({ cls:=.type "tuple",data:=.seq #[a,b] }:Obj).data≠.cell v:=fun v z=>by cases z
theorem Qhb {P:aP} {w:aN} {K:PySem.W.Frag} {elts:List aF} {k:Nat} {pos:Pos} {t1 t2:Bool} {TI TO b:aA} (D:ZipApart z TI TO i1 i2 a b) :
  Turn P w K (.Tuple elts k pos) (Itz K t1 t2 a b) [z,TI,TO,i1,i2] z (Quz t1 t2 z TI TO i1 i2 a b) where
 mem:=by simp
 obj:=fun i h st c hc=>by
  obtain ⟨hz,hTI,⟨u,v,hTO⟩,h1,h2⟩:=st;simp at hc;rcases hc with rfl | rfl | rfl | rfl | rfl
  ·exact ⟨_,hz,fun v q=>by cases q⟩
  ·exact ⟨_,hTI,Q7j⟩
  ·exact ⟨_,hTO,Q7j⟩
  ·exact h1.there
  ·exact h2.there
 keep:=fun i h h' st kk=>by
  obtain ⟨hz,hTI,⟨u,v,hTO⟩,h1,h2⟩:=st;exact ⟨kk z (by simp) _ hz,kk TI (by simp) _ hTI,⟨u,v,kk TO (by simp) _ hTO⟩,h1.at fun o e=>kk i1 (by simp) o e,h2.at fun o e=>kk i2 (by simp) o e⟩
 item:=by
  intro X hP hw hK hc i pins s σ H E I hf st hg;subst hP hw hK;obtain ⟨xs,ys,x,y,hq1,hq2,hx,hy⟩:=hg;obtain ⟨hz,hTI,⟨u,v,hTO⟩,h1,h2⟩:=st;obtain ⟨its,rv,p,_⟩:=I.seqK hq1;obtain ⟨its2,rv2,p2,_⟩:=I.seqK hq2;obtain ⟨ux,hux,rux⟩:=rv.get hx;obtain ⟨uy,huy,ruy⟩:=rv2.get hy;refine Q5i D hz hTI hTO h1 h2 p p2 (x:=ux) (y:=uy) (by simpa using hux) (by simpa using huy) fun h' a1 a2 a3 a4 a5 a6 a7=>⟨_,rfl,?_⟩
  refine wpAny_letOwnedTupleGo_zip (s:={ s with heap:=h' }) a1 fun h'' b1 b2=>?_
  have hfr:H s.heap.objs.size=none:=I.fresh;have zlt:z < s.heap.objs.size:=O8 hz;have TIlt:TI < s.heap.objs.size:=O8 hTI;have TOlt:TO < s.heap.objs.size:=O8 hTO;have i1lt:i1 < s.heap.objs.size:=by obtain ⟨o,e,_⟩:=h1.there; exact O8 e
  have i2lt:i2 < s.heap.objs.size:=by obtain ⟨o,e,_⟩:=h2.there; exact O8 e
  have I1:Inv X pins σ H { s with heap:=h'' }:=I.turnedL (t':=s.toks) (its:=[z,TO,i1,i2]) (fun c o hc e=>(b2.2 c (fun q=>hc (by simp [q]))).trans (a7 c o (fun q=>hc (by simp [q])) (fun q=>hc (by simp [q])) (fun q=>hc (by simp [q])) (fun q=>hc (by simp [q])) e))
   fun c hc=>hf c (by simp at hc ⊢; rcases hc with rfl | rfl | rfl | rfl <;> simp)
  have tupAt:aY h'' s.heap.objs.size ux uy:=(b2.2 _ (Nat.ne_of_gt zlt)).trans a5;have fsz:H s.heap.objs.size=none:=hfr;have I2:Inv X pins σ (upd H s.heap.objs.size (.tup [x,y])) { s with heap:=h'' }:=by
   refine ⟨I1.ok,I1.os,I1.bare,?_,I1.loc,I1.cell,?_,?_,?_,?_,I1.len⟩
   ·have u0:=I1.base;have old:∀ c o,X.s₀.heap.get? c=some o->c≠s.heap.objs.size:=fun c o e=>E6 (D1 (O8 e) I.sz)
    exact ⟨u0.keep,u0.slot,fun c o e n hx=>by rw [Q7 (old c o e)]; exact u0.free c o e n hx,u0.there,
     fun c ts e=>by have:=u0.tups c ts e; rw [Q7 (Q9 this fsz)]; exact this,
     fun c o ts e=>by have:=u0.frzs c o ts e; rw [Q7 (Q9 this fsz)]; exact this,
     fun c ps e=>by obtain ⟨more,q⟩:=u0.tbls c ps e; exact ⟨more,by rw [Q7 (Q9 q fsz)]; exact q⟩⟩
   ·rw [Q7 (E6 I.lt)]; exact I.free
   ·intro x' c e;obtain ⟨v',q⟩:=I.cell x' c e;rw [Q7 (E6 q.lt)]; exact I.freeC x' c e
   ·intro p' hp';obtain ⟨e,n,ne,nf,d⟩:=I1.pin p' hp';have e0:=(I.pin p' hp').1;exact ⟨e,by rw [Q7 (E6 (O8 e0))]; exact n,ne,nf,d⟩
   ·intro c o q
    by_cases hcs:c=s.heap.objs.size
    ·subst hcs;rw [Qz] at q; cases q;exact ⟨by simp only [D2,List.length_nil]; rw [sizeLine_eq]; decide,[ux,uy],.cons rux (.cons ruy .nil),⟨_,tupAt,rfl,0,rfl⟩⟩
    ·rw [Q7 hcs] at q;exact (I1.hok c o q).stay (fun _ _ _ r=>r) (fun c' r=>by rw [Q7 (Q9 r fsz)]; exact r) fun c' ts r=>by rw [Q7 (Q9 r fsz)]; exact r
  refine ⟨.ref s.heap.objs.size,_,I2,rfl,⟨s.heap.objs.size,x,y,fsz,rfl,rfl,fun xs' ys' q1 q2=>?_⟩,?_,fun c hc=>?_⟩
  ·rw [I.seqK_inj q1 hq1,I.seqK_inj q2 hq2]; exact ⟨hx,hy⟩
  ·exact ⟨b1,b2.extBut _ _ D.TIz (a7 _ _ D.TIz D.TITO D.TIi1 D.TIi2 hTI),⟨_,_,b2.extBut _ _ D.TOz a2⟩,a3.at fun o e=>b2.extBut _ _ D.i1z e,a4.at fun o e=>b2.extBut _ _ D.i2z e⟩
  ·have:=(hf c hc).1;have clt:c < s.heap.objs.size:=by simp at hc; rcases hc with rfl | rfl | rfl | rfl | rfl <;> assumption
   rw [Q7 (E6 clt)]; exact this
 done:=by
  intro X hP hw hK hc i pins s σ H E I hf st hg;subst hP hw hK;obtain ⟨xs,ys,hq1,hq2,hend⟩:=hg;obtain ⟨hz,hTI,⟨u,v,hTO⟩,h1,h2⟩:=st;obtain ⟨its,rv,p,_⟩:=I.seqK hq1;obtain ⟨its2,rv2,p2,_⟩:=I.seqK hq2;have l1:=rv.length;have l2:=rv2.length;refine Q71 (I.ok.hd hc) D hz hTI hTO h1 h2 p p2 (hend.elim (fun h=>.inl (by simp; omega)) fun h=>.inr (by simp; omega)) fun h' kk=>⟨rfl,?_⟩
  exact I.turnedL (t':=s.toks) (its:=[z,TO,i1,i2]) (fun c o hc e=>kk c o (fun q=>hc (by simp [q])) (fun q=>hc (by simp [q])) (fun q=>hc (by simp [q])) (fun q=>hc (by simp [q])) e)
   fun c hc=>hf c (by simp at hc ⊢; rcases hc with rfl | rfl | rfl | rfl <;> simp)
 self:=fun _ _ _ _ _ st h=>wpAny_pyIter_zip st.1 h
def Qzt (K:PySem.W.Frag) (t1 t2:Bool) (ta:TA):TI:=fun σ H R=>ta σ H fun vs H1=>∃ a b xs ys,vs=[.ref a,.ref b]/\SqK K t1 H1 a xs/\SqK K t2 H1 b ys/\R (Itz K t1 t2 a b) H1
theorem Qke:aW "zip" = some (.type "zip"):=by decide +kernel
theorem Qsg (t1 t2:Bool) {a b:aF} {p pos:Pos} {elts:List aF} {k:Nat} {tp:Pos} (hg:Gl X "zip") (hm:X.mg "zip" = none) (ha:PA X [a,b] ta) (hs:aM [a,b] X.env=[(false,aL a X.env),(false,aL b X.env)]:=by rfl) (hs2:aM [b] X.env=[(false,aL b X.env)]:=by rfl) :
  PI X (.Tuple elts k tp) (.Call (.Name "zip" p) [a,b] [] pos) (Qzt X.K t1 t2 ta):=by
 intro pins s σ H R I h;refine Call_ (Q00 I hg hm Qke (PyProof.Rows.callWith_type1 (thn (ha pos pins s σ H _ I h) fun us s1 ⟨vs,H1,I1,r1,q1⟩=>?_) (by rw [hs,hs2]) (by rw [hs2]; rfl)))
 obtain ⟨a',b',xs,ys,e,q1,q2,q⟩:=q1;subst e;cases r1 with
 | cons r rr=>
  cases rr with
  | cons r' rr=>
   cases rr;cases r;cases r';obtain ⟨its,rv,p1,_⟩:=I1.seqK q1;obtain ⟨its2,rv2,p2,_⟩:=I1.seqK q2;refine Qgm p1 p2 fun h' z1 z2 z3 z4 z5 z6 z7=>?_
   refine wpAny_pyIter_zip (s:={ s1 with heap:=h' }) z1 ?_;have lta:a' < s1.heap.objs.size:=by obtain ⟨o,e⟩:=p1.there; exact O8 e
   have ltb:b' < s1.heap.objs.size:=by obtain ⟨o,e⟩:=p2.there; exact O8 e
   have D:ZipApart (s1.heap.objs.size + 4) (s1.heap.objs.size + 2) (s1.heap.objs.size + 3) s1.heap.objs.size (s1.heap.objs.size + 1) a' b':=by
    constructor <;> (intro z; unfold aA at *; omega)
   refine ⟨_,[s1.heap.objs.size + 4,s1.heap.objs.size + 2,s1.heap.objs.size + 3,s1.heap.objs.size,s1.heap.objs.size + 1],_,_,H1,rfl,I1.kept (t':=s1.toks) z7,Qhb (t1:=t1) (t2:=t2) D,⟨z1,z2,⟨_,_,z3⟩,z4,z5⟩,fun c hc=>?_,q⟩
   have hc':s1.heap.objs.size<=c:=by simp at hc; unfold aA at *; omega
   exact I1.fpOk hc' (I1.hok.fresh hc')
theorem Q4f {prog:aP} {w:aN} (hh:A.handled=none) (t:Bool) (I ax:aA) (hne:ax≠I) (items:Array aB) :
  Walks prog w A I [I,ax] [I] items.size (fun i v=>items[i]?=some v) (fun i h=>IterAt t h I ax i/\HasItems t h ax items):=by
 cases t
 ·exact Walks.list hh I ax hne items
 ·exact Walks.tuple hh I ax hne items
theorem Q28 {α:Type} (l:List α) (d:α) {n:Nat} (h:n < l.length):l.getD n d=l[n]:=by simp [List.getD,h]
theorem Qam (ns:List Int):preSum (fun j=>ns.getD j 0) ns.length=ns.sum:=by
 have key:∀ (k:Nat),k<=ns.length->preSum (fun j=>ns.getD j 0) k=(ns.take k).sum:=by
  intro k
  induction k with
  | zero=>intro _; rfl
  | succ k ih=>
   intro hk;show preSum _ k + ns.getD k 0=_;have hlt:k < ns.length:=by omega
   rw [ih (by omega),List.take_succ,List.sum_append,Q28 _ _ hlt,O3 hlt];simp
 rw [key ns.length (O4 _),List.take_length]
theorem Inv.movedNew {s':aC} (I:Inv X pins σ H s) {o:Obj} (m:Moved [s.heap.objs.size] (fun a b=>b=a) { s with heap:=s.heap.push o } s'):Inv X pins σ H s':=by
 obtain ⟨m1,m2,m3,m4,m5⟩:=m;obtain ⟨h',g',d',t',o'⟩:=s';have e1:g'=s.gens:=m2;have e2:d'=s.drawn:=m3;have e3:o'=s.os:=m4;subst e1 e2 e3;refine I.kept (t':=t') fun b u e=>m1 b u (fun z=>?_) (O0 _ e)
 have:b=s.heap.objs.size:=by simpa using z
 exact absurd (O8 e) (by rw [this]; exact Nat.lt_irrefl _)
theorem Q01 {its:List aB} (r:Vals (ns.map V.int) its):∀ (i:Nat) (v:aB),its.toArray[i]?=some v->∃ t,v=Value.int (ns.getD i 0) t:=fun i v e=>by
 have e':its[i]?=some v:=by simpa using e
 have hi:i < its.length:=(O1.mp e').1;have hl:=r.length;rw [O2] at hl;have hn:(ns.map V.int)[i]?=some (V.int (ns.getD i 0)):=by
  have:i < ns.length:=by omega
  simp [List.getD,this]
 obtain ⟨u,hu,t,ru⟩:=r.get hn;rw [e'] at hu;cases hu;exact ⟨t,ru⟩
theorem Q8a {bs:List Bool} {its:List aB} (r:Vals (bs.map V.bl) its):∀ (i:Nat) (v:aB),its.toArray[i]?=some v->v=Value.bool (bs.getD i false):=fun i v e=>by
 have e':its[i]?=some v:=by simpa using e
 have hi:i < its.length:=(O1.mp e').1;have hl:=r.length;rw [O2] at hl;have hn:(bs.map V.bl)[i]?=some (V.bl (bs.getD i false)):=by
  have:i < bs.length:=by omega
  simp [List.getD,this]
 obtain ⟨u,hu,ru⟩:=r.get hn;rw [e'] at hu;cases hu;exact ru
theorem X2 {t:Bool} {items:Array aB} (hl:HasItems t s.heap l items):l≠s.heap.objs.size /\
  (IterAt t (s.heap.push (X3 t l)) s.heap.objs.size l 0/\HasItems t (s.heap.push (X3 t l)) l items)/\∀ b∈[s.heap.objs.size,l],b < (s.heap.push (X3 t l)).objs.size:=by
 obtain ⟨o,e⟩:=hl.there;have hlt:=O8 e;refine ⟨E6 hlt,⟨Q1c (D6 _ (ym _ _)),hl.at fun o e=>O0 _ e⟩,fun b hb=>?_⟩
 rw [F9];simp at hb;rcases hb with rfl | rfl
 ·exact Nat.lt_succ_self _
 ·exact Nat.lt_succ_of_lt hlt
theorem Qka (t:Bool) (hc:X.calm=true):K3 X (.builtin "sum") (fun xs H Q=>∃ (a:aA) (ns:List Int),xs=[.ref a]/\SqK X.K t H a (ns.map V.int)/\Q (.int ns.sum) H):=by
 intro pins s σ H xs us Q I r h;obtain ⟨a,ns,rfl,hq,q⟩:=h;obtain ⟨u,rfl,r1⟩:=x9 r;cases r1;obtain ⟨its,rv,p,_⟩:=I.seqK hq;obtain ⟨w1,w2,w3⟩:=X2 p;have hl:=rv.length;rw [O2] at hl;refine call_sum_walkAnyS (Uj p ⟨_,_,_,_,_,_,_,fun j=>ns.getD j 0,rfl,(Q4f (A:=X.A.in1) (I.ok.hd hc) t _ a w1 its.toArray).toS,w2,w3,Q01 rv,fun s' t' m=>?_⟩);refine ⟨.int ns.sum,H,I.movedNew m,⟨t',?_⟩,q⟩;rw [O5,<- hl,Qam]
theorem Qfc (bs:List Bool):(List.range bs.length).all (fun i=>bs.getD i false)=bs.all id:=by
 induction bs with
 | nil=>rfl
 | cons b r ih=>
  rw [D2,List.range_succ_eq_map,List.all_cons,List.all_map,List.all_cons,<- ih];rfl
theorem Qfb (bs:List Bool):(List.range bs.length).any (fun i=>bs.getD i false)=bs.any id:=by
 induction bs with
 | nil=>rfl
 | cons b r ih=>
  rw [D2,List.range_succ_eq_map,List.any_cons,List.any_map,List.any_cons,<- ih];rfl
theorem Qkc (t:Bool) (hc:X.calm=true):K3 X (.builtin "all") (fun xs H Q=>∃ (a:aA) (bs:List Bool),xs=[.ref a]/\SqK X.K t H a (bs.map V.bl)/\Q (.bl (bs.all id)) H):=by
 intro pins s σ H xs us Q I r h;obtain ⟨a,bs,rfl,hq,q⟩:=h;obtain ⟨u,rfl,r1⟩:=x9 r;cases r1;obtain ⟨its,rv,p,_⟩:=I.seqK hq;obtain ⟨w1,w2,w3⟩:=X2 p;have hl:=rv.length;rw [O2] at hl;refine call_all_walkS (Uj p ⟨_,_,_,_,_,_,_,fun j=>bs.getD j false,rfl,(Q4f (A:=X.A.in1) (I.ok.hd hc) t _ a w1 its.toArray).toS,w2,fun i v s' Q' E' hv hQ=>?_,fun s' m=>?_⟩)
 ·rw [Q8a rv i v hv];exact aq hQ
 ·refine ⟨.bl (bs.all id),H,I.movedNew m,?_,q⟩;show Value.bool _=_;rw [O5,<- hl,Qfc]
theorem Qkb (t:Bool) (hc:X.calm=true):K3 X (.builtin "any") (fun xs H Q=>∃ (a:aA) (bs:List Bool),xs=[.ref a]/\SqK X.K t H a (bs.map V.bl)/\Q (.bl (bs.any id)) H):=by
 intro pins s σ H xs us Q I r h;obtain ⟨a,bs,rfl,hq,q⟩:=h;obtain ⟨u,rfl,r1⟩:=x9 r;cases r1;obtain ⟨its,rv,p,_⟩:=I.seqK hq;obtain ⟨w1,w2,w3⟩:=X2 p;have hl:=rv.length;rw [O2] at hl;refine call_any_walkS (Uj p ⟨_,_,_,_,_,_,_,fun j=>bs.getD j false,rfl,(Q4f (A:=X.A.in1) (I.ok.hd hc) t _ a w1 its.toArray).toS,w2,fun i v s' Q' E' hv hQ=>?_,fun s' m=>?_⟩)
 ·rw [Q8a rv i v hv];exact aq hQ
 ·refine ⟨.bl (bs.any id),H,I.movedNew m,?_,q⟩;show Value.bool _=_;rw [O5,<- hl,Qfb]
theorem Qgr (t:Bool) (hc:X.calm=true):K3 X (.builtin "max") (fun xs H Q=>∃ (a:aA) (ns:List Int),xs=[.ref a]/\SqK X.K t H a (ns.map V.int)/\ns≠[]/\∀ m,m∈ns->(∀ k,k∈ns->k<=m)->Q (.int m) H):=by
 intro pins s σ H xs us Q I r h;obtain ⟨a,ns,rfl,hq,hne,q⟩:=h;obtain ⟨u,rfl,r1⟩:=x9 r;cases r1;obtain ⟨its,rv,p,_⟩:=I.seqK hq;obtain ⟨w1,w2,w3⟩:=X2 p;have hl:=rv.length;rw [O2] at hl;have hpos:0 < ns.length:=List.length_pos_iff.mpr hne;refine call_max_walkS (Uj p ⟨_,_,_,_,_,_,_,_,rfl,(Q4f (A:=X.A.in1) (I.ok.hd hc) t _ a w1 its.toArray).toS,w2,w3,by rw [O5]; omega,CmpOf.ints_gt (fun j=>ns.getD j 0) (fun i v hv=>Q01 rv i v hv),fun v s' hv m=>?_⟩);obtain ⟨t',rfl⟩:=Q01 rv _ _ hv;obtain ⟨h1,h2⟩:=argBest_gt (fun j=>ns.getD j 0) (its.toArray.size - 1);have hb:argBest (fun i j=>decide (ns.getD i 0 > ns.getD j 0)) (its.toArray.size - 1) < ns.length:=by
  have e':its.toArray.size=ns.length:=by rw [O5]; omega
  rw [e'] at h1 ⊢;exact Nat.lt_of_le_of_lt h1 (by omega)
 refine ⟨.int (ns.getD (argBest (fun i j=>decide (ns.getD i 0 > ns.getD j 0)) (its.toArray.size - 1)) 0),H,I.movedNew m,⟨t',rfl⟩,q _ ?_ fun k hk=>?_⟩
 ·rw [Q28 _ _ hb];exact List.getElem_mem hb
 ·obtain ⟨j,hj,rfl⟩:=List.mem_iff_getElem.mp hk;have:=h2 j (by rw [O5]; omega);rw [Q28 _ _ hj] at this;exact this
theorem Qgp (t:Bool) (hc:X.calm=true):K3 X (.builtin "min") (fun xs H Q=>∃ (a:aA) (ns:List Int),xs=[.ref a]/\SqK X.K t H a (ns.map V.int)/\ns≠[]/\∀ m,m∈ns->(∀ k,k∈ns->m<=k)->Q (.int m) H):=by
 intro pins s σ H xs us Q I r h;obtain ⟨a,ns,rfl,hq,hne,q⟩:=h;obtain ⟨u,rfl,r1⟩:=x9 r;cases r1;obtain ⟨its,rv,p,_⟩:=I.seqK hq;obtain ⟨w1,w2,w3⟩:=X2 p;have hl:=rv.length;rw [O2] at hl;have hpos:0 < ns.length:=List.length_pos_iff.mpr hne;refine call_min_walkS (Uj p ⟨_,_,_,_,_,_,_,_,rfl,(Q4f (A:=X.A.in1) (I.ok.hd hc) t _ a w1 its.toArray).toS,w2,w3,by rw [O5]; omega,CmpOf.ints_lt (fun j=>ns.getD j 0) (fun i v hv=>Q01 rv i v hv),fun v s' hv m=>?_⟩);obtain ⟨t',rfl⟩:=Q01 rv _ _ hv;obtain ⟨h1,h2⟩:=argBest_lt (fun j=>ns.getD j 0) (its.toArray.size - 1);have hb:argBest (fun i j=>decide (ns.getD i 0 < ns.getD j 0)) (its.toArray.size - 1) < ns.length:=by
  have e':its.toArray.size=ns.length:=by rw [O5]; omega
  rw [e'] at h1 ⊢;exact Nat.lt_of_le_of_lt h1 (by omega)
 refine ⟨.int (ns.getD (argBest (fun i j=>decide (ns.getD i 0 < ns.getD j 0)) (its.toArray.size - 1)) 0),H,I.movedNew m,⟨t',rfl⟩,q _ ?_ fun k hk=>?_⟩
 ·rw [Q28 _ _ hb];exact List.getElem_mem hb
 ·obtain ⟨j,hj,rfl⟩:=List.mem_iff_getElem.mp hk;have:=h2 j (by rw [O5]; omega);rw [Q28 _ _ hj] at this;exact this
theorem Qu1 {prog:aP} {w:aN} (hh:A.handled=none) (t:Bool) (it l:aA) (hne:l≠it) (items:Array aB) :
  Draws prog w A it [it,l] items.size (fun i v=>items[i]?=some v) (fun i h=>IterAt t h it l i/\HasItems t h l items) where
 live:=fun _ _ st=>let ⟨o,e,_⟩:=st.1.there; ⟨o,e⟩
 frame:=fun _ _ _ st hk=>⟨st.1.at fun o e=>hk it (by simp) o e,st.2.at fun o e=>hk l (by simp) o e⟩
 item:=fun i s Q E hi st hQ=>by
  refine qw st.1 st.2 (x:=items[i]) (by simp [hi]) fun h' hit' hs'=>?_
  exact hQ _ h' s.toks (by simp [hi]) ⟨hit',st.2.at fun o e=>hs'.extBut _ _ hne e⟩ hs'
 done:=fun s Q E st hE=>ye hh st.1 st.2 (by simp) hE
theorem Qaz (l:aA) (items:Array aB) (n:Nat) (dct:Option aA) (sl:Array (Option aB)) :
  Meets (Builtin.«enumerate.__new__» ⟨[.type "enumerate",.ref l],[]⟩) (fun _ R s=>s.heap.get? l=some { cls:=.type "tuple",dict:=dct,data:=.seq items n,slots:=sl } /\
   R (.ok (.ret (.ref (s.heap.push { cls:=.type "tuple_iterator",data:=.fields #[.ref l,.int 0 0] }).objs.size)))
    { s with heap:=(s.heap.push { cls:=.type "tuple_iterator",data:=.fields #[.ref l,.int 0 0] }).push { cls:=.type "enumerate",data:=.fields #[.none,.bool false,.ref s.heap.objs.size,aZ 0,.none,.none] } }):=
 .of_wp fun prog w A R s h=>by
  obtain ⟨hp,g,d,tk,os⟩:=s; obtain ⟨hl,h⟩:=h;have hsub:=sub_enumerate;have hL:Heap.IsTuple (Shared.heap ⟨hp,g,d,tk,os⟩) l items:=⟨_,hl,rfl,n,rfl⟩
  wp_walk using AutoSeq1.wpAny_loadPart' hl
  refine wpAny_stack_any fun st=>wpAny_pure ?_
  split
  ·rename_i c _ _ _ _ _;cases (c == Value.type "enumerate")
   ·wp_walk using AutoSeq1.wpAny_loadPart' hl,bJ hL
    exact ⟨_,rfl,h⟩
   ·wp_walk using AutoSeq1.wpAny_loadPart' hl,bJ hL
    exact ⟨_,rfl,h⟩
  ·wp_walk using AutoSeq1.wpAny_loadPart' hl,bJ hL
   exact ⟨_,rfl,h⟩
section
variable {w:aN}
theorem Qd5 {items:Array aB} {Q:aB->aC->Prop} (hL:s.heap.IsTuple l items)
  (h:∀ h',IsEnum h' (s.heap.objs.size + 1) s.heap.objs.size 0 .none->h'.IsTupleIter s.heap.objs.size l 0->h'.objs.size=s.heap.objs.size + 2 ->
   (∀ b o,s.heap.get? b=some o->h'.get? b=some o)->Q (.ref (s.heap.objs.size + 1)) { s with heap:=h' }) :
  aI (aJ prog w) A (call (.type "enumerate") [.ref l]) Q E s:=by
 obtain ⟨⟨c,dct,dt,sl⟩,hl,hc,n,hd⟩:=hL;replace hc:c=.type "tuple" := hc;replace hd:dt=.seq items n:=hd;subst hc hd;refine callType_new F.called_enumerate (by decide) (F.typeCall_enumerate_1 _) (F.newCall_enumerate_1 _) (fun obj=>F.args_object_init_2 obj _) F.entry_enumerate_new
  (Qaz l items n dct sl) ⟨hl,?_⟩
 have hz:(s.heap.push { cls:=.type "tuple_iterator",data:=.fields #[.ref l,.int 0 0] }).objs.size=s.heap.objs.size + 1:=F9 ..;show _/\_;rw [hz];have he:IsEnum ((s.heap.push { cls:=.type "tuple_iterator",data:=.fields #[.ref l,.int 0 0] }).push
   { cls:=.type "enumerate",data:=.fields #[.none,.bool false,.ref s.heap.objs.size,aZ 0,.none,.none] }) (s.heap.objs.size + 1) s.heap.objs.size 0 .none:=by
  have:=D6 (s.heap.push { cls:=.type "tuple_iterator",data:=.fields #[.ref l,.int 0 0] })
   (o:={ cls:=.type "enumerate",data:=.fields #[.none,.bool false,.ref s.heap.objs.size,aZ 0,.none,.none] }) rfl
  rw [hz] at this; exact this
 refine ⟨⟨_,he,rfl⟩,h _ he ⟨_,O0 _ (D6 _ rfl),rfl,rfl⟩ (by rw [F9,hz]) fun b o x=>O0 _ (O0 _ x)⟩
theorem Qd6 {t:Bool} {items:Array aB} {Q:aB->aC->Prop} (hL:HasItems t s.heap l items)
  (h:∀ h',IsEnum h' (s.heap.objs.size + 1) s.heap.objs.size 0 .none->IterAt t h' s.heap.objs.size l 0->h'.objs.size=s.heap.objs.size + 2 ->
   (∀ b o,s.heap.get? b=some o->h'.get? b=some o)->Q (.ref (s.heap.objs.size + 1)) { s with heap:=h' }) :
  aI (aJ prog w) A (call (.type "enumerate") [.ref l]) Q E s:=by
 cases t
 ·exact call_enumerate_list hL h
 ·exact Qd5 hL h
end
def Ite (K:PySem.W.Frag) (t:Bool) (a:aA):It:=
 ⟨fun i H=>∃ xs x,SqK K t H a xs/\xs[i]?=some x,
  fun i H v H'=>∃ p x,H p=none/\v=.ref p/\H'=upd H p (.tup [.int i,x])/\∀ xs,SqK K t H a xs->xs[i]?=some x,
  fun i H=>∃ xs,SqK K t H a xs/\xs.length<=i⟩
theorem Inv.tracks {s1:aC} {p:aA} {its:List aB} (I:Inv X pins σ H s) (I1:Inv X pins σ H s1) (hp:s.heap.objs.size<=p) (hn:H p=none) (rv:Vals xs its) (hz:xs.length<=sizeLine)
  (ht:IsTup s1.heap p its.toArray):Inv X pins σ (upd H p (.tup xs)) s1:=by
 refine ⟨I1.ok,I1.os,I1.bare,?_,I1.loc,I1.cell,?_,?_,?_,?_,I1.len⟩
 ·have u0:=I1.base;have old:∀ c o,X.s₀.heap.get? c=some o->c≠p:=fun c o e=>E6 (D1 (O8 e) (F1 I.sz hp))
  exact ⟨u0.keep,u0.slot,fun c o e n hx=>by rw [Q7 (old c o e)]; exact u0.free c o e n hx,u0.there,
   fun c ts e=>by have:=u0.tups c ts e; rw [Q7 (Q9 this hn)]; exact this,
   fun c o ts e=>by have:=u0.frzs c o ts e; rw [Q7 (Q9 this hn)]; exact this,
   fun c ps e=>by obtain ⟨more,q⟩:=u0.tbls c ps e; exact ⟨more,by rw [Q7 (Q9 q hn)]; exact q⟩⟩
 ·rw [Q7 (E6 (D1 I.lt hp))]; exact I.free
 ·intro x' c e;obtain ⟨v',q⟩:=I.cell x' c e;rw [Q7 (E6 (D1 q.lt hp))]; exact I.freeC x' c e
 ·intro p' hp';obtain ⟨e,n,ne,nf,d⟩:=I1.pin p' hp';have e0:=(I.pin p' hp').1;exact ⟨e,by rw [Q7 (E6 (D1 (O8 e0) hp))]; exact n,ne,nf,d⟩
 ·intro c o q
  by_cases hcs:c=p
  ·subst hcs;rw [Qz] at q; cases q;exact ⟨hz,its,rv,ht⟩
  ·rw [Q7 hcs] at q;exact (I1.hok c o q).stay (fun _ _ _ r=>r) (fun c' r=>by rw [Q7 (Q9 r hn)]; exact r) fun c' ts r=>by rw [Q7 (Q9 r hn)]; exact r
def Qu0 (t:Bool) (e it a:aA) (i:Nat) (h:Heap):Prop:=(∃ old,IsEnum h e it i old)/\IterAt t h it a i
theorem Qex {P:aP} {w:aN} {K:PySem.W.Frag} {elts:List aF} {k:Nat} {pos:Pos} {t:Bool} {e:aA} (hei:e≠it) (hae:a≠e) (hai:a≠it) :
  Turn P w K (.Tuple elts k pos) (Ite K t a) [e,it] e (Qu0 t e it a) where
 mem:=by simp
 obj:=fun i h st c hc=>by
  obtain ⟨⟨old,he⟩,h1⟩:=st;simp at hc;rcases hc with rfl | rfl
  ·exact ⟨_,he,fun v q=>by cases q⟩
  ·exact h1.there
 keep:=fun i h h' st kk=>by
  obtain ⟨⟨old,he⟩,h1⟩:=st;exact ⟨⟨old,kk e (by simp) _ he⟩,h1.at fun o q=>kk it (by simp) o q⟩
 item:=by
  intro X hP hw hK hc i pins s σ H E I hf st hg;subst hP hw hK;obtain ⟨xs,x,hq1,hx⟩:=hg;obtain ⟨⟨old,he⟩,h1⟩:=st;obtain ⟨its,rv,p,_⟩:=I.seqK hq1;obtain ⟨ux,hux,rux⟩:=rv.get hx;have hlt:i < its.toArray.size:=by rw [O5]; exact (O1.mp hux).1
  refine wpAny_pyNext_enum_itemD (Qu1 (A:=X.A.in1) (I.ok.hd hc) t it a hai its.toArray) he ⟨h1,p⟩ hlt hei (by simp; exact ⟨hei,fun z=>hae z.symm⟩) fun x' h' tk hx' ho hs' hT hsz hk=>⟨_,rfl,?_⟩
  have:x'=ux:=by
   have e1:its[i]?=some x':=by simpa using hx'
   rw [hux] at e1; exact (Option.some.inj e1).symm
  subst this;refine wpAny_letOwnedTupleGo_enum (s:={ s with heap:=h',toks:=tk + 1 }) ho fun h'' he' hs''=>?_
  have elt:e < s.heap.objs.size:=O8 he;have ilt:it < s.heap.objs.size:=by obtain ⟨o,q,_⟩:=h1.there; exact O8 q
  have hfr:H s.heap.objs.size=none:=I.fresh;have I1:Inv X pins σ H { s with heap:=h'',toks:=tk + 1 }:=I.turnedL (its:=[e,it]) (fun c o hc' q=>(hs''.2 c (fun z=>hc' (by simp [z]))).trans (hk c o (fun z=>hc' (by simp [z])) (fun z=>hc' (by simp [z])) q)) fun c hc'=>hf c hc'
  have tupAt:h''.get? s.heap.objs.size=some { cls:=.type "tuple",data:=.seq #[.int i tk,x'] }:=(hs''.2 _ (Nat.ne_of_gt elt)).trans hT;have I2:=I.tracks (xs:=[.int i,x]) (its:=[.int i tk,x']) I1 (O4 _) hfr (.cons ⟨tk,rfl⟩ (.cons rux .nil)) (by simp only [D2,List.length_nil]; rw [sizeLine_eq]; decide) ⟨_,tupAt,rfl,0,rfl⟩;refine ⟨.ref s.heap.objs.size,_,I2,rfl,⟨s.heap.objs.size,x,hfr,rfl,rfl,fun xs' q1=>?_⟩,?_,fun c hc'=>?_⟩
  ·rw [I.seqK_inj q1 hq1]; exact hx
  ·exact ⟨⟨x',by simpa using he'⟩,hs'.1.at fun o q=>hs''.extBut _ _ (Ne.symm hei) q⟩
  ·have:=(hf c hc').1;have clt:c < s.heap.objs.size:=by simp at hc'; rcases hc' with rfl | rfl <;> assumption
   rw [Q7 (E6 clt)]; exact this
 done:=by
  intro X hP hw hK hc i pins s σ H E I hf st hg;subst hP hw hK;obtain ⟨xs,hq1,hend⟩:=hg;obtain ⟨⟨old,he⟩,h1⟩:=st;obtain ⟨its,rv,p,_⟩:=I.seqK hq1;have hl:=rv.length;have hT:s.TypeIs (.ref e) "enumerate" := ⟨_,he,rfl⟩;unfold az;refine aD (wpAny_attempt (wpAny_callSpecial?_slot (name:=Str.ofString "__next__") hT F.slot_enumerate_next
   (ay F.slot_enumerate_next hT F.entry_enumerate_next ?_ (F.args_enumerate_next_1 _))))
  show aI _ _ (field (.ref e) 2 >>= _) _ _ _;refine aD (aX he rfl (x:=.ref it) rfl ?_);refine aD (ye (I.ok.hd hc) h1 p (by simp; omega) fun h' x he' hx'=>?_)
  obtain ⟨o,ho,hc'⟩:=hx';refine aD (bL (T := "StopIteration") (b:=true) ⟨o,ho,hc'⟩ isSubtype_stop ?_);exact wpAny_pure ⟨rfl,I.turnedL (t':=s.toks) (its:=[it]) (fun c o hc2 q=>he' c o (fun z=>hc2 (by simp [z])) q) fun c hc2=>hf c (by simp at hc2; simp [hc2])⟩
 self:=fun _ _ _ _ _ st h=>by
  obtain ⟨⟨old,he⟩,_⟩:=st;exact wpAny_pyIter_enum he h
def Qx2 (K:PySem.W.Frag) (t:Bool) (ta:TA):TI:=fun σ H R=>ta σ H fun vs H1=>∃ a xs,vs=[.ref a]/\SqK K t H1 a xs/\R (Ite K t a) H1
theorem Q6b:aW "enumerate" = some (.type "enumerate"):=by decide +kernel
theorem Qn5 (t:Bool) {a:aF} {p pos:Pos} {elts:List aF} {k:Nat} {tp:Pos} (hg:Gl X "enumerate") (hm:X.mg "enumerate" = none) (ha:PA X [a] ta) (hs:aM [a] X.env=[(false,aL a X.env)]:=by rfl) :
  PI X (.Tuple elts k tp) (.Call (.Name "enumerate" p) [a] [] pos) (Qx2 X.K t ta):=by
 intro pins s σ H R I h;refine Call_ (Q00 I hg hm Q6b (PyProof.Rows.callWith_type1 (thn (ha pos pins s σ H _ I h) fun us s1 ⟨vs,H1,I1,r1,q1⟩=>?_) hs rfl))
 obtain ⟨a',xs,e,q1,q⟩:=q1;subst e;obtain ⟨u,rfl,r⟩:=x9 r1;cases r;obtain ⟨its,rv,p1,_⟩:=I1.seqK q1;refine Qd6 p1 fun h' z1 z2 z3 z4=>?_
 refine wpAny_pyIter_enum (s:={ s1 with heap:=h' }) z1 ?_;have lta:a' < s1.heap.objs.size:=by obtain ⟨o,e⟩:=p1.there; exact O8 e
 refine ⟨_,[s1.heap.objs.size + 1,s1.heap.objs.size],_,_,H1,rfl,I1.kept (t':=s1.toks) z4,Qex (t:=t) (Nat.ne_of_gt (Nat.lt_succ_self _)) (E6 (Nat.lt_succ_of_lt lta)) (E6 lta),⟨⟨_,z1⟩,z2⟩,fun c hc=>?_,q⟩
 have hc':s1.heap.objs.size<=c:=by simp at hc; unfold aA at *; omega
 exact I1.fpOk hc' (I1.hok.fresh hc')
theorem Qac {o:HO} (h:H a=none):Same H (upd H a o):=fun b u e=>by rw [Q7 (Q9 e h)]; exact e
variable {te:TE} {H1:Hp} {Q:VK}
section
variable {cap:List (Option Nat)}
abbrev g2 (K:PySem.W.Frag):TG:=Qxa K 2 (Qjw (Q81 0) (Qjw (Q81 1) Qxb))
end
def Qxk:V->Option aB
 | .ty n=>some (.type n)
 | .ref a=>some (.ref a)
 | _=>none
theorem Qk8 {c:V} {cv u:aB} (e:Qxk c=some cv) (r:RelV c u):u=cv:=by
 cases c with
 | ty n=>cases e; exact r
 | ref a=>cases e; exact r
 | _=>cases e
theorem Qbk:K3 X (.builtin "isinstance") (fun xs H Q=>∃ x c cv t b,xs=[x,c]/\Qxk c=some cv/\TyOf X.K H x t/\PySem.W.kitOne X.K t cv=some b/\Q (.bl b) H):=by
 intro pins s σ H xs us Q I r h;obtain ⟨x,c,cv,t,b,rfl,hc,ty,e,q⟩:=h;obtain ⟨u,w',rfl,r1,r2⟩:=Qh8 r;rw [Qk8 hc r2];exact Qg4 I r1 ty e fun tk=>⟨.bl b,H,I.tok tk,rfl,q⟩
theorem Q3u:aW "isinstance" = some (.builtin "isinstance"):=by decide +kernel
theorem Qkf:aW "sum" = some (.builtin "sum"):=by decide +kernel
theorem Qkn:aW "all" = some (.builtin "all"):=by decide +kernel
theorem Qkm:aW "any" = some (.builtin "any"):=by decide +kernel
theorem Qkj:aW "max" = some (.builtin "max"):=by decide +kernel
theorem Qki:aW "min" = some (.builtin "min"):=by decide +kernel
theorem Qd8:aW "tuple" = some (.type "tuple"):=by decide +kernel
theorem Qkk:aW "int" = some (.type "int"):=by decide +kernel
theorem Qgy:aW "bool" = some (.type "bool"):=by decide +kernel
theorem Qkg:aW "str" = some (.type "str"):=by decide +kernel
def Tab (H:Hp) (a:aA) (tb:List (List Int)):Prop:=∃ rs:List aA,H a=some (.tup (rs.map V.ref))/\bE (fun r row=>H r=some (.tup (List.map V.int row))) rs tb
def Sz (n:Nat) (tb:List (List Int)):Prop:=tb.length=n/\∀ row∈tb,row.length=n + 1
end L2
namespace L2
open PySem PySem.Spec PyProof.Rows PySem.W PySem.Builtin.Getset_descriptor
variable {M:Model}
structure XCls (K:Frag) (C:aA):Prop where
 cls:(clsIn K C).isSome=true
 ga:findIn K (.ref C) "__getattribute__" = some (some (.builtin "BaseException.__getattribute__"))
 gt:findIn K (.ref C) "__getattr__" = some none
 cl:findIn K (.ref C) "__class__" = some (some (.builtin "object.__class__"))
 gs:specialIn K (.builtin "object.__class__") "__get__" = some (some (.builtin "getset_descriptor.__get__"))
 tk:takesIn K (.builtin "object.__class__")=some true
 ob:mroIn K C (.type "object")=some true
 be:mroIn K C (.type "BaseException")=some true
def IsX (x C:aA) (h:Heap):Prop:=∃ ox,h.get? x=some ox/\ox.cls=.ref C
theorem IsX.type {h:Heap} {x C:aA} (I:IsX x C h):Looks M h (typeOf (.ref x)) (.ref C):=by
 obtain ⟨ox,h1,h2⟩:=I;exact h2 ▸ (Looks.ld h1).andThen .now
variable {prog:aP} {A:aQ} {E:aB->aC->Prop} {g:Array GenState} {os:OsState} {K:Frag} {C:aA}
section
variable {w:aN} {h:Heap} {d:Drawn} {t:Nat} {x:aA}
theorem Qh7 {nameV:aB} {Q:Unit->aC->Prop} (X:K.In h) (F:XCls K C) (I:IsX x C h) (hq:Q () ⟨h,g,d,t,os⟩):aI M A (checkBuiltinCall "BaseException.__getattribute__" ⟨[.ref x,nameV],[]⟩) Q E ⟨h,g,d,t,os⟩:=by
 have hk:builtinKind "BaseException.__getattribute__" = some .slot:=by decide +kernel
 have hsplit:splitId "BaseException.__getattribute__" = some ("BaseException", "__getattribute__"):=by decide +kernel
 have LI:Looks M h (isInstance (.ref x) (.type "BaseException")) true:=(I.type).andThen (looks_mroIn X F.be);have ha:=PySem.F.args_bexc_ga (.ref x) nameV;simp only [checkBuiltinCall,hk,hsplit];refine aD (LI.at ?_);simp only [Bool.not_true,Bool.false_eq_true,if_false];exact wpAny_of_eq ha hq
end
end L2
namespace L2
open PySem PySem.Spec PyProof.Rows
variable {P:aP} {H:Hp} {a:aA} {cl:List (Str × aA)}
theorem ObjOk.there {w:aN} {h:Heap} {o:HO} (x:ObjOk P w H h a o):∃ u,h.get? a=some u:=by
 cases o with
 | lst xs=>obtain ⟨_,_,_,_,e⟩:=x; exact ⟨_,e⟩
 | tup xs=>obtain ⟨_,_,_,o,e,_⟩:=x; exact ⟨o,e⟩
 | dK kvs=>obtain ⟨_,_,_,_,o,_,_,e,_⟩:=x; exact ⟨o,e⟩
 | dT kvs=>obtain ⟨_,_,_,_,o,_,_,e,_⟩:=x; exact ⟨o,e⟩
 | set S n=>obtain ⟨o,_,_,_,e,_⟩:=x; exact ⟨o,e⟩
 | ins C dx fs=>obtain ⟨_,_,_,e,_⟩:=x; exact ⟨_,e⟩
 | own y=>exact x
 | xd fs=>obtain ⟨_,⟨o,_,_,e,_⟩,_⟩:=x; exact ⟨o,e⟩
 | rng lo hi=>obtain ⟨_,_,_,e⟩:=x; exact ⟨_,e⟩
 | frz ob u=>obtain ⟨e,_⟩:=x; exact ⟨_,e⟩
 | tbl ps=>exact ⟨_,x⟩
 | met f y=>exact ⟨_,x⟩
 | ext φ=>exact x.2.1
theorem HOk.none_of {w:aN} {h:Heap} (x:HOk P w H h) (e:h.get? a=none):H a=none:=by
 cases q:H a with
 | none=>rfl
 | some o=>
  obtain ⟨u,z⟩:=(x a o q).there;rw [e] at z;cases z
structure Fly (P:aP) (w:aN) (outer:List Env) (H H':Hp) (s s':aC) (a:aA) (cls a0:aB) (B:Heap):Prop where
 os:s'.os=s.os
 bare:AllBare s'.gens
 fl:Heap.FlyingW B outer a cls a0 s'.heap
 hokB:HOk P w H' B
 keep:∀ b o,s.heap.get? b=some o->H b=none->b∉frs outer->B.get? b=some o
 there:∀ b o,s.heap.get? b=some o->b∉frs outer->∃ o',B.get? b=some o'
 slot:∀ b o,s.heap.get? b=some o->b∈frs outer->∃ sl,s'.heap.get? b=some { o with slots:=sl }
 free:∀ b o,s.heap.get? b=some o->H b=none->H' b=none
 tups:∀ b xs,H b=some (.tup xs)->H' b=some (.tup xs)
 frzs:∀ b o u,H b=some (.frz o u)->H' b=some (.frz o u)
 tbls:∀ b ps,H b=some (.tbl ps)->∃ more,H' b=some (.tbl (ps ++ more))
@[inline,reducible]def Vr:List aB:=[.type "ValueError",.type "Exception",.type "BaseException",.type "object"]
theorem Qdr {K:PySem.W.Frag} {h:Heap} {C:aA} {bmB:List aB} {newId:String} {x:Str} {mg:Str->Option aB} (X:K.In h) (m:mg x=some (.ref C)) (q:PySem.W.excIn K C bmB newId=true):OwnCls x C bmB newId mg h:=by
 refine ⟨m,?_⟩;unfold PySem.W.excIn at q
 split at q
 ·rename_i dd cd sl ho
  split at q
  ·rename_i C' bm k0 k1 k2 k3 n k5 hm hs;simp only [F6,beq_iff_eq,Bool.not_eq_true'] at q;obtain ⟨⟨⟨⟨⟨rfl,rfl⟩,hdel⟩,ht⟩,hok⟩,hni⟩:=q;obtain ⟨nm,bs,mro,ns,qn,hd,sn,sub,ab,col,del⟩:=cd;dsimp only at hm hdel hok hni;subst hm hdel;have hsl:sl=#[k0,k1,k2,k3,some (.builtin n),k5]:=by
    obtain ⟨l⟩:=sl;simp only at hs;rw [hs]
   subst hsl;exact ⟨bm,ns,nm,qn,bs,hd,sn,sub,ab,col,dd,k0,k1,k2,k3,k5,_,X _ _ ho,.of_isNs (PySem.W.isNs_of_in X hok),PySem.W.nsMap_none_of_in X hok hni,PySem.W.tail_of_in X ht⟩
  ·cases q
 ·cases q
variable {X:Cx}
def Qr7 (C:aA) (E:XK) (t:TA):TS:=fun _ σ H=>t σ H fun vs H1=>vs.length<=sizeLine/\E (.ref C) none H1
def Us (X:Cx) (a:aA):Cx:={ X with A:=X.A.mark (some (.ref a)),calm:=false,xe:=fun _ _=>False }
variable {pins:List (aA × Obj)} {σ:St} {H H':Hp} {s s':aC} {a C:aA}
theorem Inv.suite (I:Inv X pins σ H s) (a:aA):Inv (Us X a) pins σ H s:=
 ⟨⟨I.ok.mod,I.ok.kind,I.ok.glob,I.ok.blt,I.ok.above,I.ok.inj,I.ok.has,I.ok.cab,fun h=>(by cases h),I.ok.frames,I.ok.stk,I.ok.exf,I.ok.bs,I.ok.bsz,I.ok.noex,I.ok.exfs,I.ok.funs,I.ok.frf⟩,I.os,I.bare,I.base,I.loc,I.cell,I.free,I.freeC,I.pin,I.hok,I.len⟩
theorem Inv.unsuite (ok:X.Ok) (I:Inv (Us X a) pins σ H s):Inv X pins σ H s:=⟨ok,I.os,I.bare,I.base,I.loc,I.cell,I.free,I.freeC,I.pin,I.hok,I.len⟩
theorem Fly.inv {cls a0:aB} {B h5:Heap} (I:Inv X pins σ H s) (F:Fly X.prog X.w X.stack H H' s s' a cls a0 B) (kB:B.StaysIn h5) (sm:s'.heap.UpToSlots h5):Inv X pins σ H' { s' with heap:=h5 }:=by
 have sl:∀ b o,s.heap.get? b=some o->b∈frs X.stack->∃ sl,h5.get? b=some { o with slots:=sl }:=fun b o q hb=>by
  obtain ⟨sl,z⟩:=F.slot b o q hb;obtain ⟨_,o',ho',hnf⟩:=I.stack.mem hb;rw [q] at ho';cases ho';obtain ⟨sl',z'⟩:=sm b _ z hnf;exact ⟨sl',z'⟩
 refine I.call' (s':={ s' with heap:=h5 }) (ch:=[]) F.os ⟨fun b o q n hb _=>kB _ _ (F.keep b o q n hb),fun b o q n hb _=>sl b o q hb,fun b o q n _=>F.free b o q n,fun b o q _=>?_,F.tups,F.frzs,F.tbls⟩ (F.hokB.kept kB) F.bare fun b z=>absurd z (by simp)
 by_cases hb:b∈frs X.stack
 ·obtain ⟨sl,z⟩:=sl b o q hb;exact ⟨_,z⟩
 ·obtain ⟨o',z⟩:=F.there b o q hb;exact ⟨o',kB _ _ z⟩
theorem Fly.new {cls a0:aB} {B:Heap} (F:Fly X.prog X.w X.stack H H' s s' a cls a0 B):s.heap.get? a=none/\H' a=none:=by
 have hB:B.get? a=none:=F.fl.2.1;refine ⟨?_,F.hokB.none_of hB⟩;cases q:s.heap.get? a with
 | none=>rfl
 | some o=>
  by_cases hb:a∈frs X.stack
  ·obtain ⟨_,o',ho',hnf⟩:=F.fl.2.2.1.mem hb;obtain ⟨oe,vs,he,_,hd,_⟩:=F.fl.first;rw [ho'] at he;cases he;exact absurd hd (hnf vs)
  ·obtain ⟨o',z⟩:=F.there a o q hb;rw [hB] at z;cases z
theorem Inv.track {s1:aC} {φ:Heap->Prop} (I0:Inv X pins σ H s) (hex:∀ b,b∉X.ex) (h0:s.heap.get? a=none) (I:Inv X pins σ H' s1) (hn:H' a=none) (o:ObjOk X.prog X.w (upd H' a (.ext φ)) s1.heap a (.ext φ)):Inv X pins σ (upd H' a (.ext φ)) s1:=by
 have ne0:∀ b u,s.heap.get? b=some u->b≠a:=fun b u e z=>by rw [z,h0] at e; cases e
 have nes:∀ b u,X.s₀.heap.get? b=some u->b≠a:=fun b u e=>by
  obtain ⟨u',e'⟩:=I0.base.there b u e (hex b);exact ne0 b u' e'
 refine ⟨I.ok,I.os,I.bare,?_,I.loc,I.cell,?_,?_,?_,?_,I.len⟩
 ·have u0:=I.base;exact ⟨u0.keep,u0.slot,fun c o e n hx=>by rw [Q7 (nes c o e)]; exact u0.free c o e n hx,u0.there,
   fun c ts e=>by have:=u0.tups c ts e; rw [Q7 (Q9 this hn)]; exact this,
   fun c o ts e=>by have:=u0.frzs c o ts e; rw [Q7 (Q9 this hn)]; exact this,
   fun c ps e=>by obtain ⟨more,q⟩:=u0.tbls c ps e; exact ⟨more,by rw [Q7 (Q9 q hn)]; exact q⟩⟩
 ·obtain ⟨m,⟨o,_,_,e,_⟩,_⟩:=I0.loc;rw [Q7 (ne0 _ _ e)]; exact I.free
 ·intro x c e;obtain ⟨v,o,z,_⟩:=I0.cell x c e;rw [Q7 (ne0 _ _ z)]; exact I.freeC x c e
 ·intro p hp;obtain ⟨e,n,ne,nf,d⟩:=I.pin p hp;exact ⟨e,by rw [Q7 (ne0 _ _ (I0.pin p hp).1)]; exact n,ne,nf,d⟩
 ·intro c u q
  by_cases hc:c=a
  ·subst hc;rw [Qz] at q; cases q;exact o
  ·rw [Q7 hc] at q;exact (I.hok c u q).stay (fun _ _ _ r=>r) (fun c' r=>by rw [Q7 (Q9 r hn)]; exact r) fun c' ts r=>by rw [Q7 (Q9 r hn)]; exact r
theorem Inv.forget {i:Nat} {n:Str} {m:Str->Option aB} {h':Heap} {v:Option aB} {tk:Nat} (I:Inv X pins σ H s) (hN:X.N.Nodup) (hi:X.N[i]?=some n) (hl:∀ (i:Nat) (x:Str) (v:V),X.N[i]?=some x->σ[i]?=some (some v)->Vis X.env.scope x->∃ u,RelV v u/\Qxw X.env s.heap m x u)
  (hn':h'.Ns X.env.locals (fun x=>if x=n then v else m x)) (hs:Heap.SameBut X.env.locals s.heap h'):Inv X pins (σ.set i none) H { s with heap:=h',toks:=tk }:=by
 have cne:=I.cne;have tracked:HOk X.prog X.w H h':=I.hok.same I.free hs;have neL:∀ b o,X.s₀.heap.get? b=some o->b≠X.env.locals:=fun b o e=>E6 (D1 (O8 e) I.ok.above)
 refine ⟨I.ok,I.os,I.bare,⟨fun b o e n hb hx=>(hs.2 b (neL b o e)).trans (I.base.keep b o e n hb hx),fun b o e n hb hx=>?_,I.base.free,fun b o e hx=>?_,I.base.tups,I.base.frzs,I.base.tbls⟩,⟨_,hn',fun j y v' e1 e2 e3=>?_⟩,fun y c e=>?_,I.free,I.freeC,fun p hp=>?_,tracked,by simpa using I.len⟩
 ·obtain ⟨sl,z⟩:=I.base.slot b o e n hb hx;exact ⟨sl,(hs.2 b (neL b o e)).trans z⟩
 ·obtain ⟨o',z⟩:=I.base.there b o e hx;exact ⟨o',(hs.2 b (neL b o e)).trans z⟩
 ·by_cases hj:j=i
  ·subst hj;rw [hi] at e1; cases e1;have:j < σ.length:=by have:=(O1.mp e2).1; simpa using this
   rw [D7 this] at e2;cases e2
  ·rw [D5 (Ne.symm hj)] at e2;obtain ⟨u,r,q⟩:=hl j y v' e1 e2 e3;refine ⟨u,r,?_⟩;rcases q with ⟨k,e⟩ | ⟨k,c,e,z⟩
   ·refine .inl ⟨k,?_⟩;have:y≠n:=fun e=>hj (Q5h hN e1 (e ▸ hi))
    simp [this,e]
   ·exact .inr ⟨k,c,e,z.sameBut hs (cne y c e)⟩
 ·obtain ⟨w',z⟩:=I.cell y c e;exact ⟨w',z.sameBut hs (cne y c e)⟩
 ·obtain ⟨e,n,ne,nf,d⟩:=I.pin p hp;exact ⟨(hs.2 p.1 ne).trans e,n,ne,nf,d⟩
theorem Q4i (l:aA) (items:Array aB) (n:Nat) (dd:Option aA) (sl:Array (Option aB)) (t:Tok) :
  Meets (Builtin.«tuple.__mul__» ⟨[.ref l,.int 1 t],[]⟩) (fun _ R s=>s.heap.get? l=some { cls:=.type "tuple",dict:=dd,data:=.seq items n,slots:=sl }/\R (.ok (.ret (.ref l))) s):=
 .of_wp fun prog w A R s h=>by
  obtain ⟨hp,g,d,tk,os⟩:=s; obtain ⟨hl,h⟩:=h
  wp_walk using wpAny_loadPart' hl
  exact ⟨_,rfl,h⟩
theorem Q4j (l:aA) (items:Array aB) (n:Nat) (dd:Option aA) (sl:Array (Option aB)) (x:Int) (t:Tok) (h1:¬ (decide (x < -(2 ^ 63)) || decide (x>=2 ^ 63))=true) (h2:¬ (items.isEmpty || x == 1)=true) (h3:¬ (decide (x<=0) || items.isEmpty)=true) (h4:¬ (items.size:Int) * x > (2 ^ 63 - 1) / 8) (h5:¬ Builtin.Tuple.tupleTooMany ((items.size:Int) * x)=true)
  (h6:((List.replicate x.toNat items).foldl (fun x1 x2=>x1 ++ x2) #[]).size<=sizeLine) :
  Meets (Builtin.«tuple.__mul__» ⟨[.ref l,.int x t],[]⟩) (fun _ R s=>s.heap.get? l=some { cls:=.type "tuple",dict:=dd,data:=.seq items n,slots:=sl } /\
   R (.ok (.ret (Value.ref s.heap.objs.size))) { s with heap:=s.heap.push { cls:=Value.type "tuple",data:=Data.seq ((List.replicate x.toNat items).foldl (fun x1 x2=>x1 ++ x2) #[]) } }):=
 .of_wp fun prog w A R s h=>by
  obtain ⟨hp,g,d,tk,os⟩:=s; obtain ⟨hl,h⟩:=h
  wp_walk using wpAny_loadPart' hl
  refine wpAny_ite_false (bO h1) ?_
  wp_walk using wpAny_loadPart' hl
  refine wpAny_ite_false (bO h4) ?_
  wp_walk using wpAny_loadPart' hl
  all_goals first | exact ⟨_,rfl,h⟩ | (refine wpAny_ite_false (bO h5) ?_; wp_walk) | skip
  all_goals first | exact ⟨_,rfl,h⟩ | (refine wpAny_ite_false (bO (Nat.not_lt.mpr h6)) ?_; wp_walk; exact ⟨_,rfl,h⟩)
theorem Q64 (a:Int) (t:Tok) (l:aA) (items:Array aB) (n:Nat) (dd:Option aA) (sl:Array (Option aB)) :
  Meets (Builtin.«int.__rmul__» ⟨[.int a t,.ref l],[]⟩) (fun _ R s=>s.heap.get? l=some { cls:=.type "tuple",dict:=dd,data:=.seq items n,slots:=sl }/\R (.ok (.ret Value.notImplemented)) s):=
 .of_wp fun prog w A R s h=>by obtain ⟨hp,g,d,tk,os⟩:=s; obtain ⟨hl,h⟩:=h; wp_walk using wpAny_loadPart' hl; exact ⟨_,rfl,h⟩
theorem Q2y:fillsNumberSlot (.type "tuple") "mul" = pure false:=
 PySem.fillsNumberSlot_seq (id := "tuple.__mul__") (r:=some (.builtin "tuple.__rmul__")) F.slot_tuple_mul.lookup (by decide +kernel) F.slot_tuple_rmul.lookup (by decide +kernel)
theorem Q8x:seqRepeat? (.type "tuple")=pure (some (.builtin "tuple.__mul__")):=by
 unfold seqRepeat?;rw [PySem.seqSlot_of (T := "tuple") (name := "__mul__") (id := "tuple.__mul__") F.slot_tuple_mul.lookup (by decide +kernel),PySem.seqSlot_of (T := "tuple") (name := "__rmul__") (id := "tuple.__rmul__") F.slot_tuple_rmul.lookup (by decide +kernel)];rfl
def Qvp (K:PySem.W.Frag):R2:=fun x y H Q=>∃ a k xs,x=.ref a/\y=.int k/\SqT K H a xs/\xs≠[]/\1<=k/\xs.length * k.toNat<=4096 /\
 (k=1->Q (.ref a) H)/\(k≠1->∀ p,H p=none->Q (.ref p) (upd H p (.tup (List.replicate k.toNat xs).flatten)))
theorem Qnp:OpR X (aa .Mult) (Qvp X.K):=by
 intro pins s σ H x y v u Q I rx ry h;obtain ⟨a,k,xs,rfl,rfl,ha,hne,hk,hz,q1,q2⟩:=h;cases rx;obtain ⟨t,rfl⟩:=ry;obtain ⟨its,r,p1,hs⟩:=I.tuple ha;obtain ⟨⟨cls,dd,data,sl⟩,ho,hc,n,hd⟩:=id p1;simp only at hc hd;subst hc hd;have hl:its.length=xs.length:=r.length.symm;have hpos:0 < its.length:=by rw [hl]; exact List.length_pos_iff.mpr hne
 have hkz:k.toNat<=4096:=by
  have:1 * k.toNat<=xs.length * k.toNat:=Nat.mul_le_mul_right _ (by omega);omega
 refine wpAny_binaryOp_repeat_ref (T := "tuple") (U := "int") (by decide) ⟨_,ho,rfl⟩ (fun s'=>typeIs_int s' k t) Q2y F.fills_int_mul F.slot_int_rmul Q8x F.slot_int_index.lookup
  (bA F.slot_int_rmul (typeIs_int s k t) F.entry_int_rmul (F.args_int_rmul_2 _ _) (Q64 k t a its.toArray n dd sl)
   ⟨ho,rfl,⟨_,ho,rfl⟩,?_⟩)
 by_cases h1:k=1
 ·subst h1;exact bA F.slot_tuple_mul ⟨_,ho,rfl⟩ F.entry_tuple_mul (F.args_tuple_mul_2 _ _) (Q4i a its.toArray n dd sl t) ⟨ho,⟨.ref a,H,I,rfl,q1 rfl⟩⟩
 ·have f0:List.foldl (fun x1 x2=>x1 ++ x2) #[] (List.replicate k.toNat its.toArray)=(List.replicate k.toNat its).flatten.toArray:=by
   have:=Q36 its k.toNat [];rw [List.nil_append] at this;exact this
  have hlen:(its.toArray.size:Int) * k=((its.length * k.toNat:Nat):Int):=by
   rw [O5,Int.natCast_mul,Int.toNat_of_nonneg (by omega)]
  have hfl:(List.replicate k.toNat its).flatten.length<=4096:=by rw [Q9d,hl,Nat.mul_comm]; exact hz
  have hb:its.length * k.toNat<=4096:=by rw [hl]; exact hz
  refine bA F.slot_tuple_mul ⟨_,ho,rfl⟩ F.entry_tuple_mul (F.args_tuple_mul_2 _ _) (Q4j a its.toArray n dd sl k t ?_ ?_ ?_ ?_ ?_ ?_) ⟨ho,?_⟩
  ·rw [bO (by omega),bO (by omega)]; exact D8
  ·intro z;rcases Bool.or_eq_true_iff.mp z with z | z
   ·rw [List.isEmpty_toArray,List.isEmpty_iff] at z; rw [z] at hpos; simp at hpos
   ·exact h1 (eq_of_beq z)
  ·intro z;rcases Bool.or_eq_true_iff.mp z with z | z
   ·have:=of_decide_eq_true z; omega
   ·rw [List.isEmpty_toArray,List.isEmpty_iff] at z; rw [z] at hpos; simp at hpos
  ·rw [hlen]; omega
  ·rw [hlen];have:(4096:Int)<=sizeLine:=by decide
   show ¬ decide (((its.length * k.toNat:Nat):Int) > (sizeLine:Int))=true;rw [bO (by omega)]; exact D8
  ·rw [f0,O5]; exact F1 hfl (by decide)
  ·rw [f0];refine ⟨.ref s.heap.objs.size,_,I.laid (t':=s.toks) (o:=.tup (List.replicate k.toNat xs).flatten) (fun b ob q=>O0 _ q) (O4 _) ?_,rfl,q2 h1 _ (I.hok.fresh (O4 _))⟩;exact ⟨by rw [Q9d,Nat.mul_comm]; exact F1 hz (by decide),_,r.rep k.toNat,IsTup.new _ _⟩
open PySem.SeqAt
theorem Qaq:OpR X (aU .IsNot) (fun x y H Q=>∃ b c,x=.bl b/\y=.bl c/\Q (.bl (b != c)) H):=by
 intro pins s σ H x y v u Q I rx ry h;obtain ⟨b,c,rfl,rfl,q⟩:=h;cases rx;cases ry;exact PyProof.Rows.isnot_bool ⟨.bl _,H,I,rfl,q⟩
theorem X8:∀ (names:List (Str × aj)) (h:Heap) (acc:List (Str × aA)) (x:Str) (c:aA),(af h.objs.size names acc).lookup x=some c ->
  acc.lookup x=some c\/((x,NameKind.cell)∈names/\h.objs.size<=c/\(pushCells h names).IsCell c none)
 | [],_,_,_,_,e=>.inl e
 | (name,kind) :: r,h,acc,x,c,e=>by
  unfold af at e;unfold pushCells
  by_cases hk:(kind == NameKind.cell)=true
  ·rw [bM hk] at e ⊢;have hk':kind=.cell:=by simpa using hk
   have ih:=X8 r (h.push { cls:=.type "cell",data:=.cell none }) ((name,h.objs.size) :: acc) x c (by rw [F9]; exact e);rw [F9] at ih;rcases ih with z | ⟨z1,z2,z3⟩
   ·rw [E5] at z;cases hb:x == name with
    | true=>
     rw [hb] at z; cases z;exact .inr ⟨by rw [beq_iff_eq.mp hb,hk']; exact D3,O4 _,⟨_,pushCells_keeps _ _ _ _ (D6 _ rfl),rfl⟩⟩
    | false=>rw [hb] at z; exact .inl z
   ·exact .inr ⟨O6 _ z1,by omega,z3⟩
  ·rw [bN hk] at e ⊢;rcases X8 r h acc x c e with z | ⟨z1,z2,z3⟩
   ·exact .inl z
   ·exact .inr ⟨O6 _ z1,z2,z3⟩
theorem K0 {x:Str}:∀ (names:List (Str × aj)) (n:Nat) (acc:List (Str × aA)),(x,NameKind.cell)∉names->(af n names acc).lookup x=acc.lookup x
 | [],_,_,_=>rfl
 | (name,kind) :: r,n,acc,h=>by
  unfold af;have hr:(x,NameKind.cell)∉r:=fun z=>h (O6 _ z)
  by_cases hk:(kind == NameKind.cell)=true
  ·rw [bM hk,K0 r _ _ hr,E5];cases hb:x == name with
   | true=>exact absurd (by rw [beq_iff_eq.mp hb,show kind=.cell by simpa using hk]; exact D3) h
   | false=>rfl
  ·rw [bN hk,K0 r _ _ hr]
theorem jp {x:Str} {c:aA}:∀ (names:List (Str × aj)) (n:Nat) (acc:List (Str × aA)),(x,NameKind.cell)∈names->(af n names acc).lookup x=some c->n<=c
 | [],_,_,h,_=>by cases h
 | (name,kind) :: r,n,acc,h,e=>by
  unfold af at e
  by_cases hr:(x,NameKind.cell)∈r
  ·by_cases hk:(kind == NameKind.cell)=true
   ·rw [bM hk] at e;exact Nat.le_of_succ_le (jp r _ _ hr e)
   ·rw [bN hk] at e;exact jp r _ _ hr e
  ·rcases E7.mp h with q | q
   ·cases q;rw [bM (by decide),K0 r _ _ hr,E5] at e;simp at e;exact Nat.le_of_eq e
   ·exact absurd q hr
theorem jq:∀ (names:List (Str × aj)) (n:Nat) (acc:List (Str × aA)),(∀ x c,acc.lookup x=some c->c < n)->(∀ x y c,acc.lookup x=some c->acc.lookup y=some c->x=y) ->
  ∀ x y c,(af n names acc).lookup x=some c->(af n names acc).lookup y=some c->x=y
 | [],_,_,_,h=>h
 | (name,kind) :: r,n,acc,h1,h2=>by
  unfold af
  by_cases hk:(kind == NameKind.cell)=true
  ·rw [bM hk];refine jq r (n + 1) _ (fun x c e=>?_) (fun x y c e e'=>?_)
   ·rw [E5] at e;cases hb:x == name with
    | true=>rw [hb] at e; cases e; exact Nat.lt_succ_self _
    | false=>rw [hb] at e; exact Nat.lt_succ_of_lt (h1 x c e)
   ·rw [E5] at e e';cases hb:x == name with
    | true=>
     rw [hb] at e; cases e;cases hb':y == name with
     | true=>rw [beq_iff_eq.mp hb,beq_iff_eq.mp hb']
     | false=>rw [hb'] at e'; exact absurd (h1 y _ e') (Nat.lt_irrefl _)
    | false=>
     rw [hb] at e;cases hb':y == name with
     | true=>rw [hb'] at e'; cases e'; exact absurd (h1 x _ e) (Nat.lt_irrefl _)
     | false=>rw [hb'] at e'; exact h2 x y c e e'
  ·rw [bN hk];exact jq r n acc h1 h2
theorem Q6g {M:Model} {A:aQ} {E:aB->aC->Prop} {s:aC} {scope:Scope} {globals:aA} {cl:List (Str × aA)} {qual:Str} {func:Option aA} {code:aB} {env:Env} {builtins:aA} {Q:Env->aC->Prop}
  (hQ:Q (newEnv scope s.heap.objs.size globals (af (s.heap.objs.size + 1) scope.names cl) qual func code (some env) builtins) { s with heap:=pushCells (s.heap.push { cls:=.type "dict",data:=.dict #[] }) scope.names }) :
  aI M A (newFunctionEnv scope globals cl [] qual func code (some env) builtins) Q E s:=by
 simp only [newFunctionEnv,Option.isSome_some,if_true];refine aD (wpAny_alloc ?_);refine aD (wpAny_layCells _ (fun name kind cells=>by cases hkc:kind == NameKind.cell <;> simp [hkc]) _ _ _ _ ?_);rw [show ({ s with heap:=s.heap.push { cls:=.type "dict",data:=.dict #[] } }:aC).heap.objs.size=s.heap.objs.size + 1 from F9 ..];refine aD ?_;rw [List.forIn_nil];exact wpAny_pure (wpAny_pure hQ)
def compOkC (N N':List Str) (sc scE:Scope) (cap:List (Option Nat)):Bool:=
 sc.kind == .function && sc.names.all (fun x=>x.2 != .cell || sc.names.lookup x.1 == some .cell) && sc.names.all (fun x=>x.2 != .local || sc.names.lookup x.1 == some .local) &&
 sc.names.all (fun x=>x.2 != .free || scE.names.lookup x.1 == some .cell || scE.names.lookup x.1 == some .free) && cap.length == N'.length &&
 (List.range cap.length).all (fun i=>match cap[i]? with
  | some (some j)=>(match N'[i]?,N[j]? with | some a,some b=>a == b && sc.names.lookup a == some .free | _,_=>false)
  | _=>true)
structure CompOkC (N N':List Str) (sc scE:Scope) (cap:List (Option Nat)):Prop where
 kind:sc.kind=.function
 cel:∀ x∈sc.names,x.2=.cell->sc.names.lookup x.1=some .cell
 loc:∀ x∈sc.names,x.2=.local->sc.names.lookup x.1=some .local
 fre:∀ x∈sc.names,x.2=.free->scE.names.lookup x.1=some .cell\/scE.names.lookup x.1=some .free
 len:cap.length=N'.length
 at_:∀ (i j:Nat),cap[i]?=some (some j)->∃ x,N'[i]?=some x/\N[j]?=some x/\sc.names.lookup x=some .free
theorem compOkC.of {N N':List Str} {sc scE:Scope} {cap:List (Option Nat)} (h:compOkC N N' sc scE cap=true):CompOkC N N' sc scE cap:=by
 unfold compOkC at h;simp only [F6,F0,beq_iff_eq,Bool.or_eq_true,bne_iff_ne] at h;obtain ⟨⟨⟨⟨⟨h1,h2⟩,h3⟩,h4⟩,h5⟩,h6⟩:=h;refine ⟨h1,fun x hx e=>?_,fun x hx e=>?_,fun x hx e=>?_,h5,fun i j e=>?_⟩
 ·rcases h2 x hx with z | z
  ·exact absurd e z
  ·exact z
 ·rcases h3 x hx with z | z
  ·exact absurd e z
  ·exact z
 ·rcases h4 x hx with (z | z) | z
  ·exact absurd e z
  ·exact .inl z
  ·exact .inr z
 ·have hi:i < cap.length:=(O1.mp e).1;have:=h6 i (D4.mpr hi);rw [e] at this;simp only at this;cases e1:N'[i]? with
  | none=>rw [e1] at this; cases this
  | some a=>
   cases e2:N[j]? with
   | none=>rw [e1,e2] at this; cases this
   | some b=>
    rw [e1,e2] at this;simp only [F6,beq_iff_eq] at this;obtain ⟨rfl,z⟩:=this;exact ⟨a,rfl,rfl,z⟩
def Wz (X:Cx) (N':List Str) (sc:Scope) (cl:List (Str × aA)) (C:aA) (s0:aC) (H0:Hp) (ex:List aA):Cx:=
 { X with N:=N',s₀:=s0,H₀:=H0,env:=compEnvC sc cl C X.env,outer:=X.stack,ex:=ex,fn:=fun x=>sc.names.lookup x == some .cell,pn:=[],xe:=fun _ _=>False }
theorem Qkq {pins:List (aA × Obj)} {σ:St} {H:Hp} {s:aC} {N N':List Str} {sc scE:Scope} {cap:List (Option Nat)} {cl:List (Str × aA)} {fp:List aA}
  (I:Inv X pins σ H s) (hN:X.N=N) (hE:X.env.scope=scE) (ck:CompOkC N N' sc scE cap) (c1:∀ x c,cl.lookup x=some c->X.env.cells.lookup x=some c) (c2:∀ x∈sc.names,x.2=.free->∃ c,cl.lookup x.1=some c)
  (hf:∀ b∈fp,Q6f X pins H b) (hfs:∀ b∈fp,b < s.heap.objs.size) :
  Inv (Wz X N' sc (af (s.heap.objs.size + 1) sc.names cl) s.heap.objs.size s H fp) [] (Q2c cap σ) H { s with heap:=pushCells (s.heap.push { cls:=.type "dict",data:=.dict #[] }) sc.names }:=by
 obtain ⟨h₁,hh₁⟩:∃ h₁,pushCells (s.heap.push { cls:=.type "dict",data:=.dict #[] }) sc.names=h₁:=⟨_,rfl⟩;obtain ⟨cl',hcl'⟩:∃ cl',af (s.heap.objs.size + 1) sc.names cl=cl':=⟨_,rfl⟩;rw [hh₁,hcl'];have keep:∀ b o,s.heap.get? b=some o->h₁.get? b=some o:=fun b o e=>by rw [<- hh₁]; exact pushCells_keeps _ _ b o (O0 _ e)
 have hns:h₁.Ns s.heap.objs.size (fun _=>none):=by rw [<- hh₁]; exact (Heap.Ns.new s.heap (.type "dict")).keeps (pushCells_keeps _ _)
 have look:∀ x c,cl'.lookup x=some c->cl.lookup x=some c\/(s.heap.objs.size + 1<=c/\h₁.IsCell c none):=fun x c e=>by
  rw [<- hcl'] at e;have:=X8 (sc.names) (s.heap.push { cls:=.type "dict",data:=.dict #[] }) cl x c (by rw [F9]; exact e);rw [F9,hh₁] at this;rcases this with z | ⟨_,z,z'⟩
  ·exact .inl z
  ·exact .inr ⟨z,z'⟩
 have cellLt:∀ x c,cl.lookup x=some c->c < s.heap.objs.size:=fun x c e=>by
  obtain ⟨v,o,ho,_⟩:=I.cell x c (c1 x c e);exact O8 ho
 have inj:∀ x y c,cl'.lookup x=some c->cl'.lookup y=some c->x=y:=by
  rw [<- hcl'];exact jq _ _ _ (fun x c e=>Nat.lt_succ_of_lt (cellLt x c e)) fun x y c a b=>I.ok.inj x y c (c1 x c a) (c1 y c b)
 have isC:∀ x,sc.names.lookup x=some .cell->∃ c,cl'.lookup x=some c:=fun x e=>by
  rw [<- hcl'];exact Option.isSome_iff_exists.mp (PySem.W.cellsFrom_some _ _ _ (.inl e))
 have isF:∀ x,sc.names.lookup x=some .free->cl'.lookup x=cl.lookup x:=fun x e=>by
  rw [<- hcl'];refine K0 _ _ _ fun z=>?_
  have:=ck.cel _ z rfl;rw [e] at this; cases this
 have kindOf:∀ x k,(compEnvC sc cl' s.heap.objs.size X.env).kindOf x=some k->k=.cell\/k=.free->sc.names.lookup x=some .free\/sc.names.lookup x=some .cell:=fun x k e hk=>by
  have e':(relabel sc X.env).names.lookup x=some k:=e;rw [xq] at e';cases q:sc.names.lookup x with
  | none=>rw [q] at e'; cases e'
  | some k'=>
   rw [q] at e';have e'':(if (k' == NameKind.free && X.env.scope.kind == .function && X.env.kindOf x == some .cell)=true then NameKind.cell else k')=k:=Option.some.inj e'
   by_cases hc:(k' == NameKind.free && X.env.scope.kind == .function && X.env.kindOf x == some .cell)=true
   ·simp only [F6,beq_iff_eq] at hc;rw [hc.1.1]; exact .inl rfl
   ·rw [bN hc] at e'';subst e'';rcases hk with z | z
    ·rw [z]; exact .inr rfl
    ·rw [z]; exact .inl rfl
 have cellAt:∀ x c,X.env.cells.lookup x=some c->∀ v,s.heap.IsCell c v->h₁.IsCell c v:=fun x c e v ⟨o,ho,hd⟩=>⟨o,keep c o ho,hd⟩
 have Hnew:∀ c,s.heap.objs.size<=c->H c=none:=fun c hc=>I.hok.fresh hc
 refine ⟨⟨I.ok.mod,ck.kind,I.ok.glob,I.ok.blt,O4 _,inj,fun x hx=>?_,fun x c h1 h2=>?_,I.ok.hd,I.ok.frames,.inl rfl,fun b hb=>?_,I.bs,
  F1 I.ok.bsz I.sz,fun b o e hb=>?_,fun b hb hz=>?_,I.stack,I.stkFree⟩,rfl,I.bare,Un.kept keep,⟨_,hns,fun i x v e1 e2 e3=>?_⟩,fun x c e=>?_,Hnew _ (O4 _),fun x c e=>?_,fun p hp=>(by cases hp),I.hok.kept keep,?_⟩
 ·have hx:(compEnvC sc cl' s.heap.objs.size X.env).kindOf x=some .cell\/(compEnvC sc cl' s.heap.objs.size X.env).kindOf x=some .free:=hx;have q:sc.names.lookup x=some .free\/sc.names.lookup x=some .cell:=by
   rcases hx with z | z
   ·exact kindOf x _ z (.inl rfl)
   ·exact kindOf x _ z (.inr rfl)
  rcases q with q | q
  ·obtain ⟨c,hc⟩:=c2 _ (PySem.mem_of_lookup q) rfl;exact ⟨c,(isF x q).trans hc⟩
  ·exact isC x q
 ·have h1:sc.names.lookup x=some .cell:=by simpa [Wz] using h1
  have h2:cl'.lookup x=some c:=h2;rw [<- hcl'] at h2;exact F1 (Nat.le_succ _) (jp _ _ _ (PySem.mem_of_lookup h1) h2)
 ·refine ⟨E6 (hfs b hb),fun x c e=>?_⟩;rcases look x c e with z | ⟨z,_⟩
  ·exact (hf b hb).2.2.2.2.1 x c (c1 x c z)
  ·exact fun q=>absurd (D1 (hfs b hb) (F1 (Nat.le_succ _) (q ▸ z))) (Nat.lt_irrefl _)
 ·rcases (hf b hb).2.2.2.1 with z | z
  ·exact I.ok.noex b o e z
  ·exact absurd (D1 (O8 e) (F1 I.ok.bsz z)) (Nat.lt_irrefl _)
 ·rcases E7.mp (I.stkSub b hz) with e | z
  ·exact (hf b hb).2.1 e
  ·exact (hf b hb).2.2.1 z
 ·have e1:N'[i]?=some x:=e1;have e2:(Q2c cap σ)[i]?=some (some v):=e2;unfold Q2c at e2;rw [E3] at e2;cases q:cap[i]? with
  | none=>rw [q] at e2; cases e2
  | some oj=>
   rw [q] at e2;cases oj with
   | none=>cases e2
   | some j=>
    obtain ⟨y,z1,z2,z3⟩:=ck.at_ i j q;rw [e1] at z1; cases z1;have ev:σ[j]?=some (some v):=by
     have e2':(σ[j]?).join=some v:=Option.some.inj e2;cases r:σ[j]? with
     | none=>rw [r] at e2'; cases e2'
     | some o=>rw [r] at e2'; exact congrArg some e2'
    obtain ⟨m',hm',hl⟩:=I.loc;have sK:X.env.scope.names.lookup x=some .cell\/X.env.scope.names.lookup x=some .free:=by rw [hE]; exact ck.fre _ (PySem.mem_of_lookup z3) rfl
    obtain ⟨u,ru,l⟩:=hl j x v (by rw [hN]; exact z2) ev (sK.elim (fun z=>.inr (.inl z)) fun z=>.inr (.inr z))
    refine ⟨u,ru,?_⟩;obtain ⟨c,hc⟩:=c2 _ (PySem.mem_of_lookup z3) rfl;rcases l with ⟨k,_⟩ | ⟨k,c',hc',hcell⟩
    ·have k:X.env.scope.names.lookup x=some .local:=k;rcases sK with z | z <;> (rw [k] at z; cases z)
    ·have:c=c':=by
      have q1:=c1 x c hc;rw [hc'] at q1;exact (Option.some.inj q1).symm
     subst this;refine .inr ⟨?_,c,(isF x z3).trans hc,cellAt x c hc' _ hcell⟩;show (relabel sc X.env).names.lookup x=some .cell\/(relabel sc X.env).names.lookup x=some .free;rw [xq,z3];show some (if _ then NameKind.cell else NameKind.free)=_\/some (if _ then NameKind.cell else NameKind.free)=_
     split
     ·exact .inl rfl
     ·exact .inr rfl
 ·rcases look x c e with z | ⟨_,z⟩
  ·obtain ⟨v,q⟩:=I.cell x c (c1 x c z);exact ⟨v,cellAt x c (c1 x c z) v q⟩
  ·exact ⟨_,z⟩
 ·rcases look x c e with z | ⟨z,_⟩
  ·exact I.freeC x c (c1 x c z)
  ·exact Hnew c (by omega)
 ·unfold Q2c;show _=N'.length;rw [O2];exact ck.len
theorem Qr1 {x y:V} {us:List aB} (r:Vals [x,y] us):∃ u w,us=[u,w]/\RelV x u/\RelV y w:=by
 cases r with
 | cons a r=>
  cases r with
  | cons b r=>
   cases r with
   | nil=>exact ⟨_,_,rfl,a,b⟩
end L2
namespace PySem
open Sem (wp)
variable {prog:aP} {A:aQ} {E:aB->aC->Prop} {hp:Heap} {gs:Array GenState} {dr:Drawn} {tk:Nat} {sy:OsState} {cn cq:Str} {kC kN:aA} {bas tl:List aB} {hd:Bool} {sns:List Str} {subs:List aB} {abb:Bool} {coll:Option Bool} {dic:Option aA} {j0 j1 j2 j3 j5:Option aB} {BB Bn newI nI initI inN:String} {tN:List aB}
section
variable {w:aN} {tB:List aB}
theorem Q4h (Fn:ExcBaseFacts Bn newI inN tN) (hBn:tB.contains (.type Bn)=true) (F:ExcBaseFacts BB nI initI tB) (T:OwnTail hp tB tl) {rest:List aB} {f0:aA} {o0:Obj} {Q:Fin->aC->Prop}
  (oC:hp.get? kC=some (excClassObj cn cq kC kN bas tl hd sns subs abb coll dic j0 j1 j2 j3 j5 newI)) {K:PySem.W.Frag} (X:K.In hp) (ei:PySem.W.findIn K (.ref kC) "__init__" = some (some (.ref f0))) (of:hp.get? f0=some o0) (cf:o0.cls=.type "function")
  (hq:∀ h',(∀ b o,hp.get? b=some o->h'.get? b=some o)->h'.get? (hp.objs.size + 1)=some { cls:=.ref kC,data:=.fields #[.ref hp.objs.size,.none,.none,.none,.bool false,.none] }->aI (aJ prog w) A (call (.ref f0) (.ref (hp.objs.size + 1) :: rest)) (fun r s'=>r=.none/\Q (.done (.ret (.ref (hp.objs.size + 1)))) s') E ⟨h',gs,dr,tk,sy⟩) (hz:rest.length<=sizeLine) :
  aI (aJ prog w) A (Builtin.«type.__call__» ⟨.ref kC :: rest,[]⟩) Q E ⟨hp,gs,dr,tk,sy⟩:=by
 repeat (first | with_reducible refine wpAny_loadPart_at oC ?_ | with_reducible refine wpAny_madeBy_exc oC ?_ | wp_step)
 refine codeAny_call_builtin_code (Code.quiet_builtin _ Fn.quiet) (wpAny_check_new_subU Fn hBn T oC ?_);refine codeAny_exc_new_subU Fn hBn F T oC ?_ hz;show aI _ _ _ _ _ _;obtain ⟨h2,e2⟩:∃ h2,(hp.push { cls:=.type "tuple",data:=.seq rest.toArray }).push { cls:=.ref kC,data:=.fields #[.ref hp.objs.size,.none,.none,.none,.bool false,.none] }=h2:=⟨_,rfl⟩;have kp:∀ b o,hp.get? b=some o->h2.get? b=some o:=fun b o q=>by rw [<- e2]; exact O0 _ (O0 _ q)
 have oe:h2.get? (hp.objs.size + 1)=some { cls:=.ref kC,data:=.fields #[.ref hp.objs.size,.none,.none,.none,.bool false,.none] }:=by rw [<- e2]; heap_get
 have ot:h2.get? hp.objs.size=some { cls:=.type "tuple",data:=.seq rest.toArray }:=by rw [<- e2]; exact O0 _ (Heap.get?_push_at rfl rfl)
 rw [e2];have oC2:=kp _ _ oC;have self:(Value.ref kC :: tl).contains (.ref kC)=true:=by simp
 unfold isInstance
 repeat (first | with_reducible refine wpAny_loadPart_at oe ?_ | (with_reducible refine wpAny_isSubtype_exc oC2 ?_; rw [self]) | wp_step)
 show aI _ _ (typeLookup (.ref kC) _) _ _ _;refine (PySem.W.looks_findIn (X.keeps kp) ei).at ?_;refine bB (aD ?_);unfold bindSpecial;refine aD (bK (T := "function") ⟨_,kp _ _ of,cf⟩ ?_);rw [bM (by decide)];refine wpAny_pure (aD (ae (hq h2 kp oe) (fun r s' z=>?_) fun _ _ z=>z))
 obtain ⟨rfl,z⟩:=z
 wp_walk
 exact z
theorem Qd4 (Fn:ExcBaseFacts Bn newI inN tN) (hBn:tB.contains (.type Bn)=true) (F:ExcBaseFacts BB nI initI tB) (T:OwnTail hp tB tl) {rest:List aB} {f0:aA} {o0:Obj} {Q:aB->aC->Prop}
  (oC:hp.get? kC=some (excClassObj cn cq kC kN bas tl hd sns subs abb coll dic j0 j1 j2 j3 j5 newI)) {K:PySem.W.Frag} (X:K.In hp) (ei:PySem.W.findIn K (.ref kC) "__init__" = some (some (.ref f0))) (of:hp.get? f0=some o0) (cf:o0.cls=.type "function")
  (hq:∀ h',(∀ b o,hp.get? b=some o->h'.get? b=some o)->h'.get? (hp.objs.size + 1)=some { cls:=.ref kC,data:=.fields #[.ref hp.objs.size,.none,.none,.none,.bool false,.none] }->aI (aJ prog w) (A.under (.builtin "type.__call__" ⟨.ref kC :: rest,[]⟩)) (call (.ref f0) (.ref (hp.objs.size + 1) :: rest)) (fun r s'=>r=.none/\Q (.ref (hp.objs.size + 1)) s') E ⟨h',gs,dr,tk,sy⟩) (hz:rest.length<=sizeLine) :
  aI (aJ prog w) A (call (.ref kC) rest) Q E ⟨hp,gs,dr,tk,sy⟩:=by
 have l1:=tc_lookup;have l2:=tc_bind (.ref kC);have ty:(⟨hp,gs,dr,tk,sy⟩:aC).TypeIs (.ref kC) "type" := ⟨_,oC,rfl⟩;refine wpAny_call (codeAny_of_tree ?_);show aI _ _ (callAny (.ref kC) _) _ _ _
 repeat (any_goals (first | assumption | with_reducible refine wpAny_loadPart_at oC ?_ | wp_step))
 refine ⟨rfl,?_⟩;exact codeAny_call_builtin_at (Code.quiet_builtin _ (by decide +kernel)) entry_typeCall (wpAny_check_type_call_sub oC (Q4h (hz:=hz) Fn hBn F T oC X ei of cf fun h' k m=>hq h' k m))
end
variable {M:Model} {env:Env}
theorem Q6m {s:aC} {x:Sem aB} {Q:Flow->aC->Prop} (hb:tl.contains (.type "BaseException")=true) (hh:A.handled=none)
  (h:aI M A x (fun v s1=>∃ e t dv,v=.ref e/\s1.heap.get? kC=some (excClassObj cn cq kC kN bas tl hd sns subs abb coll dic j0 j1 j2 j3 j5 newI) /\
   s1.heap.get? e=some { cls:=.ref kC,dict:=dv,data:=.fields #[.ref t,.none,.none,.none,.bool false,.none] }/\E (.ref e) s1) E s):aI M A (raiseStmt env (some x) none) Q E s:=by
 have cb:(Value.ref kC :: tl).contains (.type "BaseException")=true:=by rw [List.contains_cons,hb,Bool.or_true]
 unfold raiseStmt;refine aD (ae h (fun v s1 z=>?_) fun _ _ z=>z)
 obtain ⟨e,t,dv,rfl,oC,oe,z⟩:=z;obtain ⟨hp,gs,dr,tk,sy⟩:=s1
 repeat (first | with_reducible refine wpAny_loadPart_at oe ?_ | with_reducible refine wpAny_loadPart_at oC ?_ | (with_reducible refine wpAny_isSubtype_exc oC ?_; rw [cb]) | wp_step)
 exact wpAny_raiseNew_none hh z
end PySem
namespace L2
open PySem PySem.Spec PyProof.Rows PySem.W PySem.Builtin.ObjectAttr
structure XSet (K:Frag) (C W:aA) (name:Str):Prop where
 sa:findIn K (.ref C) "__setattr__" = some (some (.builtin "object.__setattr__"))
 ob:mroIn K C (.type "object")=some true
 cls:∃ cd,clsIn K C=some cd/\cd.mro=.ref C :: .ref W :: Vr/\cd.hasDict=true
 no:findIn K (.ref C) name=some none
variable {prog:aP} {A:aQ} {E:aB->aC->Prop} {s:aC} {K:Frag} {C W:aA} {name:Str} {v:aB}
section
variable {w:aN} {x:aA}
theorem Qky {vs:Array aB} {Q:Unit->aC->Prop} (X:K.In s.heap) (S:XSet K C W name) (oe:s.heap.get? x=some { cls:=.ref C,data:=.fields vs })
  (hq:∀ h' tk,h'.get? x=some { cls:=.ref C,dict:=some s.heap.objs.size,data:=.fields vs }->h'.Ns1 s.heap.objs.size (fun y=>if y=name then some v else none) ->
   (∀ b o,b≠x->s.heap.get? b=some o->h'.get? b=some o)->Q () { s with heap:=h',toks:=tk }):aI (aJ prog w) A (setAttr (.ref x) name v) Q E s:=by
 have J:InstAt s.heap x { cls:=.ref C,data:=.fields vs } C none:=⟨oe,rfl,rfl,True.intro⟩;obtain ⟨cd,hc,hm,hd⟩:=S.cls;refine set_plain X J S.sa ?_;have SF:=PySem.F.store_ValueError;have sub:Looks (aJ prog w) s.heap (isInstance (.ref x) (.type "object")) true:=J.type.andThen (looks_mroIn X S.ob);refine codeAny_call_builtin SF.slot.plain SF.entry (@check_slot (aJ prog w) _ _ { s with toks:=s.toks + 1 } "object.__setattr__" "object" "__setattr__" (.ref x) [.str name s.toks,v] [] _ SF.kind SF.split sub (SF.args (.ref x) (.str name s.toks) v) ?_);have lm:Looks (aJ prog w) s.heap (mroOf (.ref C)) cd.mro:=(looks_clsIn X hc).andThen .now;rw [osa_eq,refuse_eq];refine aD (aD (Looks.here (s:={ s with toks:=s.toks + 1 }) J.type (aD (Looks.here (s:={ s with toks:=s.toks + 1 }) lm ?_))));rw [hm,refuseLoop_ref,refuseLoop_ref,SF.passes];refine wpAny_pure (aD (Looks.here (s:={ s with toks:=s.toks + 1 }) J.type (aD (Looks.here (s:={ s with toks:=s.toks + 1 }) (looks_findIn X S.no) (aD (wpAny_pure ?_))))))
 dsimp only;unfold storeInOwnDict;refine aD (wpAny_pure (aD ?_));unfold ownDictForStores instanceDict;refine aD (wpAny_loadPart oe (aD (Looks.here (s:={ s with toks:=s.toks + 1 }) (looks_clsIn X hc) ?_)));rw [hd];have od:(s.heap.push { cls:=.type "dict",data:=.dict #[] }).get? x=some { cls:=.ref C,data:=.fields vs }:=O0 _ oe;have xs:x≠s.heap.objs.size:=E6 (O8 oe);have th:typeHasDict (.ref C)=true:=rfl;dsimp only;rw [bN (by decide),bN (by rw [th]; decide)];refine aD (wpAny_alloc' ?_);refine aD (wpAny_update' od ?_);refine wpAny_pure ?_;obtain ⟨h2,e2⟩:∃ h2,((s.heap.push { cls:=.type "dict",data:=.dict #[] }).update x fun o=>{ cls:=o.cls,dict:=some s.heap.objs.size,data:=o.data,slots:=o.slots })=h2:=⟨_,rfl⟩
 have g2:h2.get? s.heap.objs.size=some { cls:=.type "dict",data:=.dict #[] }:=by rw [<- e2]; exact (Heap.get?_update_ne _ _ _ _ xs.symm).trans (Heap.get?_push_at rfl rfl)
 have x2:h2.get? x=some { cls:=.ref C,dict:=some s.heap.objs.size,data:=.fields vs }:=by rw [<- e2]; exact L8 _ od rfl
 have k2:∀ b o,b≠x->s.heap.get? b=some o->h2.get? b=some o:=fun b o n q=>by rw [<- e2]; exact (Heap.get?_update_ne _ _ _ _ n).trans (O0 _ q)
 have n2:h2.Ns s.heap.objs.size (fun _=>none):=⟨_,#[],_,g2,rfl,fun e he=>absurd he (by simp),fun _=>rfl⟩;show aI _ _ (storeInDict s.heap.objs.size (.str name s.toks) name v) _ _ _;rw [e2];unfold storeInDict newKeyGuard;refine aD (wpAny_pure (aD (wpAny_nsSet1 (Heap.Ns1.of_empty n2) fun h' n' sb=>?_)))
 obtain ⟨oD,esD,epD,hoD,hdD,hcD⟩:=n'.count (Within.cons name v Within.nil);refine aD (wpAny_lookBehind hoD (by rw [hdD]; exact pastItsLine_dict (F1 hcD (by rw [D2,List.length_nil,sizeLine_eq]; omega))) ?_);exact wpAny_pure (hq h' _ ((sb.2 x xs).trans x2) n' fun b o n q=>(sb.2 b (E6 (O8 q))).trans (k2 b o n q))
end
end L2
namespace L2
open PySem PySem.Spec PyProof.Rows PySem.W
def XO (x C:aA) (dv:Option aA) (h:Heap):Prop:=∃ t,h.get? x=some { cls:=.ref C,dict:=dv,data:=.fields #[.ref t,.none,.none,.none,.bool false,.none] }
theorem Qh5 {P:aP} {w:aN} {H:Hp} {h:Heap} {x C:aA} {dv:Option aA} (o:XO x C dv h):ObjOk P w H h x (.ext (XO x C dv)):=
 ⟨o,o.elim fun t e=>⟨_,e⟩,fun h1 h2 ⟨t,e⟩ k=>⟨t,k _ e⟩⟩
structure XMade (K:Frag) (C W f:aA):Prop where
 lk:∃ nm q N bs sn sub ab col dd k0 k1 k2 k3 k5,K.lookup C=some (excClassObj nm q C N bs (.ref W :: Vr) true sn sub ab col dd k0 k1 k2 k3 k5 "ValueError.__new__")
 xw:excIn K W Vr "ValueError.__new__" = true
 fi:findIn K (.ref C) "__init__" = some (some (.ref f))
 ff:∃ o,K.lookup f=some o/\o.cls=.type "function"
 kp:keepIn K (.ref C)=true
theorem XMade.tail {K:Frag} {C W f:aA} {h:Heap} (M:XMade K C W f) (X:K.In h):OwnTail h Vr (.ref W :: Vr):=by
 obtain ⟨tl,N,nm,qn,bs,hdct,sn,sub,ab,col,dd,k0,k1,k2,k3,k5,mN,hC,hN,hni,T⟩:=(Qdr (mg:=fun _=>some (.ref W)) (x := "W") X rfl M.xw).obj
 exact .own hC hN hni .base
variable {prog:aP} {A:aQ} {E:aB->aC->Prop} {s:aC} {K:Frag} {C W f:aA}
section
variable {w:aN} {x:aA}
theorem Qqx {u:aB} {Q:aB->aC->Prop} (X:K.In s.heap) (M:XMade K C W f) (o:XO x C none s.heap)
  (hq:∀ h',(∀ b o,b≠x->s.heap.get? b=some o->h'.get? b=some o)->XO x C none h'->Q .none { s with heap:=h' }):aI (aJ prog w) A (call (.builtin "ValueError.__init__") [.ref x,u]) Q E s:=by
 obtain ⟨t,oe⟩:=o;obtain ⟨nm,q,N,bs,sn,sub,ab,col,dd,k0,k1,k2,k3,k5,lk⟩:=M.lk;obtain ⟨hp,gs,dr,tk,sy⟩:=s;refine wpAny_call (codeAny_call_builtin PySem.F.excBase_ValueError.init.plain PySem.F.excBase_ValueError.initEntry (wpAny_check_init_subU PySem.F.excBase_ValueError (M.tail X) (X _ _ lk) oe rfl ?_))
 wp_walk
 refine hq _ (fun b o n e=>?_) ⟨hp.objs.size,?_⟩
 ·rw [F3 _ _ (Ne.symm n)];exact O0 _ e
 ·rw [L8 _ (O0 _ oe) rfl];rfl
end
variable {X:Cx}
section
variable {x:aA}
structure XCall (K:Frag) (W:aA):Prop where
 ga:specialIn K (.ref W) "__getattribute__" = some (some (.builtin "type.__getattribute__"))
 rd:readsIn K W (.type "type")=true
 fc:findCls K (.ref W) (.type "type") "__init__" = some (.val (.builtin "ValueError.__init__"))
def tXI (K:Frag) (C W f:aA) (t:TA):TE:=fun σ H Q=>t σ H fun vs H1=>∃ x y,vs=[.ref x,y]/\H1 x=some (.ext (XO x C none))/\Q .non H1
theorem Qis {n:Str} {p apos pos:Pos} {a b:aF} {t:TA} {pl:Sem Bool} (M:XMade X.K C W f) (L:XCall X.K W) (hg:Gl X n) (hm:X.mg n=some (.ref W)) (ha:PA X [a,b] t) (hdb:(n == ("__debug__" : Str))=false:=by decide)
  (hst:aM [a,b] X.env=[(false,aL a X.env),(false,aL b X.env)]:=by rfl)
  (ht:aL (.Call (.Attribute (.Name n p) "__init__" apos) [a,b] [] pos) X.env=(do
   let ov <- aL (.Name n p) X.env
   standAt apos.atName
   let (g,first) <- ag [ov] (getMethod ov "__init__" pl)
   callWith pos g first (aS pos (aM [a,b] X.env)) (backToKw pos (keywordEach [] X.env))):=by rfl) :
  PE X (.Call (.Attribute (.Name n p) "__init__" apos) [a,b] [] pos) (tXI X.K C W f t):=by
 intro pins s σ H Q I h;refine methodCall_KW (pl:=pl) (Xy I hg hm ?_ hdb) ht;refine method_cls I.kIn L.ga (cls_value I.kIn L.rd L.fc (by first | rfl | kernel_rfl) ?_);have I1:Inv X pins σ H { s with toks:=s.toks + 1 }:=I.tok _;have hA:=ha pos pins _ σ H _ I1 h;rw [hst] at hA ⊢;refine Calls.callWith_builtin rfl (Calls.evalArgs_plain ?_);refine thn hA fun us s2 ⟨vs,H2,I2,r2,x,y,e,hx,q⟩=>?_
 subst e;obtain ⟨u1,u2,rfl,r1,r3⟩:=Qr1 r2;cases r1;refine Qqx I2.kIn M (I2.hok x _ hx).1 fun h' kk o=>?_
 refine ⟨.non,H2,?_,rfl,q⟩;have:=I2.write (x:=x) (e:=x) (o:=.ext (XO x C none)) (t':=s2.toks) (h':=h') (by rw [hx]; exact trivial) (.inl rfl) kk (o.elim fun t e=>⟨_,e⟩) (Qh5 o);have eq:upd H2 x (.ext (XO x C none))=H2:=by
  funext b
  by_cases z:b=x
  ·subst z; rw [Qz,hx]
  ·rw [Q7 z]
 rw [eq] at this;exact this
theorem Inv.trackO {pins:List (aA × Obj)} {σ:St} {H H':Hp} {s1:aC} {a:aA} {ho:HO} (I0:Inv X pins σ H s) (hex:∀ b,b∉X.ex) (h0:s.heap.get? a=none) (I:Inv X pins σ H' s1) (hn:H' a=none) (o:ObjOk X.prog X.w (upd H' a ho) s1.heap a ho):Inv X pins σ (upd H' a ho) s1:=by
 have ne0:∀ b u,s.heap.get? b=some u->b≠a:=fun b u e z=>by rw [z,h0] at e; cases e
 have nes:∀ b u,X.s₀.heap.get? b=some u->b≠a:=fun b u e=>by
  obtain ⟨u',e'⟩:=I0.base.there b u e (hex b);exact ne0 b u' e'
 refine ⟨I.ok,I.os,I.bare,?_,I.loc,I.cell,?_,?_,?_,?_,I.len⟩
 ·have u0:=I.base;exact ⟨u0.keep,u0.slot,fun c o e n hx=>by rw [Q7 (nes c o e)]; exact u0.free c o e n hx,u0.there,
   fun c ts e=>by have:=u0.tups c ts e; rw [Q7 (Q9 this hn)]; exact this,
   fun c o ts e=>by have:=u0.frzs c o ts e; rw [Q7 (Q9 this hn)]; exact this,
   fun c ps e=>by obtain ⟨more,q⟩:=u0.tbls c ps e; exact ⟨more,by rw [Q7 (Q9 q hn)]; exact q⟩⟩
 ·obtain ⟨m,⟨o,_,_,e,_⟩,_⟩:=I0.loc;rw [Q7 (ne0 _ _ e)]; exact I.free
 ·intro x c e;obtain ⟨v,o,z,_⟩:=I0.cell x c e;rw [Q7 (ne0 _ _ z)]; exact I.freeC x c e
 ·intro p hp;obtain ⟨e,n,ne,nf,d⟩:=I.pin p hp;exact ⟨e,by rw [Q7 (ne0 _ _ (I0.pin p hp).1)]; exact n,ne,nf,d⟩
 ·intro c u q
  by_cases hc:c=a
  ·subst hc;rw [Qz] at q; cases q;exact o
  ·rw [Q7 hc] at q;exact (I.hok c u q).stay (fun _ _ _ r=>r) (fun c' r=>by rw [Q7 (Q9 r hn)]; exact r) fun c' ts r=>by rw [Q7 (Q9 r hn)]; exact r
def tXS (C:aA) (name:Str) (ta tv:TE):TS:=fun D σ H=>tv σ H fun y H1=>ta σ H1 fun v H2=>∃ x,v=.ref x/\H2 x=some (.ext (XO x C none)) /\
 ∀ dx,H2 dx=none->dx≠x->D.nx σ (upd (upd H2 x (.ext (XO x C (some dx)))) dx (.xd [(name,y)]))
theorem Qn0 {o value:aF} {name:Str} {ta tv:TE} {pos pos':Pos} (hex:∀ b,b∉X.ex) (S:XSet X.K C W name) (ha:PE X o ta) (hv:PE X value tv) (hs:swapsWith value (some (.Attribute o name pos')) pos.line X.env=pure false:=by rfl) :
  PS X (.Assign [.Attribute o name pos'] value pos) (tXS C name ta tv):=by
 intro pins s σ H D I h;refine plainObj_wpAny_Assign_Attribute (thn (hv pins s σ H _ I h) fun u s1 ⟨y,H1,I1,ry,q⟩=>thn (ha pins s1 σ H1 _ I1 q) fun ov s2 ⟨v,H2,I2,rx,x,ex,hx,q2⟩=>?_) hs
 subst ex;obtain rfl:ov=Value.ref x:=rx;obtain ⟨t,oe⟩:=(I2.hok x _ hx).1;refine Qky I2.kIn S oe fun h' tk o' n' kk=>?_
 have xs:s2.heap.objs.size≠x:=Nat.ne_of_gt (O8 oe);have I3:=I2.write (x:=x) (e:=x) (o:=.ext (XO x C (some s2.heap.objs.size))) (t':=tk) (h':=h') (by rw [hx]; exact trivial) (.inl rfl) kk ⟨_,o'⟩ (Qh5 ⟨t,o'⟩);refine ⟨σ,_,?_,q2 s2.heap.objs.size I2.fresh xs⟩;refine Inv.trackO I2 hex (Heap.get?_none_of_le (O4 _)) I3 (by rw [Q7 xs]; exact I2.fresh) ⟨_,n',fun g=>?_⟩;show RelO ([(name,y)].lookup g) (if g=name then some u else none)
 by_cases z:g=name
 ·subst z;rw [bM rfl,E5,show (g == g)=true by simp];exact ry
 ·have:(g == name)=false:=by simpa using z
  rw [bN z,E5,this];exact trivial
end
end L2
namespace PySem
open Sem (wp)
def z9 (o:Obj):Option aB:=match o.data with | .fields vs=>vs[2]? | _=>none
theorem Qbe {o:Obj} {vs:Array aB} {x:aB} (od:o.data=.fields vs):z9 (Obj.mapFields (·.setIfInBounds 1 x) o)=z9 o:=by
 have d:=Obj.data_mapFields od (·.setIfInBounds 1 x);unfold z9;rw [d,od];exact Array.getElem?_setIfInBounds_ne (by decide)
variable {M:Model} {A:aQ} {E:aB->aC->Prop} {s:aC} {en:Env} {ou:List Env} {L e:aA} {ob:Obj} {vs:Array aB} {Q:Unit->aC->Prop}
section
variable {bs:Heap} {a0:aB}
theorem Q68 {head:aB} {nx:Bool} (fr:A.frames=some (en :: ou)) (ff:s.heap.FunFrames bs (en :: ou)) (ef:en.frame=some L) (oe:s.heap.get? e=some ob) (kb:bs.StaysIn s.heap) (ne:bs.get? e=none)
  (od:ob.data=.fields vs) (z1:1 < vs.size) (z0:vs[0]?=some a0)
  (h:∀ h',Heap.LeftW bs (en :: ou) e ob.cls a0 s.heap h'->(∃ o',h'.get? e=some o'/\o'.dict=ob.dict/\z9 o'=z9 ob)->Q () { s with heap:=h' }) :
  aI M A (do
   let a <- frameOf en
   let pl <- entryPlaceOf L nx
   let b <- EntryCells.newEntry head a .none (aZ L) .none pl
   setField (.ref e) 1 b) (fun _ s'=>aI M A (setFlight (.ref e) none) Q E s') E s:=by
 have nf:e∉(en :: ou).filterMap (·.frame):=fun m=>by
  obtain ⟨_,o,q,n⟩:=ff.mem m;rw [oe] at q;cases q;exact n vs od
 refine aD (wpAny_frameOf_fun fr ff ef fun g gs=>?_);refine aD (wpAny_entryPlaceOf fun pl hp=>?_);unfold EntryCells.newEntry newFields;refine aD (aw ?_ (hp.sizeOk5 _ _ _ _ _));have ge:g.get? e=some ob:=(gs.2.1 e nf).trans oe;have gb:bs.StaysIn g:=fun b o q=>(gs.2.1 b fun m=>by
  rw [(ff.mem m).1] at q;cases q).trans (kb b o q)
 obtain ⟨tb,etb⟩:∃ tb:List aB,[head,.ref L,.none,aZ L,.none] ++ (if pl.isEmpty then List.replicate 6 Value.none else pl)=tb:=⟨_,rfl⟩;have l5:3 < tb.length/\tb[3]?=some (aZ L):=by
  rw [<- etb];exact ⟨by simp,by simp⟩
 rw [etb];have ge2:=O0 (h:=g) { cls:=.type "traceback",dict:=none,data:=.fields tb.toArray } ge;refine wpAny_setField ge2 od z1 ?_;have te:g.objs.size≠e:=Nat.ne_of_gt (O8 ge);have d3:=Obj.data_mapFields od (·.setIfInBounds 1 (Value.ref g.objs.size));have ge3:=L8 (Obj.mapFields (·.setIfInBounds 1 (Value.ref g.objs.size))) ge2 (Obj.isFreed_of_fields d3);have gt3:=(F3 (g.push { cls:=.type "traceback",dict:=none,data:=.fields tb.toArray })
  (Obj.mapFields (·.setIfInBounds 1 (Value.ref g.objs.size))) te.symm).trans
  (D6 g rfl)
 unfold setFlight;refine aD (aX ge3 d3 (x:=.ref g.objs.size) (by simp [z1]) ?_);rw [bM (show (Value.ref g.objs.size != Value.none)=true by simp)];refine wpAny_setField gt3 rfl (by simpa using l5.1) (h _ ?_ ?_)
 all_goals
  obtain ⟨g3,eg3⟩:∃ g3,((g.push { cls:=.type "traceback",dict:=none,data:=.fields tb.toArray }).update e (Obj.mapFields (·.setIfInBounds 1 (Value.ref g.objs.size))))=g3:=⟨_,rfl⟩;rw [eg3] at ge3 gt3 ⊢
 ·have kp:∀ b o,b≠e->g.get? b=some o->(g3.update g.objs.size (Obj.mapFields (·.setIfInBounds 3 ((none:Option aA).elim Value.none fun f=>aZ f)))).get? b=some o:=fun b o n q=>by
   rw [F3 _ _ (Nat.ne_of_gt (O8 q)),<- eg3,F3 _ _ n.symm];exact O0 _ q
  have nr:∀ b o,s.heap.get? b=some o->(∀ ws,o.data≠.fields ws)->b≠e:=fun b o q n z=>by
   rw [z,oe] at q;cases q;exact n vs od
  refine ⟨fun b o q=>kp b o (fun z=>by rw [z,ne] at q; cases q) (gb b o q),ff.of_keeps fun b o q n=>?_,?_,fun b o q n=>?_⟩
  ·obtain ⟨sl,z⟩:=gs.2.2 b o q;exact ⟨_,kp b _ (nr b o q n) z,rfl⟩
  ·refine ⟨_,_,g.objs.size,_,_,?_,⟨Obj.cls_mapFields _ _,?_⟩,d3,by simp [z1],gb.fresh,te,L8 _ gt3 (Obj.isFreed_of_fields (Obj.data_mapFields rfl _)),Obj.data_mapFields rfl _,?_⟩
   ·rw [F3 _ _ te];exact ge3
   ·rw [Array.getElem?_setIfInBounds_ne (by decide)];exact z0
   ·have:=l5.1;simp [this]
  ·obtain ⟨sl,z⟩:=gs.2.2 b o q;exact ⟨sl,kp b _ (nr b o q n) z⟩
 ·refine ⟨_,(F3 _ _ te).trans ge3,?_,Qbe od⟩;cases ob with
  | mk c d dt sl=>cases dt <;> first | rfl | cases od
theorem Qb7 (fr:A.frames=some (en :: ou)) (ff:s.heap.FunFrames bs (en :: ou)) (ef:en.frame=some L) (oe:s.heap.get? e=some ob) (kb:bs.StaysIn s.heap) (ne:bs.get? e=none)
  (od:ob.data=.fields vs) (z1:vs[1]?=some .none) (z0:vs[0]?=some a0)
  (h:∀ h',Heap.LeftW bs (en :: ou) e ob.cls a0 s.heap h'->(∃ o',h'.get? e=some o'/\o'.dict=ob.dict/\z9 o'=z9 ob)->Q () { s with heap:=h' }):aI M A (leaving en (.ref e)) Q E s:=by
 unfold leaving noteFrame;simp only [ef];refine aD (aD (aX oe od z1 ?_));rw [bN (by decide)];exact Q68 fr ff ef oe kb ne od (Array.getElem?_eq_some_iff.mp z1).1 z0 h
theorem Qb6 {cls:aB} {dv:Option aA} (fr:A.frames=some (en :: ou)) (ef:en.frame=some L) (fl:Heap.FlyingW bs (en :: ou) e cls a0 s.heap) (dd:∃ o',s.heap.get? e=some o'/\o'.dict=dv/\z9 o'=some .none)
  (h:∀ h',Heap.FlyingW bs ou e cls a0 h'->(∃ o',h'.get? e=some o'/\o'.dict=dv/\z9 o'=some .none)->s.heap.UpToSlots h'->Q () { s with heap:=h' }):aI M A (leaving en (.ref e)) Q E s:=by
 obtain ⟨kb,ne,ff,oe,ws,T,oT,ts,he,⟨hc,z0⟩,od,z1,nT,Te,hT,dT,z3⟩:=fl;obtain ⟨o',ho',hdv,hfl⟩:=dd;rw [he] at ho';cases ho';unfold leaving noteFrame;simp only [ef];refine aD (aD (aX he od z1 ?_));rw [bM (show (Value.ref T != Value.none)=true by simp)];refine aD (aX hT dT z3 ?_);rw [bN (show ¬ ((Value.none == aZ L)=true) by simp [aZ])];refine aD (wpAny_setField hT dT (Array.getElem?_eq_some_iff.mp z3).1 ?_);have ot:∀ b,b≠T->(s.heap.update T (Obj.mapFields (·.setIfInBounds 3 Value.none))).get? b=s.heap.get? b:=fun b n=>F3 _ _ n.symm
 have nr:∀ b o,s.heap.get? b=some o->(∀ ws,o.data≠.fields ws)->b≠T:=fun b o q n z=>by
  rw [z,hT] at q;cases q;exact n ts dT
 refine Q68 fr (ff.of_keeps fun b o q n=>⟨o,(ot b (nr b o q n)).trans q,rfl⟩) ef ((ot e Te.symm).trans he) (fun b o q=>(ot b fun z=>by rw [z,nT] at q; cases q).trans (kb b o q)) ne od (Array.getElem?_eq_some_iff.mp z1).1 z0 fun h' lf d'=>?_
 obtain ⟨k1,⟨_,_,k2⟩,k3,k4⟩:=lf;rw [hc] at k3;exact h h' ⟨k1,ne,k2,k3⟩ (d'.imp fun o q=>⟨q.1,q.2.1.trans hdv,q.2.2.trans hfl⟩) fun b o q n=>k4 b o ((ot b (nr b o q n)).trans q) n
theorem Q3r {head:aB} {nx:Bool} (fr:A.frames=some (en :: ou)) (ff:s.heap.FunFrames bs (en :: ou)) (ef:en.frame=some L) (oe:s.heap.get? e=some ob) (kb:bs.StaysIn s.heap) (ne:bs.get? e=none)
  (od:ob.data=.fields vs) (z1:1 < vs.size) (z0:vs[0]?=some a0)
  (h:∀ h',Heap.NotedW bs (en :: ou) e ob.cls a0 (aZ L) s.heap h'->(∃ o',h'.get? e=some o'/\o'.dict=ob.dict/\z9 o'=z9 ob)->Q () { s with heap:=h' }) :
  aI M A (do
   let a <- frameOf en
   let pl <- entryPlaceOf L nx
   let b <- EntryCells.newEntry head a .none (aZ L) .none pl
   setField (.ref e) 1 b) Q E s:=by
 have nf:e∉(en :: ou).filterMap (·.frame):=fun m=>by
  obtain ⟨_,o,q,n⟩:=ff.mem m;rw [oe] at q;cases q;exact n vs od
 refine aD (wpAny_frameOf_fun fr ff ef fun g gs=>?_);refine aD (wpAny_entryPlaceOf fun pl hp=>?_);unfold EntryCells.newEntry newFields;refine aD (aw ?_ (hp.sizeOk5 _ _ _ _ _));have ge:g.get? e=some ob:=(gs.2.1 e nf).trans oe;have gb:bs.StaysIn g:=fun b o q=>(gs.2.1 b fun m=>by
  rw [(ff.mem m).1] at q;cases q).trans (kb b o q)
 obtain ⟨tb,etb⟩:∃ tb:List aB,[head,.ref L,.none,aZ L,.none] ++ (if pl.isEmpty then List.replicate 6 Value.none else pl)=tb:=⟨_,rfl⟩;have l5:3 < tb.length/\tb[3]?=some (aZ L):=by
  rw [<- etb];exact ⟨by simp,by simp⟩
 rw [etb];have ge2:=O0 (h:=g) { cls:=.type "traceback",dict:=none,data:=.fields tb.toArray } ge;have te:g.objs.size≠e:=Nat.ne_of_gt (O8 ge);have d3:=Obj.data_mapFields od (·.setIfInBounds 1 (Value.ref g.objs.size));have ge3:=L8 (Obj.mapFields (·.setIfInBounds 1 (Value.ref g.objs.size))) ge2 (Obj.isFreed_of_fields d3);have gt3:=(F3 (g.push { cls:=.type "traceback",dict:=none,data:=.fields tb.toArray })
  (Obj.mapFields (·.setIfInBounds 1 (Value.ref g.objs.size))) te.symm).trans
  (D6 g rfl)
 refine wpAny_setField ge2 od z1 (h _ ?_ ?_)
 ·have kp:∀ b o,b≠e->g.get? b=some o->((g.push { cls:=.type "traceback",dict:=none,data:=.fields tb.toArray }).update e (Obj.mapFields (·.setIfInBounds 1 (Value.ref g.objs.size)))).get? b=some o:=fun b o n q=>by
   rw [F3 _ _ n.symm];exact O0 _ q
  have nr:∀ b o,s.heap.get? b=some o->(∀ ws,o.data≠.fields ws)->b≠e:=fun b o q n z=>by
   rw [z,oe] at q;cases q;exact n vs od
  refine ⟨fun b o q=>kp b o (fun z=>by rw [z,ne] at q; cases q) (gb b o q),ff.of_keeps fun b o q n=>?_,?_,fun b o q n=>?_⟩
  ·obtain ⟨sl,z⟩:=gs.2.2 b o q;exact ⟨_,kp b _ (nr b o q n) z,rfl⟩
  ·refine ⟨_,_,g.objs.size,_,_,ge3,⟨Obj.cls_mapFields _ _,?_⟩,d3,by simp [z1],gb.fresh,te,gt3,rfl,by simpa using l5.2⟩;rw [Array.getElem?_setIfInBounds_ne (by decide)];exact z0
  ·obtain ⟨sl,z⟩:=gs.2.2 b o q;exact ⟨sl,kp b _ (nr b o q n) z⟩
 ·refine ⟨_,ge3,?_,Qbe od⟩;cases ob with
  | mk c d dt sl=>cases dt <;> first | rfl | cases od
theorem Q7u {cls:aB} {dv:Option aA} (fr:A.frames=some (en :: ou)) (ef:en.frame=some L) (fl:Heap.FlyingW bs (en :: ou) e cls a0 s.heap) (dd:∃ o',s.heap.get? e=some o'/\o'.dict=dv/\z9 o'=some .none)
  (h:∀ h',Heap.HeldW bs (en :: ou) e cls a0 L h'->(∃ o',h'.get? e=some o'/\o'.dict=dv/\z9 o'=some .none)->s.heap.UpToSlots h'->Q () { s with heap:=h' }):aI M A (noteFrame (.ref e) en) Q E s:=by
 obtain ⟨kb,ne,ff,oe,ws,T,oT,ts,he,⟨hc,z0⟩,od,z1,nT,Te,hT,dT,z3⟩:=fl;obtain ⟨o',ho',hdv,hfl⟩:=dd;rw [he] at ho';cases ho';unfold noteFrame;simp only [ef];refine aD (aX he od z1 ?_);rw [bM (show (Value.ref T != Value.none)=true by simp)];refine aD (aX hT dT z3 ?_);rw [bN (show ¬ ((Value.none == aZ L)=true) by simp [aZ])];refine aD (wpAny_setField hT dT (Array.getElem?_eq_some_iff.mp z3).1 ?_);have ot:∀ b,b≠T->(s.heap.update T (Obj.mapFields (·.setIfInBounds 3 Value.none))).get? b=s.heap.get? b:=fun b n=>F3 _ _ n.symm
 have nr:∀ b o,s.heap.get? b=some o->(∀ ws,o.data≠.fields ws)->b≠T:=fun b o q n z=>by
  rw [z,hT] at q;cases q;exact n ts dT
 refine Q3r fr (ff.of_keeps fun b o q n=>⟨o,(ot b (nr b o q n)).trans q,rfl⟩) ef ((ot e Te.symm).trans he) (fun b o q=>(ot b fun z=>by rw [z,nT] at q; cases q).trans (kb b o q)) ne od (Array.getElem?_eq_some_iff.mp z1).1 z0 fun h' nt d'=>?_
 obtain ⟨k1,k2,k3,k4⟩:=nt;rw [hc] at k3;exact h h' ⟨k1,ne,k2,k3⟩ (d'.imp fun o q=>⟨q.1,q.2.1.trans hdv,q.2.2.trans hfl⟩) fun b o q n=>k4 b o ((ot b (nr b o q n)).trans q) n
theorem j6 {l:List Env} {cls fv:aB} {dv:Option aA} (kb:bs.StaysIn s.heap) (ne:bs.get? e=none) (ff:s.heap.FunFrames bs l) (tr:s.heap.TracedAtW bs e cls a0 fv) (dd:∃ o',s.heap.get? e=some o'/\o'.dict=dv/\z9 o'=some .none)
  (h:∀ h',Heap.FlyingW bs l e cls a0 h'->(∃ o',h'.get? e=some o'/\o'.dict=dv/\z9 o'=some .none)->s.heap.UpToSlots h'->Q () { s with heap:=h' }):aI M A (setFlight (.ref e) none) Q E s:=by
 obtain ⟨oe,ws,T,oT,ts,he,hc,od,z1,nT,Te,hT,dT,z3⟩:=tr;obtain ⟨o',ho',hdv,hfl⟩:=dd;have s3:=(Array.getElem?_eq_some_iff.mp z3).1;have ot:∀ b,b≠T->(s.heap.update T (Obj.mapFields (·.setIfInBounds 3 ((none:Option aA).elim Value.none fun f=>aZ f)))).get? b=s.heap.get? b:=fun b n=>F3 _ _ n.symm
 have nr:∀ b o,s.heap.get? b=some o->(∀ ws,o.data≠.fields ws)->b≠T:=fun b o q n z=>by
  rw [z,hT] at q;cases q;exact n ts dT
 unfold setFlight;refine aD (aX he od z1 ?_);rw [bM (show (Value.ref T != Value.none)=true by simp)];refine wpAny_setField hT dT s3 (h _ ⟨fun b o q=>(ot b fun z=>by rw [z,nT] at q; cases q).trans (kb b o q),ne,ff.of_keeps fun b o q n=>⟨o,(ot b (nr b o q n)).trans q,rfl⟩,?_⟩ ⟨o',(ot e Te.symm).trans ho',hdv,hfl⟩ fun b o q n=>⟨o.slots,(ot b (nr b o q n)).trans q⟩)
 exact ⟨oe,ws,T,_,_,(ot e Te.symm).trans he,hc,od,z1,nT,Te,L8 _ hT (Obj.isFreed_of_fields (Obj.data_mapFields dT _)),Obj.data_mapFields dT _,by simp [s3]⟩
end
end PySem
namespace L2
open PySem PySem.Spec PyProof.Rows
variable {X:Cx} {H H1:Hp} {a b C:aA} {σ:St} {e:aF} {fd:aO} {ps:List Str}
def CXD (P:aP) (w:aN):CXT:=fun outer H s E e s'=>∃ a cls a0 dv H' B,e=Value.ref a/\Fly P w outer H H' s s' a cls a0 B/\(∃ o',s'.heap.get? a=some o'/\o'.dict=dv/\z9 o'=some .none)/\E cls dv H'
theorem Qng {P:aP} {w:aN} :Xr (CXD P w) X E0:=fun _ _ _ _ _ _ _ h=>by
 obtain ⟨_,_,_,_,_,_,_,_,_,z⟩:=h;exact z.elim
def Q9q (H:Hp) (a:aA):Hp:=fun b=>if b=a then none else H b
theorem Q46 (h:b≠a):Q9q H a b=H b:=by unfold Q9q; rw [bN h]
theorem Q0n :Q9q H a a=none:=by unfold Q9q; rw [bM rfl]
theorem Inv.drop {pins:List (aA × Obj)} {s:aC} {φ:Heap->Prop} (I:Inv X pins σ H s) (h:H a=some (.ext φ)):Inv X pins σ (Q9q H a) s:=by
 have nn:∀ b,H b=none->Q9q H a b=none:=fun b e=>by
  by_cases z:b=a
  ·subst z; exact Q0n
  ·rw [Q46 z]; exact e
 have ss:∀ b o,H b=some o->o≠.ext φ->Q9q H a b=some o:=fun b o e n=>by
  rw [Q46 fun z=>?_]
  ·exact e
  ·subst z; rw [h] at e; exact n (Option.some.inj e).symm
 refine ⟨I.ok,I.os,I.bare,?_,I.loc,I.cell,nn _ I.free,fun x c e=>nn _ (I.freeC x c e),fun p hp=>?_,fun b u q=>?_,I.len⟩
 ·have u:=I.base;exact ⟨u.keep,u.slot,fun b o e n hx=>nn _ (u.free b o e n hx),u.there,fun b xs e=>ss _ _ (u.tups b xs e) (by simp),fun b o v e=>ss _ _ (u.frzs b o v e) (by simp),fun b ps e=>by
   obtain ⟨more,q⟩:=u.tbls b ps e;exact ⟨more,ss _ _ q (by simp)⟩⟩
 ·obtain ⟨e,n,ne,nf,d⟩:=I.pin p hp;exact ⟨e,nn _ n,ne,nf,d⟩
 ·by_cases z:b=a
  ·subst z; rw [Q0n] at q; cases q
  ·rw [Q46 z] at q;exact (I.hok b u q).stay (fun _ _ _ r=>r) (fun c r=>ss _ _ r (by simp)) fun c ts r=>ss _ _ r (by simp)
variable {P:aP} {K:PySem.W.Frag} {mg:Str->Option aB} {base:Heap} {N:List Str} {qual:Str} {scope:Scope} {f:aA} {cd:aB} {A:aQ} {outer:List Env} {s:aC} {H:Hp} {E:XK}
section
variable {w:aN}
abbrev cxD (P:aP) (w:aN) (K:PySem.W.Frag) (mg:Str->Option aB) (base:Heap) (N:List Str) (qual:Str) (scope:Scope) (f:aA) (cd:aB) (A:aQ) (outer:List Env) (s:aC) (H:Hp) (E:XK):Cx:=Qd2 (CXD P w) P w K mg base N qual scope f cd A outer s H E
theorem Q8m {pins:List (aA × Obj)} {s1:aC} (I:Inv (cxD P w K mg base N qual scope f cd A outer s H E) pins σ H1 s1) {o:Obj} (e:s.heap.get? b=some o) (n:b∉frs outer):b∉frs (cxD P w K mg base N qual scope f cd A outer s H E).stack:=fun hb=>by
 rcases E7.mp (I.stkSub b hb) with z | z
 ·have h1:b < s.heap.objs.size:=O8 e;have h2:s.heap.objs.size<=(cxD P w K mg base N qual scope f cd A outer s H E).env.locals:=I.ok.above;rw [<- z] at h2;exact absurd (D1 h1 h2) (Nat.lt_irrefl _)
 ·exact n z
theorem Qjy (h:b∈frs outer):b∈frs (cxD P w K mg base N qual scope f cd A outer s H E).stack:=by
 show b∈frs (_ :: outer);unfold frs at h ⊢;rw [List.filterMap_cons]
 split
 ·exact h
 ·exact O6 _ h
theorem Qs9 {pins:List (aA × Obj)} {s1:aC} {hx:Heap} {e C t:aA} {dv:Option aA} (I:Inv (cxD P w K mg base N qual scope f cd A outer s H E) pins σ H1 s1)
  (hk:∀ b o,b≠e->s1.heap.get? b=some o->hx.get? b=some o) (he1:∀ o,s1.heap.get? e=some o->∃ vs,o.data=.fields vs) (new:s.heap.get? e=none) (hH:H1 e=none)
  (oe:hx.get? e=some { cls:=.ref C,dict:=dv,data:=.fields #[.ref t,.none,.none,.none,.bool false,.none] }) (hE:E (.ref C) dv H1) :
  (cxD P w K mg base N qual scope f cd A outer s H E).xe (.ref e) { s1 with heap:=hx }:=by
 have hin:∀ en∈(cxD P w K mg base N qual scope f cd A outer s H E).stack,∀ b,en.frame=some b->b∈e :: frs (cxD P w K mg base N qual scope f cd A outer s H E).stack:=fun en he b hb=>O6 _ (List.mem_filterMap.mpr ⟨en,he,hb⟩)
 have ff:=PySem.W.funFrames_hide I.stack hin;have nee:∀ b o,s1.heap.get? b=some o->(∀ vs,o.data≠.fields vs)->b≠e:=fun b o q n z=>by
  subst z;obtain ⟨vs,d⟩:=he1 o q;exact n vs d
 have hid:(PySem.W.hideAll s1.heap (e :: frs (cxD P w K mg base N qual scope f cd A outer s H E).stack)).get? e=none:=PySem.W.hideAll_none _ D3;have kb:(PySem.W.hideAll s1.heap (e :: frs (cxD P w K mg base N qual scope f cd A outer s H E).stack)).StaysIn hx:=fun b o q=>hk b o (fun z=>by rw [z,hid] at q; cases q) (PySem.W.of_hideAll _ q)
 show aI (aJ P w) _ (leaving _ (.ref e)) _ _ _;refine Qb7 (bs:=PySem.W.hideAll s1.heap (e :: frs (cxD P w K mg base N qual scope f cd A outer s H E).stack)) (a0:=.ref t) (s:={ s1 with heap:=hx }) I.ok.frames (ff.of_keeps fun b o q n=>⟨o,hk b o (nee b o q n) q,rfl⟩) rfl oe kb hid rfl rfl rfl fun h2 lf dd=>?_
 obtain ⟨k1,⟨_,_,k2⟩,k3,k4⟩:=lf;have noex:∀ b:aA,b∉(cxD P w K mg base N qual scope f cd A outer s H E).ex:=fun b z=>absurd (show b∈([]:List aA) from z) (by simp)
 have nse:∀ b o,s.heap.get? b=some o->b≠e:=fun b o q z=>by rw [z,new] at q; cases q
 have out:∀ b o,s.heap.get? b=some o->b∉frs outer->b∉e :: frs (cxD P w K mg base N qual scope f cd A outer s H E).stack:=fun b o q n m=>by
  rcases E7.mp m with z | z
  ·exact nse b o q z
  ·exact Q8m I q n z
 refine ⟨e,.ref C,.ref t,dv,H1,_,rfl,⟨I.os,I.bare,⟨k1,hid,k2,k3⟩,fun b u q=>?_,fun b o q n hb=>?_,fun b o q hb=>?_,fun b o q hb=>?_,fun b o q n=>I.base.free b o q n (noex b),I.base.tups,I.base.frzs,I.base.tbls⟩,dd,hE⟩
 ·have ne:∀ c v,H1 c=some v->c∉e :: frs (cxD P w K mg base N qual scope f cd A outer s H E).stack:=fun c v z m=>by
   rcases E7.mp m with m | m
   ·rw [m,hH] at z; cases z
   ·rw [I.stkFree c m] at z; cases z
  refine (I.hok b u q).stay (fun c v hc r=>PySem.W.hideAll_get _ r ?_) (fun _ r=>r) fun _ _ r=>r
  rcases hc with rfl | hc
  ·exact ne c u q
  ·exact ne c _ hc
 ·exact PySem.W.hideAll_get _ (I.base.keep b o q n hb (noex b)) (out b o q hb)
 ·obtain ⟨o',z⟩:=I.base.there b o q (noex b);exact ⟨o',PySem.W.hideAll_get _ z (out b o q hb)⟩
 ·obtain ⟨sl,z⟩:=I.base.slot b o q (I.ok.frf b hb) hb (noex b);obtain ⟨_,o',ho',hnf⟩:=I.ok.funs.mem hb;have ho2:s.heap.get? b=some o':=ho';rw [q] at ho2;cases ho2;obtain ⟨sl',z'⟩:=k4 b _ (hk b _ (nse b o q) z) hnf;exact ⟨sl',z'⟩
theorem Q1s:Xr (CXD P w) (cxD P w K mg base N qual scope f cd A outer s H E) E:=by
 intro pins σ H1 s1 e s' I h;obtain ⟨a,cls,a0,dv,H',B,rfl,F,dd,hE⟩:=h;show aI (aJ P w) _ (leaving _ (.ref a)) _ _ _;have noex:∀ b:aA,b∉(cxD P w K mg base N qual scope f cd A outer s H E).ex:=fun b z=>absurd (show b∈([]:List aA) from z) (by simp)
 refine Qb6 I.ok.frames rfl F.fl dd fun h2 x1 d2 x2=>?_
 refine ⟨a,cls,a0,dv,H',B,rfl,⟨F.os.trans I.os,F.bare,x1,F.hokB,fun b o q n hb=>?_,fun b o q hb=>?_,fun b o q hb=>?_,fun b o q n=>?_,fun b xs q=>F.tups b xs (I.base.tups b xs q),fun b o u q=>F.frzs b o u (I.base.frzs b o u q),fun b ps q=>?_⟩,d2,hE⟩
 ·exact F.keep b o (I.base.keep b o q n hb (noex b)) (I.base.free b o q n (noex b)) (Q8m I q hb)
 ·obtain ⟨o',z⟩:=I.base.there b o q (noex b);exact F.there b o' z (Q8m I q hb)
 ·obtain ⟨sl,z⟩:=I.base.slot b o q (I.ok.frf b hb) hb (noex b);obtain ⟨_,o',ho',hnf⟩:=I.ok.funs.mem hb;have ho2:s.heap.get? b=some o':=ho';rw [q] at ho2;cases ho2;obtain ⟨sl',z'⟩:=F.slot b _ z (Qjy hb);obtain ⟨sl2,z2⟩:=x2 b _ z' hnf;exact ⟨sl2,z2⟩
 ·obtain ⟨o',z⟩:=I.base.there b o q (noex b);exact F.free b o' z (I.base.free b o q n (noex b))
 ·obtain ⟨m1,e1⟩:=I.base.tbls b ps q;obtain ⟨m2,e2⟩:=F.tbls b _ e1;exact ⟨m1 ++ m2,by rw [e2,Array.append_assoc]⟩
end
variable {X:Cx}
def Q6e (X:Cx) (E:XK):Prop:=∀ (pins:List (aA × Obj)) (σ:St) (H0 H1:Hp) (s0 s1:aC) (hx:Heap) (e C t:aA) (dv:Option aA),Inv X pins σ H0 s0->s0.heap.get? e=none->Inv X pins σ H1 s1->(∀ b o,b≠e->s1.heap.get? b=some o->hx.get? b=some o) ->
 (∀ o,s1.heap.get? e=some o->∃ vs,o.data=.fields vs)->H1 e=none->hx.get? e=some { cls:=.ref C,dict:=dv,data:=.fields #[.ref t,.none,.none,.none,.bool false,.none] }->E (.ref C) dv H1->X.xe (.ref e) { s1 with heap:=hx }
theorem Qfe {x:Str} {t:TA} {np cpos pos:Pos} (hcalm:X.calm=true) (RO:Q6e X E) (hg:Gl X x) (hm:X.mg x=some (.ref C)) (q:PySem.W.excIn X.K C Vr "ValueError.__new__" = true) (ha:PA X [e] t)
  (hdb:(x == ("__debug__" : Str))=false:=by decide) (he:aM [e] X.env=[(false,aL e X.env)]:=by rfl):PS X (.Raise (some (.Call (.Name x np) [e] [] cpos)) none pos) (Qr7 C E t):=by
 intro pins s σ H D I h;obtain ⟨tl,N,nm,qn,bs,hdct,sn,sub,ab,col,dd,k0,k1,k2,k3,k5,mN,hC,hN,hni,T⟩:=(Qdr I.mod.kin hm q).obj;refine wpAny_Raise_call_subU (C:=C) (nm:=nm) (q:=qn) (N:=N) (bs:=bs) (bm:=tl) (hdct:=hdct) (sn:=sn) (sub:=sub) (ab:=ab) (col:=col) (dd:=dd) (k0:=k0) (k1:=k1) (k2:=k2) (k3:=k3) (k5:=k5)
  PySem.F.excBase_ValueError (by decide +kernel) PySem.F.excBase_ValueError (mN:=mN) (T.hasType (by decide +kernel)) (I.ok.hd hcalm) (by rw [he]; rfl) hni (Xy I hg hm ⟨rfl,?_⟩ hdb)
 have ha':=ha cpos pins s σ H _ I h;rw [he] at ha' ⊢;refine Calls.evalArgs_plain (ae ha' (fun us s1 ⟨vs,H1,I1,r,z,hE⟩=>?_) fun _ _ y=>y)
 refine ⟨rfl,by rw [<- r.length]; exact z,I1.bk _ _ hC,hN.keeps I1.bk,T.keeps I1.bk,fun h' e' hx=>?_⟩;obtain ⟨t,oe,_,_⟩:=hx.there;exact RO pins σ H1 H1 s1 s1 h' e' C t none I1 hx.new I1 (fun b o _ k=>hx.keeps b o k) (fun o k=>by rw [hx.new] at k; cases k) (I1.hok.none_of hx.new) oe hE
def Q4r (C:aA) (name:Str):Sp:=fun vs H Q _=>∃ (x:aA) (v:V),vs=[.ref x,v]/\H x=some (.ext (XO x C none))/\∀ dx,H dx=none->dx≠x->Q .non (upd (upd H x (.ext (XO x C (some dx)))) dx (.xd [(name,v)]))
def Qm2 (C:aA) (name:Str) (E:XK) (t:TA):TS:=fun _ σ H=>t σ H fun vs H1=>∃ v,vs=[v]/\∀ dx,H1 dx=none->E (.ref C) (some dx) (upd H1 dx (.xd [(name,v)]))
theorem Qfd {x name:Str} {W:aA} {k:Nat} {e:aF} {t:TA} {np cpos pos:Pos} (hcalm:X.calm=true) (RO:Q6e X E) (M:XMade X.K C W f) (G:FnOk X.prog X.w X.K X.mg X.base CX0 k f fd ps (Q4r C name)) (hr:Room (k + 1) X.A)
  (hb:Binds X.K fd ps []) (hg:Gl X x) (hm:X.mg x=some (.ref C)) (ha:PA X [e] t)
  (hdb:(x == ("__debug__" : Str))=false:=by decide) (he:aM [e] X.env=[(false,aL e X.env)]:=by rfl):PS X (.Raise (some (.Call (.Name x np) [e] [] cpos)) none pos) (Qm2 C name E t):=by
 intro pins s σ H D I h;obtain ⟨nm,q,N,bs,sn,sub,ab,col,dd,k0,k1,k2,k3,k5,lk⟩:=M.lk;obtain ⟨of,lf,cf⟩:=M.ff;have oC:∀ {H':Hp} {s':aC},Inv X pins σ H' s'->s'.heap.get? C=some (excClassObj nm q C N bs (.ref W :: Vr) true sn sub ab col dd k0 k1 k2 k3 k5 "ValueError.__new__"):=fun J=>J.kIn _ _ lk
 rw [arm_exec_Raise];refine aD (wpAny_standAt (Q6m (kC:=C) (cn:=nm) (cq:=q) (kN:=N) (bas:=bs) (tl:=.ref W :: Vr) (hd:=true) (sns:=sn) (subs:=sub) (abb:=ab) (coll:=col) (dic:=dd) (j0:=k0) (j1:=k1) (j2:=k2) (j3:=k3) (j5:=k5) (newI := "ValueError.__new__") (by simp) (I.ok.hd hcalm) ?_));refine aD (ae (wpAny_Call_Name_kw (Xy I hg hm (PySem.W.callWith_K (h₀:=X.base) (Q:=fun v s1=>∃ e t dv,v=.ref e/\s1.heap.get? C=some (excClassObj nm q C N bs (.ref W :: Vr) true sn sub ab col dd k0 k1 k2 k3 k5 "ValueError.__new__")/\s1.heap.get? e=some { cls:=.ref C,dict:=dv,data:=.fields #[.ref t,.none,.none,.none,.bool false,.none] }/\X.xe (.ref e) s1) I.ok.mod.kin M.kp (thn (ha cpos pins s σ H _ I h) fun us s1 ⟨vs,H1,I1,r,v,ev,hE⟩=>⟨I1.kIn,?_⟩) (by rw [he]; rfl) rfl) hdb)) (fun v s3 z=>aD (wpAny_standAt (wpAny_pure z))) fun _ _ z=>z)
 subst ev;obtain ⟨u,rfl,ru⟩:=r.one;obtain ⟨hp,gs,dr,tk,sy⟩:=s1;refine Qd4 (rest:=[u]) PySem.F.excBase_ValueError (by decide +kernel) PySem.F.excBase_ValueError (M.tail I1.kIn) (oC I1) I1.kIn M.fi (I1.kIn _ _ lf) cf (fun h' kp oe=>?_) (show 1<=sizeLine by decide);obtain ⟨a,ea⟩:∃ a,hp.objs.size + 1=a:=⟨_,rfl⟩;rw [ea] at oe ⊢;have la:hp.objs.size<=a:=by rw [<- ea]; exact Nat.le_succ _
 have na:H1 a=none:=I1.hok.fresh la;have ga:hp.get? a=none:=Heap.get?_none_of_le la;have I2:Inv X pins σ (upd H1 a (.ext (XO a C none))) ⟨h',gs,dr,tk,sy⟩:=I1.laid (t':=tk) (h':=h') kp la (Qh5 ⟨_,oe⟩);have sp:Q4r C name [.ref a,v] (upd H1 a (.ext (XO a C none))) (fun v' H'=>v'=.non/\∃ dx,H1 dx=none/\dx≠a/\H'=upd (upd (upd H1 a (.ext (XO a C none))) a (.ext (XO a C (some dx)))) dx (.xd [(name,v)])) E0:=
  ⟨a,v,rfl,Qz,fun dx hn hne=>⟨rfl,dx,by rwa [Q7 hne] at hn,hne,rfl⟩⟩
 have r2:Vals [V.ref a,v] [Value.ref a,u]:=.cons rfl (.cons ru .nil);have hl:([Value.ref a,u] ++ []).length=ps.length:=by
  have:=G.len _ _ _ _ sp;simpa using this
 refine wpAny_call (bG (G.run _ X.stack _ _ ⟨[Value.ref a,u],[]⟩ [Value.ref a,u] _ _ E0 (hr.make C [u] []) (I2.env0.make C [u] []) (hb _ [Value.ref a,u] I2.kIn hl) r2 sp) fun r s' z=>?_)
 cases r with
 | error e=>exact False.elim z
 | ok fl=>
  cases fl with
  | ret u'=>
   obtain ⟨v',H',I3,rv,ev,dx,hn,hne,eH⟩:=I2.after z;subst ev;obtain rfl:u'=Value.none:=rv;have hHa:H' a=some (.ext (XO a C (some dx))):=by rw [eH,Q7 (Ne.symm hne),Qz]
   obtain ⟨t2,o2⟩:=(I3.hok a _ hHa).1;have eD:Q9q H' a=upd H1 dx (.xd [(name,v)]):=by
    funext b
    by_cases zb:b=a
    ·rw [zb,Q0n,Q7 (Ne.symm hne),na]
    ·rw [Q46 zb,eH]
     by_cases zd:b=dx
     ·rw [zd,Qz,Qz]
     ·rw [Q7 zd,Q7 zd,Q7 zb,Q7 zb]
   refine ⟨rfl,a,t2,some dx,rfl,oC I3,o2,?_⟩;have:=RO pins σ H1 (Q9q H' a) _ s' s'.heap a C t2 (some dx) I1 ga (I3.drop hHa) (fun b o _ k=>k) (fun o k=>by rw [o2] at k; cases k; exact ⟨_,rfl⟩) Q0n o2 (by rw [eD]; exact hE dx hn);exact this
  | next=>exact False.elim z
  | brk=>exact False.elim z
  | cont=>exact False.elim z
theorem Qic {P:aP} {w:aN} {K:PySem.W.Frag} {mg:Str->Option aB} {base:Heap} {N:List Str} {qual:Str} {scope:Scope} {f:aA} {cd:aB} {A:aQ} {outer:List Env} {s:aC} {H:Hp} {E:XK} :
  Q6e (cxD P w K mg base N qual scope f cd A outer s H E) E:=fun pins σ H0 H1 s0 s1 hx e C t dv I0 g0 I hk he1 hH oe hE=>by
 refine Qs9 I hk he1 ?_ hH oe hE;cases q:s.heap.get? e with
 | none=>rfl
 | some o=>
  obtain ⟨o',z⟩:=I0.base.there e o q (fun z=>absurd (show e∈([]:List aA) from z) (by simp))
  rw [g0] at z; cases z
theorem Fun.okD {P:aP} {w:aN} {mg:Str->Option aB} {base:Heap} {x:Str} {st:aK} {k:Nat} {sp:Sp} (F:Fun K x qual st f fd) (S:FnScope N ps (Q5 st)) (len:∀ vs H Q E,sp vs H Q E->vs.length=ps.length)
  (hbody:∀ (cdv:aB) (A:aQ) (outer:List Env) (s:aC) (H:Hp) (vs:List V) (Q:VK) (E:XK),Room k (A.deeper (envOfC qual (Q5 st) s.heap.objs.size f cdv))->sp vs H Q E ->
   ∃ t,PSs (cxD P w K mg base N qual (Q5 st) f cdv A outer s H E) (Y2 st) t/\t { nx:=fun _ H'=>Q .non H',rt:=Q } (start N vs) H):FnOk P w K mg base (CXD P w) (k + 1) f fd ps sp:=by
 obtain ⟨oc,od,kV,doc,pm,an,cdv,ct,osl,rfl,lk,hcd⟩:=F.ex;exact Qqu lk hcd S len fun A outer s H vs Q E hr hsp=>hbody cdv A outer s H vs Q E hr hsp
end L2
namespace L2
open PySem PySem.Spec PyProof.Rows PySem.W PySem.Builtin.Getset_descriptor
variable {tk:Tok}
def IsXD (x C:aA) (dv:Option aA) (h:Heap):Prop:=∃ ox vs,h.get? x=some ox/\ox.cls=.ref C/\ox.dict=dv/\ox.data=.fields vs/\vs[2]?=some .none
theorem IsXD.x {x C:aA} {dv:Option aA} {h:Heap} (I:IsXD x C dv h):IsX x C h:=let ⟨ox,_,a,b,_⟩:=I; ⟨ox,a,b⟩
theorem Qed {P:aP} {w:aN} {H:Hp} {h:Heap} {a C:aA} {dv:Option aA} (I:IsXD a C dv h):ObjOk P w H h a (.ext (IsXD a C dv)):=
 ⟨I,(let ⟨o,_,e,_⟩:=I; ⟨o,e⟩),fun h1 h2 ⟨o,vs,e,c⟩ k=>⟨o,vs,k o e,c⟩⟩
structure XGet (K:Frag) (C:aA) (name:Str):Prop where
 xc:XCls K C
 hd:∃ cd,clsIn K C=some cd/\cd.hasDict=true
 no:findIn K (.ref C) name=some none
variable {prog:aP} {A:aQ} {E:aB->aC->Prop} {g:Array GenState} {os:OsState} {K:Frag} {C dx:aA} {name:Str} {v:aB} {m:Str->Option aB}
section
variable {w:aN} {h:Heap} {d:Drawn} {t:Nat} {x:aA}
theorem Qkv {M:Model} (X:K.In h) (F:XGet K C name) (I:IsXD x C (some dx) h) (n:h.Ns1 dx m) (hv:m name=some v):Looks M h (Builtin.ObjectAttr.find (.ref x) (.ref C) name) (.value v):=by
 obtain ⟨ox,vs,e1,e2,e3,e4,_⟩:=I;obtain ⟨od,ho,hl⟩:=Q7v n;obtain ⟨cd,hc,hd⟩:=F.hd;have J:InstAt h x ox C (some od):=⟨e1,e2,by unfold notCls; rw [e4],by rw [e3]; exact ho⟩;have L1:=looks_findIn (M:=M) X F.no;have L2:Looks M h (Builtin.ObjectAttr.getOf none) none:=.now;have L3:Looks M h (Builtin.ObjectAttr.dataDescriptor? none none) none:=.now;have L4:Looks M h (Builtin.ObjectAttr.inOwnDict name (.ref x)) (some v):=looks_own X J hc (by unfold PySem.W.ownOf; rw [hd,bM rfl]; show lookIn name od=_; rw [hl,hv]);exact L1.andThen (L2.andThen (L3.andThen (L4.andThen (Looks.tag .now))))
theorem Qh6 {tk:Tok} {Q:Fin->aC->Prop} (X:K.In h) (F:XGet K C name) (I:IsXD x C (some dx) h) (n:h.Ns1 dx m) (hv:m name=some v) (hq:Q (.done (.ret v)) ⟨h,g,d,t,os⟩) :
  aI (aJ prog w) A (Builtin.«object.__getattribute__» ⟨[.ref x,.str name tk],[]⟩) Q E ⟨h,g,d,t,os⟩:=by
 have L0:=I.x.type (M:=aJ prog w);have L1:=Qkv (M:=aJ prog w) X F I n hv;unfold Builtin.«object.__getattribute__»;refine aD (wpAny_pure ?_);refine aD (wpAny_pure ?_);refine aD (L0.at (aD (L1.at ?_)));exact wpAny_pure hq
theorem Qkw {tk:Tok} {R:Result->aC->Prop} (X:K.In h) (F:XGet K C name) (I:IsXD x C (some dx) h) (n:h.Ns1 dx m) (hv:m name=some v) (hq:R (.ok (.ret v)) ⟨h,g,d,t,os⟩) :
  codeAny (aJ prog w) A (.call (.builtin "BaseException.__getattribute__") ⟨[.ref x,.str name tk],[]⟩) R ⟨h,g,d,t,os⟩:=
 codeAny_call_builtin PySem.F.attr_ValueError.ga.plain PySem.F.entry_bexc_ga (Qh7 X F.xc I.x (Qh6 X F I n hv hq))
theorem Qkx {expr:Bool} {Q:aB->aC->Prop} (X:K.In h) (F:XGet K C name) (I:IsXD x C (some dx) h) (n:h.Ns1 dx m) (hv:m name=some v) (hh:handedIn v=true) (hq:Q v ⟨h,g,d,t + 1,os⟩):aI (aJ prog w) A (getAttr (.ref x) name expr) Q E ⟨h,g,d,t,os⟩:=by
 have L0:=I.x.type (M:=aJ prog w);have L1:=looks_findIn (M:=aJ prog w) X F.xc.ga;have L2:=looks_findIn (M:=aJ prog w) X F.xc.gt;have hx2:(Value.builtin "BaseException.__getattribute__" == Value.builtin "object.__getattribute__")=false:=by decide +kernel
 have hx1:(onTheHeap (Value.ref C) && Value.builtin "BaseException.__getattribute__" == Value.builtin "object.__getattribute__")=false:=by rw [hx2]; rfl
 have hx3:(expr && onTheHeap (Value.builtin "BaseException.__getattribute__"))=false:=by rw [show onTheHeap (Value.builtin "BaseException.__getattribute__")=false from rfl,Bool.and_false]
 have f3:=PySem.F.attr_ValueError.ga.bind (.ref x);have ho:=handedOut_of hh;unfold getAttr getAttrBy;refine aD (wpAny_mkText (bB (aD (L0.at (aD (L1.at ?_))))))
 repeat (any_goals (first | assumption | with_reducible refine L2.at ?_ | wp_step))
 refine Qkw X F I n hv ?_;dsimp only;rw [ho];exact wpAny_pure hq
end
variable {X:Cx}
def tXF (K:Frag) (name:Str) (ta:TE):TE:=fun σ H Q=>ta σ H fun v H1=>∃ (a C dx:aA) (i:Int) (fs:List (Str × V)),v=.ref a/\H1 a=some (.ext (IsXD a C (some dx)))/\H1 dx=some (.xd fs)/\fs.lookup name=some (.int i)/\XGet K C name/\Q (.int i) H1
theorem Qn9 {e:aF} {ta:TE} {pos:Pos} (K:Frag) (he:PE X e ta) (hb:ai e name X.env (aL e X.env)=aL e X.env:=by rfl) (hK:X.K=K:=by rfl):PE X (.Attribute e name pos) (tXF K name ta):=by
 subst hK;intro pins s σ H Q I h;refine Qep hb (thn (he pins s σ H _ I h) fun u s1 ⟨v,H1,I1,rx,a,C,dx,i,fs,ev,ha,hd,hl,G,q⟩=>?_)
 subst ev;obtain rfl:u=Value.ref a:=rx;obtain ⟨mA,n,r⟩:=I1.hok dx _ hd;have rn:=r name;rw [hl] at rn;cases em:mA name with
 | none=>rw [em] at rn; exact False.elim rn
 | some y=>
  rw [em] at rn;obtain ⟨tk,rfl⟩:∃ tk,y=.int i tk:=rn;obtain ⟨hp,gs,dr,tk1,sy⟩:=s1;exact Qkx I1.kIn G (I1.hok a _ ha).1 n em rfl ⟨.int i,H1,I1.tok _,⟨_,rfl⟩,q⟩
end L2
namespace L2
open PySem PySem.Spec PyProof.Rows
variable {X:Cx}
theorem Qq2 {CX:CXT} {f:aA} {fd:aO} {k:Nat} {ps:List Str} {sp:Sp} {g:Str} {p cpos:Pos} {e:aF} {es:List aF} {ta:TA} {pins:List (aA × Obj)} {σ:St} {H:Hp} {s:aC} {E1:aB->aC->Prop} {Qv:VK} {Ex:XK}
  (F:FnOk X.prog X.w X.K X.mg X.base CX k f fd ps sp) (hr:Room k X.A) (hm:X.mg g=some (.ref f)) (hkp:PySem.W.keepIn X.K (.ref f)=true) (hb:Binds X.K fd ps []) (ha:PA X.nox (e :: es) ta) (hg:Gl X g)
  (I:Inv X pins σ H s) (h:ta σ H fun vs H1=>sp vs H1 Qv Ex) (hE:∀ H1 s1 v s',Inv X pins σ H1 s1->CX X.stack H1 s1 Ex v s'->E1 v s')
  (hdb:(g == ("__debug__" : Str))=false) (he:aM (e :: es) X.env=(false,aL e X.env) :: aM es X.env) (hpl:(aS cpos (aM es X.env)).any (·.1)=false) :
  aI (aJ X.prog X.w) X.A (aL (.Call (.Name g p) (e :: es) [] cpos) X.env) (EP X pins σ Qv) E1 s:=by
 refine wpAny_Call_Name_kw (Xy I hg hm ?_ hdb);refine PySem.W.callWith_K (h₀:=X.base) I.ok.mod.kin hkp (ae (ha cpos pins s σ H _ (I.wish _) h) (fun us s1 ⟨vs,H1,I1,r,q⟩=>⟨I1.unwish.kIn,?_⟩) fun _ _ z=>z.elim) he hpl
 have I1':=I1.unwish;have hl:us.length=ps.length:=by rw [<- r.length]; exact F.len _ _ _ _ q
 have hb':=hb s1 us I1'.kIn (by rw [G9]; exact hl);rw [G9] at hb';refine wpAny_call (bG (F.run X.A X.stack s1 H1 ⟨us,[]⟩ us vs Qv Ex hr I1'.env0 hb' r q) fun rr s' hq=>?_)
 cases rr with
 | error v=>exact hE H1 s1 v s' I1' hq
 | ok fl=>
  cases fl with
  | ret u=>exact I1'.after hq
  | next=>exact False.elim hq
  | brk=>exact False.elim hq
  | cont=>exact False.elim hq
end L2
namespace L2
open PySem PySem.Spec PyProof.Rows PySem.W PySem.Builtin.Getset_descriptor
variable {cn:Str} {CC:aA} {B:Heap} {dv:Option aA} {ts:TS} {D:Ends}
variable {X:Cx} {pins:List (aA × Obj)} {σ:St} {H H':Hp} {s s':aC} {a C:aA}
theorem Qpq {cn n:Str} {i:Nat} {CC:aA} {a0:aB} {B:Heap} {dv:Option aA} {np hpos:Pos} {b₀:aK} {suite:List aK} {ts:TS} {D:Ends} (hN:X.N.Nodup) (hi:X.N[i]?=some n) (hk:X.env.scope.names.lookup n=some .local) (hex:∀ b,b∉X.ex)
  (hst:X.stack=X.env :: X.outer) (hfr:X.env.frame=some X.env.locals) (hg:Gl X cn) (hm:X.mg cn=some (.ref CC)) (hx:exmOne X.K (.ref C) (.ref CC)=some true) (I:Inv X pins σ H s) (F:Fly X.prog X.w X.stack H H' s s' a (.ref C) a0 B) (dd:∃ o',s'.heap.get? a=some o'/\o'.dict=dv/\z9 o'=some .none)
  (hsuite:PSs (Us X a) (b₀ :: suite) ts) (q:ts { nx:=fun σ2 H2=>D.nx (σ2.set i none) H2,rt:=D.rt } (σ.set i (some (.ref a))) (upd H' a (.ext (IsXD a C dv)))) (hdb:(cn == ("__debug__" : Str))=false:=by decide) :
  aI (aJ X.prog X.w) X.A (noteFrame (.ref a) X.env) (fun _ s₂=>aI (aJ X.prog X.w) X.A (setFlight (.ref a) none) (fun _ s₃=>aI (aJ X.prog X.w) X.A (handleBy (.ref a) X.env [.ExceptHandler (some (.Name cn np)) (some n) (b₀ :: suite) hpos]) (SP X pins D) X.xe s₃) X.xe s₂) X.xe s':=by
 have hcls:(X.env.scope.kind == .class || (X.env.scope.kind == .module && X.env.locals != X.env.globals))=false:=by rw [I.ok.kind]; rfl
 have fl0:=F.fl;rw [hst] at fl0;refine Q7u (by rw [<- hst]; exact I.ok.frames) hfr fl0 dd fun h4 held4 d4 sm4=>?_
 refine j6 (s:={ s' with heap:=h4 }) held4.1 held4.2.1 held4.2.2.1 held4.2.2.2 d4 fun h5 fl5 d5 sm5=>?_
 obtain ⟨n1,n2⟩:=F.new;have I5:Inv X pins σ H' { s' with heap:=h5 }:=F.inv I fl5.1 (sm4.trans sm5);obtain ⟨ob,hob,hobc⟩:=fl5.there;have LT:Looks (aJ X.prog X.w) h5 (typeOf (.ref a)) (.ref C):=IsX.type ⟨ob,hob,hobc⟩;refine wpAny_handleBy_cons (codeAny_handlers_test (Xy (X:=Us X a) (I5.suite a) hg hm ?_ hdb)) (by intro z; cases z);refine (exm_one (h:=h5) I5.kIn LT hx).at ?_;refine codeAny_handlers_suite_as ?_;refine j6 (s:={ s' with heap:=h5 }) fl5.1 fl5.2.1 fl5.2.2.1 fl5.2.2.2.at d5 fun h6 fl6 d6 sm6=>?_
 have I6:Inv X pins σ H' { s' with heap:=h6 }:=F.inv I fl6.1 ((sm4.trans sm5).trans sm6);obtain ⟨ob6,vs6,hob6,hobc6,hod6,_⟩:=fl6.first;obtain ⟨o',ho',hd',hf'⟩:=d6;rw [hob6] at ho';cases ho';have I7:Inv X pins σ (upd H' a (.ext (IsXD a C dv))) { s' with heap:=h6 }:=Inv.track I hex n1 I6 n2 (Qed ⟨ob6,vs6,hob6,hobc6,hd',hod6,by unfold z9 at hf'; rw [hod6] at hf'; exact hf'⟩);refine Q4n (X:=Us X a) (v:=.ref a) (I7.suite a) hN hi (.inl hk) rfl (fun s8 I8=>?_) (.inr hk);refine ae (hsuite pins s8 _ _ _ I8 q) (fun f s9 h9=>?_) fun _ _ z=>z.elim
 cases f with
 | next=>
  obtain ⟨σ9,H9,I9,q9⟩:=h9;have I9':=I9.unsuite I.ok;obtain ⟨m,hn,hl⟩:=id I9'.loc;exact wpAny_nameGoes_keeps hk hn hcls fun h10 v hn' hs'=>⟨_,_,I9'.forget hN hi hl hn' hs',q9⟩
 | brk=>obtain ⟨_,_,_,z⟩:=h9; exact z.elim
 | cont=>obtain ⟨_,_,_,z⟩:=h9; exact z.elim
 | ret u=>
  obtain ⟨v9,σ9,H9,I9,r9,q9⟩:=h9;have I9':=I9.unsuite I.ok;obtain ⟨m,hn,hl⟩:=id I9'.loc;exact wpAny_nameGoes_keeps hk hn hcls fun h10 v hn' hs'=>⟨v9,_,_,I9'.forget hN hi hl hn' hs',r9,q9⟩
def Qv4 (sp:Sp) (ta:TA) (i:Nat) (ok:aB->aA->Prop) (ts:TS) (set:V->St->St):TS:=fun D σ H=>ta σ H fun vs H1=>sp vs H1 (fun v H2=>D.nx (set v σ) H2)
 (fun c dv H2=>∃ C,c=.ref C/\ok c C/\∀ a,H2 a=none->ts { nx:=fun σ3 H3=>D.nx (σ3.set i none) H3,rt:=D.rt } (σ.set i (some (.ref a))) (upd H2 a (.ext (IsXD a C dv))))
theorem Qii {f:aA} {fd:aO} {k:Nat} {ps:List Str} {sp:Sp} {g cn n:Str} {i:Nat} {CC:aA} {p cpos epos np hpos pos:Pos} {e:aF} {es:List aF} {ta:TA} {b₀:aK} {suite:List aK} {ts:TS}
  (F:FnOk X.prog X.w X.K X.mg X.base (CXD X.prog X.w) k f fd ps sp) (hr:Room k X.A) (hm:X.mg g=some (.ref f)) (hkp:PySem.W.keepIn X.K (.ref f)=true) (hb:Binds X.K fd ps []) (ha:PA X.nox (e :: es) ta)
  (hN:X.N.Nodup) (hi:X.N[i]?=some n) (hk:X.env.scope.names.lookup n=some .local) (hsuite:∀ a,PSs (Us X a) (b₀ :: suite) ts) (hcm:X.mg cn=some (.ref CC))
  (hg:Gl X g:=by rfl) (hgc:Gl X cn:=by rfl) (hex:∀ b,b∉X.ex:=by intro b z; exact absurd (show b∈([]:List aA) from z) (by simp)) (hst:X.stack=X.env :: X.outer:=by rfl) (hfr:X.env.frame=some X.env.locals:=by rfl)
  (hdb:(g == ("__debug__" : Str))=false:=by decide) (hdbc:(cn == ("__debug__" : Str))=false:=by decide) (he:aM (e :: es) X.env=(false,aL e X.env) :: aM es X.env:=by rfl) (hpl:(aS cpos (aM es X.env)).any (·.1)=false:=by rfl)
  (hsw:swapsWith (.Call (.Name g p) (e :: es) [] cpos) none epos.line X.env=pure false:=by rfl) :
  PS X (.Try [.Expr (.Call (.Name g p) (e :: es) [] cpos) epos] [.ExceptHandler (some (.Name cn np)) (some n) (b₀ :: suite) hpos] [] [] pos) (Qv4 sp ta i (fun c _=>PySem.W.exmOne X.K c (.ref CC)=some true) ts (fun _ σ=>σ)):=by
 intro pins s σ H D I h;refine wpAny_Try_except (wpAny_execs_cons (wpAny_Expr_any (thn (Qq2 F hr hm hkp hb ha hg I h ?_ hdb he hpl) fun v s1 ⟨x,H1,I1,r1,q1⟩=>wpAny_execs_nil (wpAny_execs_nil ⟨σ,H1,I1,q1⟩)) I.quiet hsw))
 intro H1 s1 v s' I1 hx;obtain ⟨a,cls,a0,dv,H',B,rfl,Fl,dd,C,rfl,hok,q⟩:=hx;exact Qpq hN hi hk hex hst hfr hgc hcm hok I1 Fl dd (hsuite a) (q a Fl.new.2) hdbc
theorem Qpr {cn:Str} {CC:aA} {a0:aB} {B:Heap} {dv:Option aA} {np hpos:Pos} {b₀:aK} {suite:List aK} {ts:TS} {D:Ends} (hN:X.N.Nodup) (hex:∀ b,b∉X.ex)
  (hst:X.stack=X.env :: X.outer) (hfr:X.env.frame=some X.env.locals) (hg:Gl X cn) (hm:X.mg cn=some (.ref CC)) (hx:PySem.W.exmOne X.K (.ref C) (.ref CC)=some true) (I:Inv X pins σ H s) (F:Fly X.prog X.w X.stack H H' s s' a (.ref C) a0 B) (dd:∃ o',s'.heap.get? a=some o'/\o'.dict=dv/\z9 o'=some .none)
  (hsuite:PSs (Us X a) (b₀ :: suite) ts) (q:ts { nx:=fun σ2 H2=>D.nx σ2 H2,rt:=fun _ _=>False } σ (upd H' a (.ext (IsXD a C dv)))) (hdb:(cn == ("__debug__" : Str))=false:=by decide) :
  aI (aJ X.prog X.w) X.A (noteFrame (.ref a) X.env) (fun _ s₂=>aI (aJ X.prog X.w) X.A (setFlight (.ref a) none) (fun _ s₃=>aI (aJ X.prog X.w) X.A (handleBy (.ref a) X.env [.ExceptHandler (some (.Name cn np)) none (b₀ :: suite) hpos]) (SP X pins D) X.xe s₃) X.xe s₂) X.xe s':=by
 have hcls:(X.env.scope.kind == .class || (X.env.scope.kind == .module && X.env.locals != X.env.globals))=false:=by rw [I.ok.kind]; rfl
 have fl0:=F.fl;rw [hst] at fl0;refine Q7u (by rw [<- hst]; exact I.ok.frames) hfr fl0 dd fun h4 held4 d4 sm4=>?_
 refine j6 (s:={ s' with heap:=h4 }) held4.1 held4.2.1 held4.2.2.1 held4.2.2.2 d4 fun h5 fl5 d5 sm5=>?_
 obtain ⟨n1,n2⟩:=F.new;have I5:Inv X pins σ H' { s' with heap:=h5 }:=F.inv I fl5.1 (sm4.trans sm5);obtain ⟨ob,hob,hobc⟩:=fl5.there;have LT:Looks (aJ X.prog X.w) h5 (typeOf (.ref a)) (.ref C):=IsX.type ⟨ob,hob,hobc⟩;refine wpAny_handleBy_cons (codeAny_handlers_test (Xy (X:=Us X a) (I5.suite a) hg hm ?_ hdb)) (by intro z; cases z);refine (exm_one (h:=h5) I5.kIn LT hx).at ?_;refine codeAny_handlers_suite ?_;refine j6 (s:={ s' with heap:=h5 }) fl5.1 fl5.2.1 fl5.2.2.1 fl5.2.2.2.at d5 fun h6 fl6 d6 sm6=>?_
 have I6:Inv X pins σ H' { s' with heap:=h6 }:=F.inv I fl6.1 ((sm4.trans sm5).trans sm6);obtain ⟨ob6,vs6,hob6,hobc6,hod6,_⟩:=fl6.first;obtain ⟨o',ho',hd',hf'⟩:=d6;rw [hob6] at ho';cases ho';have I7:Inv X pins σ (upd H' a (.ext (IsXD a C dv))) { s' with heap:=h6 }:=Inv.track I hex n1 I6 n2 (Qed ⟨ob6,vs6,hob6,hobc6,hd',hod6,by unfold z9 at hf'; rw [hod6] at hf'; exact hf'⟩);refine ae (hsuite pins _ _ _ _ (I7.suite a) q) (fun f s9 h9=>?_) fun _ _ z=>z.elim
 cases f with
 | next=>
  obtain ⟨σ9,H9,I9,q9⟩:=h9;exact ⟨_,_,I9.unsuite I.ok,q9⟩
 | brk=>obtain ⟨_,_,_,z⟩:=h9; exact z.elim
 | cont=>obtain ⟨_,_,_,z⟩:=h9; exact z.elim
 | ret u=>obtain ⟨_,_,_,_,_,z⟩:=h9; exact z.elim
end L2
namespace L2
open PySem PySem.Spec PyProof.Rows PySem.SeqAt
variable {X:Cx}
def Qr8 (val:Str->V) (te:TE):TE:=fun σ H Q=>te σ H fun y H1=>∃ w,y=.str w/\Q (val w) H1
theorem Qan {n:Str} {a:aA} {o:Obj} {es:Array DictEntry} {ep:Nat} {val:Str->V} {e:aF} {te:TE} {p apos cpos:Pos} (hg:Gl X n) (hm:X.mg n=some (.ref a)) (lk:X.K.lookup a=some o) (ty:o.cls=.type "dict") (ed:o.ExactDict) (od:o.data=.dict es ep) (ks:KeysOf (Qu X.prog X.w) es) (hs:(a == au)=false)
  (hv:∀ w,RelV (val w) ((findBy (Qu X.prog X.w).is es (.inr w)).getD .none)) (he:PE X e te) (hdb:(n == ("__debug__" : Str))=false:=by decide)
  (base:ai (.Name n p) "get" X.env (aL (.Name n p) X.env)=aL (.Name n p) X.env:=by rfl)
  (few:((aS cpos (aM [e] X.env)).all (fun x=>!x.1) && (backToKw cpos (keywordEach [] X.env)).all (fun x=>x.1.isSome)
   && decide (([e]:List aF).length + ([]:List Keyword).length + (if ([]:List Keyword).isEmpty then 0 else 1) < 30))=true:=by rfl)
  (line:(apos.endLine == cpos.line)=true:=by rfl) (trees:aS cpos (aM [e] X.env)=[(false,aL e X.env)]:=by rfl) :
  PE X (.Call (.Attribute (.Name n p) "get" apos) [e] [] cpos) (Qr8 val te):=by
 intro pins s σ H Q I h;have oa:∀ {H':Hp} {s':aC},Inv X pins σ H' s'->s'.heap.get? a=some o:=fun J=>J.kIn _ _ lk
 refine wpAny_Call_method base few line PySem.F.plainAttrs_dict PySem.F.slot_dict_get PySem.F.type_dict_get (Xy I hg hm ?_ hdb);refine ⟨⟨o,oa I,ty⟩,fun b z=>⟨o,?_,?_⟩,?_⟩
 ·cases z; exact oa I
 ·exact ed.2.1
 ·rw [trees];refine Calls.callWith_builtin rfl (Calls.evalArgs_plain (Calls.spliced_cons (thn (he pins s σ H _ I h) fun iv s2 ⟨y,H2,I2,ry,w,ey,q⟩=>Calls.spliced_nil ?_)))
  subst ey;obtain ⟨tk,rfl⟩:∃ tk,iv=.str w tk:=ry;have mo:s2.heap.MapOf (Qu X.prog X.w) a (fun k=>findBy (Qu X.prog X.w).is es k):=⟨o,es,ep,oa I2,ed,od,ks,fun _=>rfl⟩
  refine call_meetsIn PySem.F.slot_dict_get ⟨o,oa I2,ty⟩ PySem.F.entry_dict_get (PySem.F.args_dict_get_2 _ _) (meets_dict_get (Qu X.prog X.w) a (k:=.inr w) (by simp [Qu,Ki,Value.isStrOf]) hs) ⟨_,mo,⟨val w,H2,I2.tok _,hv w,q⟩⟩
end L2
namespace L2
open PySem PySem.Spec PyProof.Rows
variable {tt:TT} {wi:TI} {g:TG} {te:TE}
variable {X:Cx}
def Qid (K:PySem.W.Frag):R2:=fun x y H Q=>∃ a b ys,x=.ref a/\y=.ref b/\SqT K H a []/\SqT K H b ys/\Q (.ref b) H
theorem Qj6:OpR X (aa .Add) (Qid X.K):=by
 intro pins s σ H x y v u Q I rx ry h;obtain ⟨a,b,ys,rfl,rfl,ha,hb,q⟩:=h;cases rx;cases ry;obtain ⟨its,r1,p1,_⟩:=I.tuple ha;obtain ⟨its2,r2,p2,_⟩:=I.tuple hb;have e1:its=[]:=r1.nil_iff.mpr rfl;subst e1;obtain ⟨⟨cls,dd,data,sl⟩,ho,hc,n,hd⟩:=id p1;obtain ⟨⟨cls2,dd2,data2,sl2⟩,ho2,hc2,n2,hd2⟩:=id p2;simp only at hc hd hc2 hd2;subst hc hd hc2 hd2;exact concat_meets ⟨_,ho,rfl⟩ ⟨_,ho2,rfl⟩ noFill_tuple_add seq_tuple_add PySem.F.slot_tuple_add PySem.F.entry_tuple_add (PySem.F.args_tuple_add_2 _ _)
  (tuple_addW0 a b ([]:List aB).toArray its2.toArray n n2 dd dd2 sl sl2 (by simp)) ⟨ho,ho2,⟨.ref b,H,I,rfl,q⟩⟩
abbrev Qvt (K:PySem.W.Frag):R2:=fun x y H Q=>Qqi K x y H Q\/Qid K x y H Q
theorem Qns:OpR X (aa .Add) (Qvt X.K):=op_catT.or Qj6
def PTs (X:Cx) (ifs:List aF) (t:TT):Prop:=
 ∀ (pins:List (aA × Obj)) (s:aC) (σ:St) (H:Hp) (Q:Bool->Hp->Prop),Inv X pins σ H s->t σ H Q ->
  aI (aJ X.prog X.w) X.A (forIn ifs true fun c r=>if r=true then do let ok <- isTrue c X.env (aL c X.env); pure (ForInStep.yield ok) else pure (ForInStep.yield r)) (TP X pins σ Q) X.xe s
def Qv5:TT:=fun _ H Q=>Q true H
theorem Qmx :PTs X [] Qv5:=fun _ _ _ H _ I h=>wpAny_tests_nil ⟨H,I,h⟩
theorem Qmw {c:aF} {t:TT} (h:PT X c t):PTs X [c] t:=fun pins s σ H Q I q=>wpAny_tests_one (h pins s σ H Q I q)
def Q87 (J:It) (cap:List (Option Nat)) (g:TG) (tt:TT) (te:TE) (σ:St) (H1:Hp) (Q:VK):Prop:=∀ acc,H1 acc=none ->
 ∃ W:Nat->Nat->List V->St->Hp->Prop,(∃ m,W 0 m [] (Q2c cap σ) (upd H1 acc (.lst [])))/\∀ i m ys σ' H',W i m ys σ' H'->H' acc=some (.lst ys) /\
  ((J.stop i H'/\Q (.ref acc) H')\/(J.go i H'/\ys.length < sizeLine/\∀ x H2,J.yld i H' x H2->g x σ' H2 fun σ3 H3=>tt σ3 H3 fun b H4=>
    if b=true then te σ3 H4 fun y H5=>H5 acc=some (.lst ys)/\∃ m',m' < m/\W (i + 1) m' (ys ++ [y]) σ3 (upd H5 acc (.lst (ys ++ [y])))
    else ∃ m',m' < m/\W (i + 1) m' ys σ3 H4))
def Q8j (cap:List (Option Nat)) (wi:TI) (g:TG) (tt:TT) (te:TE):TE:=fun σ H Q=>wi σ H fun J H1=>Q87 J cap g tt te σ H1 Q
variable {prog:aP} {A:aQ} {R:Result->aC->Prop} {s:aC}
section
variable {w:aN}
theorem Q76 {elt target iter:aF} {ifs:List aF} {scope:Scope} {pos:Pos} {it acc:aB} {env:Env} (I:Nat->aC->Prop)
  (turn:∀ n s,I n s->aI (aJ prog w) A (az it) (fun r s₁=>match r with
   | none=>R (.ok .next) s₁
   | some v=>aI (aJ prog w) A (letOwnedTupleGo target it v) (fun _ s₁'=>aI (aJ prog w) A (assign target env v) (fun _ s₂=>
     aI (aJ prog w) A (forIn ifs true fun c r=>if r=true then do let ok <- isTrue c env (aL c env); pure (ForInStep.yield ok) else pure (ForInStep.yield r)) (fun ok s₃=>
      if ok=true then aI (aJ prog w) A (aL elt env) (fun x s₄=>
       aI (aJ prog w) A (call (.builtin "list.append") [acc,x]) (fun _ s₅=>∃ m,m < n/\I m s₅) (fun _ _=>False) s₄) (fun _ _=>False) s₃
      else ∃ m,m < n/\I m s₃) (fun _ _=>False) s₂)
     (fun _ _=>False) s₁') (fun _ _=>False) s₁) (fun _ _=>False) s)
  (n:Nat) (h:I n s):codeAny (aJ prog w) A (.compLoop (.ListComp elt [⟨target,iter,ifs,0⟩] scope pos) 0 it acc env) R s:=by
 refine codeAny_loop rfl I (fun n s hI=>?_) n h;show aI _ A ((compTurn (.ListComp elt [⟨target,iter,ifs,0⟩] scope pos) 0 it acc env).onRaise (fun x=>do noteFrame x env; theTreesLotGoes x)) _ _ s;refine wpAny_noted ?_;rw [compTurn_list];refine aD (wpAny_standAt (aD (ae (turn n s hI) (fun r s₁ h₁=>?_) fun _ _ h'=>h'.elim)))
 cases r with
 | none=>exact wpAny_pure h₁
 | some v=>
  refine aD (ae h₁ (fun _ s₁' h₁'=>?_) fun _ _ h'=>h'.elim)
  refine aD (ae h₁' (fun _ s₂ h₂=>aD (ae h₂ (fun ok s₃ h₃=>?_) fun _ _ h'=>h'.elim)) fun _ _ h'=>h'.elim)
  cases ok with
  | true=>
   rw [bM rfl] at h₃;exact aD (aD (ae h₃ (fun x s₄ h₄=>aD (ae h₄ (fun _ s₅ h₅=>wpAny_pure (wpAny_pure ⟨rfl,h₅⟩)) fun _ _ h'=>h'.elim)) fun _ _ h'=>h'.elim))
  | false=>
   rw [bN D8] at h₃;exact aD (wpAny_pure (wpAny_pure ⟨rfl,h₃⟩))
end
theorem Q69 {elt tg iter:aF} {ifs:List aF} {tt:TT} {pos:Pos} {N N':List Str} {sc scE:Scope} {cap:List (Option Nat)} {g:TG} {te:TE} {use:Option (aB->Sem Unit)} {QQ:aB->aC->Prop} (hcalm:X.calm=true) (hi:PI X tg iter wi)
  (hg:∀ cl C s0 H0 ex,PG (Wz X N' sc cl C s0 H0 ex) tg g) (he:∀ cl C s0 H0 ex,PE (Wz X N' sc cl C s0 H0 ex) elt te) (htt:∀ cl C s0 H0 ex,PTs (Wz X N' sc cl C s0 H0 ex) ifs tt)
  (hN:X.N=N) (hE:X.env.scope=scE) (hc:compOkC N N' sc scE cap=true) (hs:∀ x,av iter X.env x=pure x)
  {pins:List (aA × Obj)} {s:aC} {σ:St} {H:Hp} {Q:VK} (I:Inv X pins σ H s) (h:Q8j cap wi g tt te σ H Q)
  (fin:∀ acc C H' s' m,Inv X pins σ H' s'->s'.heap.Ns C m->Q6f X pins H' C->Q (.ref acc) H'->compPost (aJ X.prog X.w) X.A X.xe use QQ (.ref acc) C (.ok .next) s') {pos':Pos} :
  aI (aJ X.prog X.w) X.A (comprehension (.ListComp elt [⟨tg,iter,ifs,0⟩] sc pos) sc X.env pos' (newList []) false (aL iter X.env) use) QQ X.xe s:=by
 have ck:=compOkC.of hc;obtain ⟨cl,hcl,c1,c2⟩:=Qd3 (scope:=sc) (env:=X.env) fun x hx hf=>I.ok.has x.1 (by
  have:=ck.fre x hx hf;rw [<- hE] at this;exact this)
 refine wpAny_comprehension_free (use:=use) rfl hs hcl ck.kind ck.loc (thn (hi pins s σ H _ I h) fun v s1 h1=>thn h1 fun itv s2 h2=>?_)
 obtain ⟨it,fp,tn,J,H2,e,I2,T,st2,f2,hw⟩:=h2;subst e;have fsz:∀ b∈fp,b < s2.heap.objs.size:=fun b hb=>by
  obtain ⟨o,e,_⟩:=T.obj _ _ st2 b hb;exact O8 e
 obtain ⟨W,⟨m0,w0⟩,turn⟩:=hw s2.heap.objs.size I2.fresh;refine aw (Q6g ?_);dsimp only;have I3:Inv X pins σ (upd H2 s2.heap.objs.size (.lst [])) { s2 with heap:=s2.heap.push { cls:=.type "list",data:=.seq ([]:List aB).toArray } }:=
  I2.lnew (its:=[]) (ys:=[]) (t':=s2.toks) .nil (Nat.zero_le _)
 generalize hs3:({ s2 with heap:=s2.heap.push { cls:=.type "list",data:=.seq ([]:List aB).toArray } }:aC)=s3 at I3;have hh3:s3.heap=s2.heap.push { cls:=.type "list",data:=.seq ([]:List aB).toArray }:=by rw [<- hs3]
 have hsz:s3.heap.objs.size=s2.heap.objs.size + 1:=by rw [hh3,F9]
 have f3:∀ b∈fp,Q6f X pins (upd H2 s2.heap.objs.size (.lst [])) b:=fun b hb=>by
  obtain ⟨g0,g1⟩:=f2 b hb;exact ⟨by rw [Q7 (E6 (fsz b hb))]; exact g0,g1⟩
 have k3:∀ b o,s2.heap.get? b=some o->s3.heap.get? b=some o:=fun b o e=>by rw [hh3]; exact O0 _ e
 obtain ⟨cl',hcl'⟩:∃ cl',af (s3.heap.objs.size + 1) sc.names cl=cl':=⟨_,rfl⟩;obtain ⟨h₁,hh₁⟩:∃ h₁,pushCells (s3.heap.push { cls:=.type "dict",data:=.dict #[] }) sc.names=h₁:=⟨_,rfl⟩;have k1:∀ b o,s3.heap.get? b=some o->h₁.get? b=some o:=fun b o e=>by rw [<- hh₁]; exact pushCells_keeps _ _ b o (O0 _ e)
 have c1':∀ x c,cl'.lookup x=some c->cl.lookup x=some c\/s3.heap.objs.size + 1<=c:=fun x c e=>by
  rw [<- hcl'] at e;have:=X8 (sc.names) (s3.heap.push { cls:=.type "dict",data:=.dict #[] }) cl x c (by rw [F9]; exact e);rcases this with z | ⟨_,z,_⟩
  ·exact .inl z
  ·rw [F9] at z; exact .inr z
 have I4:Inv (Wz X N' sc cl' s3.heap.objs.size s3 (upd H2 s2.heap.objs.size (.lst [])) fp) [] (Q2c cap σ) (upd H2 s2.heap.objs.size (.lst [])) { s3 with heap:=h₁ }:=by
  rw [<- hcl',<- hh₁];exact Qkq I3 hN hE ck c1 c2 f3 (fun b hb=>D1 (fsz b hb) (by rw [hsz]; exact Nat.le_succ _))
 have st4:tn 0 h₁:=T.keep _ _ _ st2 fun b hb o e=>k1 b o (k3 b o e)
 generalize hX':Wz X N' sc cl' s3.heap.objs.size s3 (upd H2 s2.heap.objs.size (.lst [])) fp=X' at I4;have hxe:X'.xe=fun _ _=>False:=by rw [<- hX']; rfl
 have hprog:X'.prog=X.prog:=by rw [<- hX']; rfl
 have hww:X'.w=X.w:=by rw [<- hX']; rfl
 have hKK:X'.K=X.K:=by rw [<- hX']; rfl
 have hAA:X'.A=X.A:=by rw [<- hX']; rfl
 have hcc:X'.calm=true:=by rw [<- hX']; exact hcalm
 have henv:X'.env=compEnvC sc cl' s3.heap.objs.size X.env:=by rw [<- hX']; rfl
 have hloc:X'.env.locals=s3.heap.objs.size:=by rw [henv]; rfl
 have hg':PG X' tg g:=by rw [<- hX']; exact hg _ _ _ _ _
 have he':PE X' elt te:=by rw [<- hX']; exact he _ _ _ _ _
 have htt':PTs X' ifs tt:=by rw [<- hX']; exact htt _ _ _ _ _
 have stat:∀ {H':Hp},(∀ b∈fp,H' b=none)->∀ b∈fp,Q6f X' [] H' b:=fun {H'} hn b hb=>by
  obtain ⟨_,g1,g2,g3,g4,g5⟩:=f3 b hb;refine ⟨hn b hb,by rw [hloc,hsz]; exact E6 (Nat.lt_succ_of_lt (fsz b hb)),?_,?_,?_,fun p hp=>?_⟩
  ·rw [<- hX'];intro z;rcases E7.mp (I3.stkSub b z) with e | z
   ·exact g1 e
   ·exact g2 z
  ·left
   rw [<- hX'];exact hb
  ·intro x c e;rw [henv] at e;rcases c1' x c e with z | z
   ·exact g4 x c (c1 x c z)
   ·exact fun q=>absurd (D1 (fsz b hb) (F1 (F1 (Nat.le_succ _) (hsz ▸ Nat.le_succ _)) (q ▸ z))) (Nat.lt_irrefl _)
  ·rw [<- hX'] at hp;cases hp
 have fin':∀ {σ':St} {H':Hp} {s':aC},Inv X' [] σ' H' s'->Q (.ref s2.heap.objs.size) H'->compPost (aJ X.prog X.w) X.A X.xe use QQ (.ref s2.heap.objs.size) s3.heap.objs.size (.ok .next) s':=fun {σ' H' s'} J q=>by
  obtain ⟨mm,hmm,_⟩:=J.loc;rw [hloc] at hmm;have hfree:H' s3.heap.objs.size=none:=by have:=J.free; rw [hloc] at this; exact this
  have hok:=J.hok;rw [hprog,hww] at hok;have u1:Un (frs X.stack) fp (upd H2 s2.heap.objs.size (.lst [])) H' s3.heap s'.heap:=by
   have:=J.base;rw [<- hX'] at this;exact this
  have hos:s'.os=s3.os:=by have:=J.os; rw [<- hX'] at this; exact this
  refine fin _ _ H' s' mm (I3.call' (s':=s') hos u1 hok J.bare fun b hb=>?_) hmm (I3.fpOk (O4 _) hfree) q
  obtain ⟨_,g1,g2,g3,g4,g5⟩:=f3 b hb;exact ⟨g3,g1,g4,g5⟩
 have loop:codeAny (aJ X.prog X.w) X.A (.compLoop (.ListComp elt [⟨tg,iter,ifs,0⟩] sc pos) 0 (.ref it) (.ref s2.heap.objs.size) X'.env)
   (compPost (aJ X.prog X.w) X.A X.xe use QQ (.ref s2.heap.objs.size) s3.heap.objs.size) { s3 with heap:=h₁ }:=by
  refine Q76 (fun n s'=>∃ i ys σ' H',Inv X' [] σ' H' s'/\tn i s'.heap/\(∀ b∈fp,H' b=none)/\W i n ys σ' H') ?_ m0 ⟨0,[],_,_,I4,st4,fun b hb=>(f3 b hb).1,w0⟩
  rintro n s5 ⟨i,ys,σ5,H5,I5,st5,fr5,w5⟩;obtain ⟨hacc,q⟩:=turn i n ys σ5 H5 w5;rcases q with ⟨stop,q⟩ | ⟨go,hlen,step⟩
  ·refine thn (hAA ▸ T.done X' hprog hww hKK hcc i [] s5 σ5 H5 _ I5 (stat fr5) st5 stop) fun r s6 ⟨hr,I6⟩=>?_
   subst hr;exact fin' I6 q
  ·refine thn (hAA ▸ T.item X' hprog hww hKK hcc i [] s5 σ5 H5 _ I5 (stat fr5) st5 go) fun r s6 ⟨u,hr,h6⟩=>?_
   subst hr;refine thn h6 fun _ s7 ⟨x,H7,I7,r7,y7,st7,fr7⟩=>?_
   have I7':=I7.pinned (stat fr7) (T.obj _ _ st7);have g7:=hg' _ s7 σ5 H7 x u _ I7' r7 (step x H7 y7);rw [hprog,hww,hAA,hxe] at g7;refine thn g7 fun _ s8 ⟨σ8,H8,I8,q8⟩=>?_
   have t8:=htt' _ s8 σ8 H8 _ I8 q8;rw [hprog,hww,hAA,hxe] at t8;refine thn t8 fun okb s8t ⟨H8t,I8t,q8t⟩=>?_
   cases okb with
   | false=>
    rw [bN D8] at q8t ⊢;obtain ⟨m',hm',w9⟩:=q8t;refine ⟨m',hm',i + 1,_,σ8,_,I8t.unpinned,T.keep _ _ _ st7 fun b hb o eo=>(I8t.pin (b,o) (E8 _ (E8 _ (Xi hb eo)))).1,fun b hb=>?_,w9⟩;obtain ⟨o,eo,d⟩:=T.obj _ _ st7 b hb;exact (I8t.pin (b,o) (E8 _ (E8 _ (Xi hb eo)))).2.1
   | true=>
   rw [bM rfl] at q8t ⊢;have g8:=he' _ s8t σ8 H8t _ I8t q8t;rw [hprog,hww,hAA,hxe] at g8;refine thn g8 fun y s9 ⟨yv,H9,I9,r9,a9,m',hm',w9⟩=>?_
   obtain ⟨z,its,nn,rr,hl,e⟩:=I9.lstM a9;refine bA F.slot_list_append ⟨_,e,rfl⟩ F.entry_list_append (F.args_list_append_2 _ _) (PySem.list_append _ its.toArray nn y (by rw [O5]; omega)) ⟨e,?_⟩;have I10:Inv X' ([] ++ Q54 fp s7.heap) σ8 (upd H9 s2.heap.objs.size (.lst (ys ++ [yv]))) { s9 with heap:=s9.heap.update s2.heap.objs.size (Obj.mapSeq fun a=>a.push y) }:=
    I9.lset (t':=s9.toks) (its':=its ++ [y]) a9 e (by simp) (rr.append (.cons r9 .nil)) (by rw [D0,List.length_singleton]; omega)
   refine ⟨m',hm',i + 1,_,σ8,_,I10.unpinned,T.keep _ _ _ st7 fun b hb o eo=>(I10.pin (b,o) (E8 _ (E8 _ (Xi hb eo)))).1,fun b hb=>?_,w9⟩;obtain ⟨o,eo,d⟩:=T.obj _ _ st7 b hb;exact (I10.pin (b,o) (E8 _ (E8 _ (Xi hb eo)))).2.1
 rw [henv] at loop;have goal:=codeAny_compStart_list (rest:=[]) (ifs:=ifs) loop (T.self X.A 0 _ _ _ st4 loop);subst hs3;rw [<- hcl',<- hh₁] at goal;exact goal
theorem Qiy {elt tg iter:aF} {ifs:List aF} {tt:TT} {pos:Pos} {N N':List Str} {sc scE:Scope} {cap:List (Option Nat)} {g:TG} {te:TE} (hcalm:X.calm=true) (hi:PI X tg iter wi)
  (hg:∀ cl C s0 H0 ex,PG (Wz X N' sc cl C s0 H0 ex) tg g) (he:∀ cl C s0 H0 ex,PE (Wz X N' sc cl C s0 H0 ex) elt te) (htt:∀ cl C s0 H0 ex,PTs (Wz X N' sc cl C s0 H0 ex) ifs tt)
  (hN:X.N=N:=by rfl) (hE:X.env.scope=scE:=by rfl) (hc:compOkC N N' sc scE cap=true:=by decide +kernel) (hs:∀ x,av iter X.env x=pure x:=by intro _; rfl) :
  PE X (.ListComp elt [⟨tg,iter,ifs,0⟩] sc pos) (Q8j cap wi g tt te):=by
 intro pins s σ H Q I h;rw [eval_ListComp];refine Q69 (use:=none) hcalm hi hg he htt hN hE hc hs I h fun acc C H' s' m I' hm hf q=>⟨m,hm,fun h' hs'=>?_⟩
 obtain ⟨f0,f1,f2,f3,f4,f5⟩:=hf;exact ⟨.ref acc,H',I'.turned (t':=s'.toks) (fun b o hb e=>(hs'.2 b hb).trans e) f0 f1 f3 f4 f5,rfl,q⟩
theorem Qim {ifs:List aF} {tt:TT} {i:Nat} {x:Str} {px spos:Pos} {elt tg iter:aF} {pos:Pos} {N N':List Str} {sc scE:Scope} {cap:List (Option Nat)} {g:TG} {te:TE} (hnd:X.N.Nodup) (hix:X.N[i]?=some x) (hx:Loc X.env.scope x) (hcalm:X.calm=true) (hi:PI X tg iter wi)
  (hg:∀ cl C s0 H0 ex,PG (Wz X N' sc cl C s0 H0 ex) tg g) (he:∀ cl C s0 H0 ex,PE (Wz X N' sc cl C s0 H0 ex) elt te) (htt:∀ cl C s0 H0 ex,PTs (Wz X N' sc cl C s0 H0 ex) ifs tt)
  (hsw:swapsWith (.ListComp elt [⟨tg,iter,ifs,0⟩] sc pos) (some (.Name x px)) spos.line X.env=pure true:=by rfl)
  (hN:X.N=N:=by rfl) (hE:X.env.scope=scE:=by rfl) (hc:compOkC N N' sc scE cap=true:=by decide +kernel) (hs:∀ x,av iter X.env x=pure x:=by intro _; rfl)
  (hf:X.fn x=true\/X.env.scope.names.lookup x=some .local:=by first | exact .inl rfl | exact .inr rfl | assumption) :
  PS X (.Assign [.Name x px] (.ListComp elt [⟨tg,iter,ifs,0⟩] sc pos) spos) (Qm4 (Q8j cap wi g tt te) (Q81 i)):=by
 intro pins s σ H D I h;rw [exec_Assign_Name_used _ _ _ _ hsw];refine aD (wpAny_standAt (aD ?_));show aI _ _ (do let _ <- comprehension (.ListComp elt [⟨tg,iter,ifs,0⟩] sc pos) sc X.env _ (newList []) false (aL iter X.env) (some (assign (.Name x px) X.env))) _ _ s;refine aD (ae (Q69 (use:=some (assign (.Name x px) X.env)) (QQ:=fun _ s'=>SP X pins D .next s') hcalm hi hg he htt hN hE hc hs I h ?_) (fun _ s' hq=>wpAny_pure (wpAny_pure hq)) fun _ _ e=>e)
 intro acc C H' s' m I' hm hfp q;obtain ⟨f0,f1,f2,f3,f4,f5⟩:=hfp;show aI _ _ (assign (.Name x px) X.env (.ref acc)) _ _ _;refine wpAny_assign_Name (Q79 I' hnd hix hx (v:=.ref acc) rfl (fun s2 I2 ⟨a,sb,ha⟩=>⟨m,?_,fun h' hs'=>?_⟩) hf)
 ·refine hm.sameBut sb fun z=>?_
  rcases ha with ha | ha
  ·exact f1 (z.trans ha)
  ·exact f4 x a ha z.symm
 ·exact ⟨_,H',I2.turned (t':=s2.toks) (fun b o hb e=>(hs'.2 b hb).trans e) f0 f1 f3 f4 f5,q⟩
def Q97 (ns:List Int):List Int:=firstMet (fun i=>ns.getD i 0) ns.length
theorem Qgn (hc:X.calm=true):K3 X (.type "set") (fun xs H Q=>∃ p ns,xs=[.ref p]/\SqL X.K H p (ns.map V.int)/\ns.length<=4000/\∀ l S,H l=none->Q (.ref l) (upd H l (.set S (Q97 ns).length))):=by
 intro pins s σ H xs us Q I r h;obtain ⟨p,ns,rfl,hq,hl,q⟩:=h;obtain ⟨u,rfl,rx⟩:=x9 r;cases rx;obtain ⟨its,r',pl,hz⟩:=I.list hq;have hlen:its.length=ns.length:=by rw [<- r'.length,O2]
 refine PySem.call_set_list (ns:=ns) (I.ok.hd hc) pl.isList (by simpa using Q1d r') (by rw [O5,hlen]; unfold scanBound; omega) fun h' tk hS hk=>?_
 have hsz:its.toArray.size=ns.length:=by rw [O5,hlen]
 rw [hsz] at hS;refine ⟨.ref s.heap.objs.size,_,I.laid (t':=tk) (o:=.set _ (Q97 ns).length) (fun b o e=>hk b o (O8 e) e) (O4 _) hS,rfl,q _ _ (I.hok.fresh (O4 _))⟩
theorem Qbj:K3 X (.builtin "len") (fun xs H Q=>∃ p S n,xs=[.ref p]/\H p=some (.set S n)/\n<=4000/\Q (.int n) H):=by
 intro pins s σ H xs us Q I r h;obtain ⟨p,S,n,rfl,hp,hn,q⟩:=h;obtain ⟨u,rfl,rx⟩:=x9 r;cases rx;obtain ⟨o,es,ep,t,ho,hex,hd,h1,h2,h3,hf,h4⟩:=I.hok p _ hp;subst h4;exact call_len_set ho hex hd hf (by omega) ⟨.int _,H,I.tok _,⟨s.toks + 1,rfl⟩,q⟩
structure M1 (X:Cx) (o:aF) (m:Str) (apos:Pos) (e:aF) (cpos:Pos):Prop where
 base:ai o m X.env (aL o X.env)=aL o X.env
 few:((aS cpos (aM [e] X.env)).all (fun x=>!x.1) && (backToKw cpos (keywordEach [] X.env)).all (fun x=>x.1.isSome)
  && decide (([e]:List aF).length + ([]:List Keyword).length + (if ([]:List Keyword).isEmpty then 0 else 1) < 30))=true
 line:(apos.endLine == cpos.line)=true
 trees:aS cpos (aM [e] X.env)=[(false,aL e X.env)]
structure M2 (X:Cx) (o:aF) (m:Str) (apos:Pos) (e f:aF) (cpos:Pos):Prop where
 base:ai o m X.env (aL o X.env)=aL o X.env
 few:((aS cpos (aM [e,f] X.env)).all (fun x=>!x.1) && (backToKw cpos (keywordEach [] X.env)).all (fun x=>x.1.isSome)
  && decide (([e,f]:List aF).length + ([]:List Keyword).length + (if ([]:List Keyword).isEmpty then 0 else 1) < 30))=true
 line:(apos.endLine == cpos.line)=true
 trees:aS cpos (aM [e,f] X.env)=[(false,aL e X.env),(false,aL f X.env)]
def J01 (M:Nat) (p:SetTable.Probe):SetTable.Probe:=
 if p.more > 0 then { j:=p.j + 1,more:=p.more - 1,i:=p.i,perturb:=p.perturb,dummy:=p.dummy }
 else { j:=(SetTable.leap M p.i p.perturb).1,more:=SetTable.runEnd M (SetTable.leap M p.i p.perturb).1 - (SetTable.leap M p.i p.perturb).1,i:=(SetTable.leap M p.i p.perturb).1,perturb:=(SetTable.leap M p.i p.perturb).2,dummy:=p.dummy }
def Qzv (M:Nat) (q:Nat × Nat):SetTable.Probe:={ j:=q.1,more:=SetTable.runEnd M q.1 - q.1,i:=q.1,perturb:=q.2,dummy:=none }
def lpP (M:Nat) (h:Int):Nat->Nat × Nat
 | 0=>(SetTable.bits h % (M + 1),SetTable.bits h)
 | m + 1=>SetTable.leap M (lpP M h m).1 (lpP M h m).2
def pth (M:Nat) (h:Int):Nat->SetTable.Probe
 | 0=>Qzv M (lpP M h 0)
 | n + 1=>J01 M (pth M h n)
end L2
namespace L2
open PySem PySem.Spec PyProof.Rows PySem.W
variable {prog:aP} {A:aQ} {E:aB->aC->Prop} {s:aC}
section
variable {w:aN}
theorem Q27 {vs:List aB}:(List.range vs.length).map (fun i=>vs.getD i Value.none)=vs:=by
 apply List.ext_getElem?;intro i
 by_cases z:i < vs.length
 ·simp [z]
 ·simp [z]
end
end L2
namespace Sm
open PySem PySem.Spec L2
variable {H H':Hp} {p a:aA} {o:HO} {hs:List aA} {v:V} {vs:List V} {κ:Type} {σ:St} {e:aF} {es:List aF} {f:aB->aB->Sem aB} {Q:Bool->Hp->Prop} {D:Ends}
section
inductive PV where
 | non | bl (b:Bool) | int (i:Int) | str (x:Str) | tup (xs:List PV) | lst (xs:List PV) | fro (xs:List PV) | ref (i:Nat) | dic
variable {ps:List PV}
inductive Cell where
 | lst (xs:List PV) | dic (kvs:List (Key × PV)) | dtp (kvs:List (HK × PV)) | frd (kvs:List (Key × PV))
 | obj (C:aA) (fs:List (Str × PV))
variable {cl:Cell}
abbrev Q0:=List Cell
variable {st:Q0}
structure Exc where
 cls:Str
 fs:Option (Str × PV):=none
inductive Res (α:Type) where
 | ok (a:α) (st:Q0) | exc (x:Exc) (st:Q0) | stuck
abbrev Gam:=List (Option PV)
variable {Γ:Gam} {m:Gam->Q0->Res Bool}
abbrev ME:=Gam->Q0->Res PV
structure Tk where
 tr:List aA
 hid:List aA
variable {ρ:Tk} {P:Bool->Q0->Hp->Tk->Prop}
instance:Membership aA Tk:=⟨fun t a=>a∈t.tr\/a∈t.hid⟩
def Tk.nil:Tk:=⟨[],[]⟩
theorem Tk.not_nil (a:aA):a∉Tk.nil:=fun z=>by rcases z with z | z <;> cases z
def Tk.add (t:Tk) (p:aA):Tk:=⟨t.tr ++ [p],t.hid⟩
def Tk.hide (t:Tk) (p:aA):Tk:=⟨t.tr,p :: t.hid⟩
mutual
def Rep (H:Hp) (ρ:Tk):PV->V->Prop
 | .non,v=>v=.non
 | .bl b,v=>v=.bl b
 | .int i,v=>v=.int i
 | .str x,v=>v=.str x
 | .tup ps,v=>∃ a vs,v=.ref a/\H a=some (.tup vs)/\a∉ρ/\RepL H ρ ps vs
 | .lst ps,v=>∃ a vs,v=.ref a/\H a=some (.lst vs)/\a∉ρ/\RepL H ρ ps vs
 | .fro ps,v=>∃ a vs,v=.ref a/\Rd H a (.lst vs)/\a∉ρ/\RepL H ρ ps vs
 | .ref i,v=>∃ a,ρ.tr[i]?=some a/\v=.ref a
 | .dic,v=>∃ a,v=.ref a/\H a=some (.dK [])/\a∉ρ
def RepL (H:Hp) (ρ:Tk):List PV->List V->Prop
 | [],vs=>vs=[]
 | p :: ps,vs=>∃ v r,vs=v :: r/\Rep H ρ p v/\RepL H ρ ps r
end
structure Ext (H:Hp) (ρ:Tk) (H':Hp) (ρ':Tk):Prop where
 pre:ρ.tr <+: ρ'.tr
 hidM:∀ a,a∈ρ.hid->a∈ρ'.hid
 hidN:∀ a,a∈ρ'.hid->a∈ρ.hid\/H a=none
 keep:∀ a o,H a=some o->a∉ρ.tr->H' a=some o
 new:∀ a,a∈ρ'.tr->a∈ρ.tr\/H a=none
 old:∀ a o,H a=some o->∃ o',H' a=some o'
 frz:∀ a o u,H a=some (.frz o u)->H' a=some (.frz o u)
theorem Ext.refl (H:Hp) (ρ:Tk):Ext H ρ H ρ:=⟨List.prefix_refl _,fun _ h=>h,fun _ h=>.inl h,fun _ _ h _=>h,fun _ h=>.inl h,fun _ o h=>⟨o,h⟩,fun _ _ _ h=>h⟩
theorem Ext.trans {H1 H2:Hp} {ρ1 ρ2:Tk} (a:Ext H ρ H1 ρ1) (b:Ext H1 ρ1 H2 ρ2):Ext H ρ H2 ρ2 where
 pre:=a.pre.trans b.pre
 hidM:=fun x h=>b.hidM x (a.hidM x h)
 hidN:=fun x h=>by
  rcases b.hidN x h with z | z
  ·exact a.hidN x z
  ·right
   cases q:H x with
   | none=>rfl
   | some o=>
    obtain ⟨o',e⟩:=a.old x o q;rw [e] at z; cases z
 keep:=fun x o h n=>b.keep x o (a.keep x o h n) fun z=>by
  rcases a.new x z with z | z
  ·exact n z
  ·rw [h] at z; cases z
 new:=fun x h=>by
  rcases b.new x h with z | z
  ·exact a.new x z
  ·right
   cases q:H x with
   | none=>rfl
   | some o=>
    obtain ⟨o',e⟩:=a.old x o q;rw [e] at z; cases z
 old:=fun x o h=>by
  obtain ⟨o',e⟩:=a.old x o h;exact b.old x o' e
 frz:=fun x o u h=>b.frz x o u (a.frz x o u h)
theorem Ext.add (h:H p=none):Ext H ρ (upd H p o) ρ where
 pre:=List.prefix_refl _
 hidM:=fun _ h=>h
 hidN:=fun _ h=>.inl h
 keep:=fun a u e _=>by rw [Q7 (Q9 e h)]; exact e
 new:=fun a e=>.inl e
 old:=fun a u e=>⟨u,by rw [Q7 (Q9 e h)]; exact e⟩
 frz:=fun a o u e=>by rw [Q7 (Q9 e h)]; exact e
theorem Ext.addT (h:H p=none):Ext H ρ (upd H p o) (ρ.add p) where
 pre:=List.prefix_append _ _
 hidM:=fun _ h=>h
 hidN:=fun _ h=>.inl h
 keep:=fun a u e _=>by rw [Q7 (Q9 e h)]; exact e
 new:=fun a e=>by
  rcases F7.mp e with z | z
  ·exact .inl z
  ·right
   have:a=p:=by simpa using z
   rw [this]; exact h
 old:=fun a u e=>⟨u,by rw [Q7 (Q9 e h)]; exact e⟩
 frz:=fun a o u e=>by rw [Q7 (Q9 e h)]; exact e
theorem Ext.same (h:Same H H'):Ext H ρ H' ρ:=⟨List.prefix_refl _,fun _ h=>h,fun _ h=>.inl h,fun a o e _=>h a o e,fun _ e=>.inl e,fun a o e=>⟨o,h a o e⟩,fun a o u e=>h a _ e⟩
section
variable {H H':Hp} {ρ ρ':Tk}
theorem jz (x:Ext H ρ H' ρ') (h:H a=some o) (n:a∉ρ):a∉ρ':=fun z=>by
 rcases z with z | z
 ·rcases x.new a z with z | z
  ·exact n (.inl z)
  ·rw [h] at z; cases z
 ·rcases x.hidN a z with z | z
  ·exact n (.inr z)
  ·rw [h] at z; cases z
theorem Ext.kp (x:Ext H ρ H' ρ') (h:H a=some o) (n:a∉ρ):H' a=some o:=x.keep a o h fun z=>n (.inl z)
mutual
theorem Rep.ext (x:Ext H ρ H' ρ'):∀ {p:PV} {v:V},Rep H ρ p v->Rep H' ρ' p v
 | .non,_,h=>h
 | .bl _,_,h=>h
 | .int _,_,h=>h
 | .str _,_,h=>h
 | .tup ps,v,h=>by
  obtain ⟨a,vs,e,s,n,r⟩:=h;exact ⟨a,vs,e,x.kp s n,jz x s n,RepL.ext x r⟩
 | .lst ps,v,h=>by
  obtain ⟨a,vs,e,s,n,r⟩:=h;exact ⟨a,vs,e,x.kp s n,jz x s n,RepL.ext x r⟩
 | .fro ps,v,h=>by
  obtain ⟨a,vs,e,s,n,r⟩:=h;rcases s with s | ⟨o,s⟩
  ·exact ⟨a,vs,e,.inl (x.kp s n),jz x s n,RepL.ext x r⟩
  ·exact ⟨a,vs,e,.inr ⟨o,x.kp s n⟩,jz x s n,RepL.ext x r⟩
 | .ref i,v,h=>by
  obtain ⟨a,e,rfl⟩:=h;obtain ⟨t,et⟩:=x.pre;refine ⟨a,?_,rfl⟩;rw [<- et,O9 (O1.mp e).1];exact e
 | .dic,v,h=>by
  obtain ⟨a,e,s,n⟩:=h;exact ⟨a,e,x.kp s n,jz x s n⟩
theorem RepL.ext (x:Ext H ρ H' ρ'):∀ {ps:List PV} {vs:List V},RepL H ρ ps vs->RepL H' ρ' ps vs
 | [],_,h=>h
 | p :: ps,vs,h=>by
  obtain ⟨v,r,e,h1,h2⟩:=h;exact ⟨v,r,e,Rep.ext x h1,RepL.ext x h2⟩
end
mutual
theorem Rep.hide {a:aA} {o:HO} (h:H a=none):∀ {p:PV} {v:V},Rep H ρ p v->Rep (upd H a o) (ρ.hide a) p v
 | .non,_,r=>r
 | .bl _,_,r=>r
 | .int _,_,r=>r
 | .str _,_,r=>r
 | .tup ps,v,⟨b,vs,e,s,n,r⟩=>⟨b,vs,e,by rw [Q7 (Q9 s h)]; exact s,fun z=>by
   rcases z with z | z
   ·exact n (.inl z)
   ·rcases E7.mp z with z | z
    ·exact Q9 s h z
    ·exact n (.inr z),RepL.hide h r⟩
 | .lst ps,v,⟨b,vs,e,s,n,r⟩=>⟨b,vs,e,by rw [Q7 (Q9 s h)]; exact s,fun z=>by
   rcases z with z | z
   ·exact n (.inl z)
   ·rcases E7.mp z with z | z
    ·exact Q9 s h z
    ·exact n (.inr z),RepL.hide h r⟩
 | .fro ps,v,⟨b,vs,e,s,n,r⟩=>by
   have ne:b≠a:=by
    rcases s with s | ⟨_,s⟩
    ·exact Q9 s h
    ·exact Q9 s h
   refine ⟨b,vs,e,?_,fun z=>?_,RepL.hide h r⟩
   ·rcases s with s | ⟨u,s⟩
    ·exact .inl (by rw [Q7 ne]; exact s)
    ·exact .inr ⟨u,by rw [Q7 ne]; exact s⟩
   ·rcases z with z | z
    ·exact n (.inl z)
    ·rcases E7.mp z with z | z
     ·exact ne z
     ·exact n (.inr z)
 | .ref i,v,r=>r
 | .dic,v,⟨b,e,s,n⟩=>⟨b,e,by rw [Q7 (Q9 s h)]; exact s,fun z=>by
   rcases z with z | z
   ·exact n (.inl z)
   ·rcases E7.mp z with z | z
    ·exact Q9 s h z
    ·exact n (.inr z)⟩
theorem RepL.hide {a:aA} {o:HO} (h:H a=none):∀ {ps:List PV} {vs:List V},RepL H ρ ps vs->RepL (upd H a o) (ρ.hide a) ps vs
 | [],_,r=>r
 | p :: ps,_,⟨v,t,e,r1,r2⟩=>⟨v,t,e,Rep.hide h r1,RepL.hide h r2⟩
end
mutual
theorem Rep.rehide {a:aA} {o:HO} (h:a∈ρ.hid):∀ {p:PV} {v:V},Rep H ρ p v->Rep (upd H a o) ρ p v
 | .non,_,r=>r
 | .bl _,_,r=>r
 | .int _,_,r=>r
 | .str _,_,r=>r
 | .tup ps,v,⟨b,vs,e,s,n,r⟩=>⟨b,vs,e,by rw [Q7 (show b≠a from fun z=>n (.inr (by rw [z]; exact h)))]; exact s,n,RepL.rehide h r⟩
 | .lst ps,v,⟨b,vs,e,s,n,r⟩=>⟨b,vs,e,by rw [Q7 (show b≠a from fun z=>n (.inr (by rw [z]; exact h)))]; exact s,n,RepL.rehide h r⟩
 | .fro ps,v,⟨b,vs,e,s,n,r⟩=>by
   have ne:b≠a:=fun z=>n (.inr (by rw [z]; exact h))
   refine ⟨b,vs,e,?_,n,RepL.rehide h r⟩;rcases s with s | ⟨u,s⟩
   ·exact .inl (by rw [Q7 ne]; exact s)
   ·exact .inr ⟨u,by rw [Q7 ne]; exact s⟩
 | .ref i,v,r=>r
 | .dic,v,⟨b,e,s,n⟩=>⟨b,e,by rw [Q7 (show b≠a from fun z=>n (.inr (by rw [z]; exact h)))]; exact s,n⟩
theorem RepL.rehide {a:aA} {o:HO} (h:a∈ρ.hid):∀ {ps:List PV} {vs:List V},RepL H ρ ps vs->RepL (upd H a o) ρ ps vs
 | [],_,r=>r
 | p :: ps,_,⟨v,t,e,r1,r2⟩=>⟨v,t,e,Rep.rehide h r1,RepL.rehide h r2⟩
end
mutual
theorem Rep.retr {a:aA} {o:HO} (h:a∈ρ.tr):∀ {p:PV} {v:V},Rep H ρ p v->Rep (upd H a o) ρ p v
 | .non,_,r=>r
 | .bl _,_,r=>r
 | .int _,_,r=>r
 | .str _,_,r=>r
 | .tup ps,v,⟨b,vs,e,s,n,r⟩=>⟨b,vs,e,by rw [Q7 (show b≠a from fun z=>n (.inl (by rw [z]; exact h)))]; exact s,n,RepL.retr h r⟩
 | .lst ps,v,⟨b,vs,e,s,n,r⟩=>⟨b,vs,e,by rw [Q7 (show b≠a from fun z=>n (.inl (by rw [z]; exact h)))]; exact s,n,RepL.retr h r⟩
 | .fro ps,v,⟨b,vs,e,s,n,r⟩=>by
   have ne:b≠a:=fun z=>n (.inl (by rw [z]; exact h))
   refine ⟨b,vs,e,?_,n,RepL.retr h r⟩;rcases s with s | ⟨u,s⟩
   ·exact .inl (by rw [Q7 ne]; exact s)
   ·exact .inr ⟨u,by rw [Q7 ne]; exact s⟩
 | .ref i,v,r=>r
 | .dic,v,⟨b,e,s,n⟩=>⟨b,e,by rw [Q7 (show b≠a from fun z=>n (.inl (by rw [z]; exact h)))]; exact s,n⟩
theorem RepL.retr {a:aA} {o:HO} (h:a∈ρ.tr):∀ {ps:List PV} {vs:List V},RepL H ρ ps vs->RepL (upd H a o) ρ ps vs
 | [],_,r=>r
 | p :: ps,_,⟨v,t,e,r1,r2⟩=>⟨v,t,e,Rep.retr h r1,RepL.retr h r2⟩
end
mutual
theorem Rep.unhide {hs:List aA} (hh:∀ a,a∈hs->a∈ρ.hid):∀ {p:PV} {v:V},Rep H ρ p v->Rep H ⟨ρ.tr,hs⟩ p v
 | .non,_,r=>r
 | .bl _,_,r=>r
 | .int _,_,r=>r
 | .str _,_,r=>r
 | .tup ps,v,⟨b,vs,e,s,n,r⟩=>⟨b,vs,e,s,fun z=>n (z.imp id (hh _)),RepL.unhide hh r⟩
 | .lst ps,v,⟨b,vs,e,s,n,r⟩=>⟨b,vs,e,s,fun z=>n (z.imp id (hh _)),RepL.unhide hh r⟩
 | .fro ps,v,⟨b,vs,e,s,n,r⟩=>⟨b,vs,e,s,fun z=>n (z.imp id (hh _)),RepL.unhide hh r⟩
 | .ref i,v,r=>r
 | .dic,v,⟨b,e,s,n⟩=>⟨b,e,s,fun z=>n (z.imp id (hh _))⟩
theorem RepL.unhide {hs:List aA} (hh:∀ a,a∈hs->a∈ρ.hid):∀ {ps:List PV} {vs:List V},RepL H ρ ps vs->RepL H ⟨ρ.tr,hs⟩ ps vs
 | [],_,r=>r
 | p :: ps,_,⟨v,t,e,r1,r2⟩=>⟨v,t,e,Rep.unhide hh r1,RepL.unhide hh r2⟩
end
theorem RepL.length:∀ {ps:List PV} {vs:List V},RepL H ρ ps vs->ps.length=vs.length
 | [],_,h=>by cases h; rfl
 | p :: ps,_,⟨v,r,rfl,_,h2⟩=>by rw [D2,D2,RepL.length h2]
theorem RepL.get:∀ {ps:List PV} {vs:List V} {i:Nat} {p:PV},RepL H ρ ps vs->ps[i]?=some p->∃ v,vs[i]?=some v/\Rep H ρ p v
 | [],_,_,_,_,e=>by simp at e
 | p :: ps,_,0,q,⟨v,r,rfl,h1,h2⟩,e=>by simp at e; subst e; exact ⟨v,rfl,h1⟩
 | p :: ps,_,i + 1,q,⟨v,r,rfl,h1,h2⟩,e=>by
  obtain ⟨u,e1,e2⟩:=RepL.get (i:=i) h2 (by simpa using e);exact ⟨u,by simpa using e1,e2⟩
theorem RepL.cons {p:PV} (h:Rep H ρ p v) (r:RepL H ρ ps vs):RepL H ρ (p :: ps) (v :: vs):=⟨v,vs,rfl,h,r⟩
theorem RepL.nil:RepL H ρ [] []:=rfl
theorem RepL.append:∀ {ps qs:List PV} {vs us:List V},RepL H ρ ps vs->RepL H ρ qs us->RepL H ρ (ps ++ qs) (vs ++ us)
 | [],_,_,_,h,g=>by cases h; exact g
 | p :: ps,_,_,_,⟨v,r,rfl,h1,h2⟩,g=>⟨v,_,rfl,h1,RepL.append h2 g⟩
theorem RepL.take:∀ {ps:List PV} {vs:List V} (n:Nat),RepL H ρ ps vs->RepL H ρ (ps.take n) (vs.take n)
 | _,_,0,_=>rfl
 | [],_,n + 1,h=>by cases h; rfl
 | p :: ps,_,n + 1,⟨v,r,rfl,h1,h2⟩=>⟨v,_,rfl,h1,RepL.take n h2⟩
theorem RepL.drop:∀ {ps:List PV} {vs:List V} (n:Nat),RepL H ρ ps vs->RepL H ρ (ps.drop n) (vs.drop n)
 | _,_,0,h=>h
 | [],_,n + 1,h=>by cases h; rfl
 | p :: ps,_,n + 1,⟨v,r,rfl,h1,h2⟩=>RepL.drop n h2
theorem RepL.set {p:PV} (h:Rep H ρ p v):∀ {ps:List PV} {vs:List V} (i:Nat),RepL H ρ ps vs->RepL H ρ (ps.set i p) (vs.set i v)
 | [],_,_,g=>by cases g; rfl
 | q :: ps,_,0,⟨u,r,rfl,h1,h2⟩=>⟨v,r,rfl,h,h2⟩
 | q :: ps,_,i + 1,⟨u,r,rfl,h1,h2⟩=>⟨u,_,rfl,h1,RepL.set h i h2⟩
theorem RepL.rep (h:RepL H ρ ps vs):∀ n,RepL H ρ (List.replicate n ps).flatten (List.replicate n vs).flatten
 | 0=>rfl
 | n + 1=>by rw [L6,L6,List.flatten_cons,List.flatten_cons]; exact h.append (RepL.rep h n)
theorem RepL.toInts:∀ {ns:List Int} {vs:List V},RepL H ρ (ns.map .int) vs->vs=ns.map V.int
 | [],_,h=>h
 | n :: ns,_,⟨v,r,rfl,h1,h2⟩=>by
  have e:v=V.int n:=h1;rw [RepL.toInts h2,e]; rfl
theorem RepL.toBls:∀ {ns:List Bool} {vs:List V},RepL H ρ (ns.map .bl) vs->vs=ns.map V.bl
 | [],_,h=>h
 | n :: ns,_,⟨v,r,rfl,h1,h2⟩=>by
  have e:v=V.bl n:=h1;rw [RepL.toBls h2,e]; rfl
end
def RepD {κ:Type} (H:Hp) (ρ:Tk) (kvs:List (κ × PV)) (vs:List (κ × V)):Prop:=vs.map Prod.fst=kvs.map Prod.fst/\RepL H ρ (kvs.map Prod.snd) (vs.map Prod.snd)
theorem RepD.ext {ρ':Tk} {kvs:List (κ × PV)} {vs:List (κ × V)} (x:Ext H ρ H' ρ') (r:RepD H ρ kvs vs):RepD H' ρ' kvs vs:=⟨r.1,r.2.ext x⟩
theorem RepD.length {kvs:List (κ × PV)} {vs:List (κ × V)} (r:RepD H ρ kvs vs):kvs.length=vs.length:=by
 have:=congrArg List.length r.1;rw [O2,O2] at this;exact this.symm
def CellR (H:Hp) (ρ:Tk) (a:aA):Cell->Prop
 | .lst ps=>∃ vs,H a=some (.lst vs)/\RepL H ρ ps vs
 | .dic kvs=>∃ vs,H a=some (.dK vs)/\RepD H ρ kvs vs
 | .dtp kvs=>∃ vs,H a=some (.dT vs)/\RepD H ρ kvs vs
 | .frd kvs=>∃ vs,(∃ o,H a=some (.frz o (.dK vs)))/\RepD H ρ kvs vs
 | .obj C fs=>∃ vs,(∃ dx,H a=some (.ins C dx vs))/\RepD H ρ fs vs
theorem CellR.dom :∀ {c:Cell},CellR H ρ a c->∃ o,H a=some o
 | .lst _,⟨_,e,_⟩=>⟨_,e⟩
 | .dic _,⟨_,e,_⟩=>⟨_,e⟩
 | .dtp _,⟨_,e,_⟩=>⟨_,e⟩
 | .frd _,⟨_,⟨_,e⟩,_⟩=>⟨_,e⟩
 | .obj _ _,⟨_,⟨_,e⟩,_⟩=>⟨_,e⟩
theorem CellR.ext {ρ':Tk} (x:Ext H ρ H' ρ') (k:∀ o,H a=some o->H' a=some o):∀ {c:Cell},CellR H ρ a c->CellR H' ρ' a c
 | .lst _,⟨vs,e,r⟩=>⟨vs,k _ e,r.ext x⟩
 | .dic _,⟨vs,e,r⟩=>⟨vs,k _ e,r.ext x⟩
 | .dtp _,⟨vs,e,r⟩=>⟨vs,k _ e,r.ext x⟩
 | .frd _,⟨vs,⟨o,e⟩,r⟩=>⟨vs,⟨o,k _ e⟩,r.ext x⟩
 | .obj _ _,⟨vs,⟨o,e⟩,r⟩=>⟨vs,⟨o,k _ e⟩,r.ext x⟩
structure Rel (H:Hp) (ρ:Tk) (st:Q0):Prop where
 len:ρ.tr.length=st.length
 nd:ρ.tr.Nodup
 hd:∀ a∈ρ.hid,∃ o,H a=some o/\∀ xs,o≠.tup xs
 ap:∀ a∈ρ.hid,a∉ρ.tr
 cell:∀ (i:Nat) (a:aA) (c:Cell),ρ.tr[i]?=some a->st[i]?=some c->CellR H ρ a c
section
variable {H H':Hp} {ρ ρ':Tk} {st st':Q0}
theorem Rel.lst (R:Rel H ρ st) {i:Nat} (h:st[i]?=some (.lst ps)):∃ a vs,ρ.tr[i]?=some a/\H a=some (.lst vs)/\RepL H ρ ps vs:=by
 have hi:i < ρ.tr.length:=by rw [R.len]; exact (O1.mp h).1
 have e:ρ.tr[i]?=some ρ.tr[i]:=O3 hi;obtain ⟨vs,e1,e2⟩:=R.cell i _ _ e h;exact ⟨_,vs,e,e1,e2⟩
theorem Rel.obj (R:Rel H ρ st) {i:Nat} {C:aA} {fs:List (Str × PV)} (h:st[i]?=some (.obj C fs)):∃ a vs dx,ρ.tr[i]?=some a/\H a=some (.ins C dx vs)/\RepD H ρ fs vs:=by
 have hi:i < ρ.tr.length:=by rw [R.len]; exact (O1.mp h).1
 have e:ρ.tr[i]?=some ρ.tr[i]:=O3 hi;obtain ⟨vs,⟨o,e1⟩,e2⟩:=R.cell i _ _ e h;exact ⟨_,vs,o,e,e1,e2⟩
theorem Rel.dom (R:Rel H ρ st) (h:a∈ρ.tr):∃ o,H a=some o:=by
 obtain ⟨i,hi,e⟩:=List.getElem_of_mem h;have hs:i < st.length:=by rw [<- R.len]; exact hi
 have q:=R.cell i a st[i] (by rw [O3 hi,e]) (O3 hs);exact q.dom
theorem Rel.fresh (R:Rel H ρ st) (h:H p=none):p∉ρ:=fun z=>by
 rcases z with z | z
 ·obtain ⟨vs,q⟩:=R.dom z;rw [h] at q; cases q
 ·obtain ⟨o,q,_⟩:=R.hd p z;rw [h] at q; cases q
theorem Rel.later (R:Rel H ρ st) (x:Ext H ρ H' ρ) (k:∀ a o,a∈ρ.tr->H a=some o->H' a=some o):Rel H' ρ st where
 len:=R.len
 nd:=R.nd
 hd:=fun a ha=>let ⟨o,e,n⟩:=R.hd a ha; ⟨o,x.keep a o e (R.ap a ha),n⟩
 ap:=R.ap
 cell:=fun i a c h1 h2=>by
  exact (R.cell i a c h1 h2).ext x fun o e=>k a o (E4 h1) e
end
theorem Rel.add (R:Rel H ρ st) (h:H p=none):Rel (upd H p o) ρ st:=
 R.later (Ext.add h) fun a u hm e=>by rw [Q7 (Q9 e h)]; exact e
theorem Rel.same (R:Rel H ρ st) (h:Same H H'):Rel H' ρ st:=R.later (Ext.same h) fun a u _ e=>h a u e
theorem Rel.addC (R:Rel H ρ st) (h:H p=none) (r:CellR (upd H p o) (ρ.add p) p cl):Rel (upd H p o) (ρ.add p) (st ++ [cl]) where
 len:=by show (ρ.tr ++ [p]).length=_; rw [D0,D0,R.len]; rfl
 nd:=List.nodup_append.mpr ⟨R.nd,by simp,fun a ha b hb e=>by
  have:b=p:=by simpa using hb
  subst this; subst e;exact R.fresh h (.inl ha)⟩
 hd:=fun a ha=>let ⟨o,e,n⟩:=R.hd a ha; ⟨o,by rw [Q7 (Q9 e h)]; exact e,n⟩
 ap:=fun a ha z=>by
  rcases F7.mp z with z | z
  ·exact R.ap a ha z
  ·have:a=p:=by simpa using z
   subst this;exact R.fresh h (.inr ha)
 cell:=fun i a c h1 h2=>by
  have h1:(ρ.tr ++ [p])[i]?=some a:=h1
  by_cases hi:i < st.length
  ·rw [O9 (by rw [R.len]; exact hi)] at h1;rw [O9 hi] at h2;exact (R.cell i a c h1 h2).ext (Ext.addT h) fun u e=>by rw [Q7 (Q9 e h)]; exact e
  ·rw [E2 (by rw [R.len]; omega)] at h1;rw [E2 (by omega)] at h2;have e0:i - st.length=0:=by
    rcases Nat.eq_zero_or_pos (i - st.length) with z | z
    ·exact z
    ·rw [E9 (by simp; omega)] at h2; cases h2
   rw [R.len,e0] at h1;rw [e0] at h2;simp at h1 h2;subst h1; subst h2;exact r
theorem Q7n {α:Type} {l:List α} (h:l.Nodup) {i j:Nat} (hi:i < l.length) (hj:j < l.length) (e:l[i]=l[j]):i=j:=by
 rcases Nat.lt_trichotomy i j with z | z | z
 ·exact absurd e ((List.pairwise_iff_getElem.mp h) i j hi hj z)
 ·exact z
 ·exact absurd e.symm ((List.pairwise_iff_getElem.mp h) j i hj hi z)
theorem Ext.put {o':HO} (h:a∈ρ.tr) (e:H a=some o) (nf:∀ q u,o≠.frz q u:=by intro _ _ z; cases z):Ext H ρ (upd H a o') ρ where
 pre:=List.prefix_refl _
 hidM:=fun _ h=>h
 hidN:=fun _ h=>.inl h
 keep:=fun b u q n=>by rw [Q7 (show b≠a from fun z=>n (by rw [z]; exact h))]; exact q
 new:=fun b q=>.inl q
 old:=fun b u q=>by
  by_cases z:b=a
  ·exact ⟨o',by rw [z]; exact Qz⟩
  ·exact ⟨u,by rw [Q7 z]; exact q⟩
 frz:=fun b q u k=>by
  by_cases z:b=a
  ·rw [z,e] at k; cases k; exact absurd rfl (nf _ _)
  ·rw [Q7 z]; exact k
theorem Rel.putC (R:Rel H ρ st) {i:Nat} {o':HO} (hi:ρ.tr[i]?=some a) (e:H a=some o) (r:CellR (upd H a o') ρ a cl):Rel (upd H a o') ρ (st.set i cl) where
 len:=by rw [F2]; exact R.len
 nd:=R.nd
 hd:=fun b hb=>let ⟨u,q,n⟩:=R.hd b hb; ⟨u,by rw [Q7 (show b≠a from fun z=>R.ap b hb (by rw [z]; exact E4 hi))]; exact q,n⟩
 ap:=R.ap
 cell:=fun j b c h1 h2=>by
  by_cases hj:i=j
  ·subst hj;rw [hi] at h1; cases h1;rw [D7 (by rw [<- R.len]; exact (O1.mp hi).1)] at h2;cases h2;exact r
  ·rw [D5 hj] at h2;have q:=R.cell j b c h1 h2;have hb:b≠a:=fun z=>by
    subst z;have l1:=(O1.mp hi);have l2:=(O1.mp h1);exact hj (Q7n R.nd l1.1 l2.1 (l1.2.trans l2.2.symm))
   have hm:=E4 hi;cases c with
   | lst ps=>
    obtain ⟨vs,e1,e2⟩:=q;exact ⟨vs,by rw [Q7 hb]; exact e1,e2.retr hm⟩
   | dic ps=>
    obtain ⟨vs,e1,e2⟩:=q;exact ⟨vs,by rw [Q7 hb]; exact e1,e2.1,e2.2.retr hm⟩
   | dtp ps=>
    obtain ⟨vs,e1,e2⟩:=q;exact ⟨vs,by rw [Q7 hb]; exact e1,e2.1,e2.2.retr hm⟩
   | frd ps=>
    obtain ⟨vs,⟨oo,e1⟩,e2⟩:=q;exact ⟨vs,⟨oo,by rw [Q7 hb]; exact e1⟩,e2.1,e2.2.retr hm⟩
   | obj C ps=>
    obtain ⟨vs,⟨oo,e1⟩,e2⟩:=q;exact ⟨vs,⟨oo,by rw [Q7 hb]; exact e1⟩,e2.1,e2.2.retr hm⟩
theorem Rel.put (R:Rel H ρ st) {i:Nat} (hi:ρ.tr[i]?=some a) (e:H a=some o) (r:RepL H ρ ps vs):Rel (upd H a (.lst vs)) ρ (st.set i (.lst ps)):=
 R.putC hi e ⟨vs,Qz,r.retr (E4 hi)⟩
theorem Rel.hide (R:Rel H ρ st) (h:H p=none) (nt:∀ xs,o≠.tup xs:=by intro _ z; cases z):Rel (upd H p o) (ρ.hide p) st:=by
 have x:Ext H ρ (upd H p o) ρ:=Ext.add h;have R':=R.add (p:=p) (o:=o) h;refine ⟨R'.len,R'.nd,fun a ha=>?_,fun a ha z=>?_,fun i a c h1 h2=>?_⟩
 ·rcases E7.mp ha with rfl | ha
  ·exact ⟨o,Qz,nt⟩
  ·exact R'.hd a ha
 ·rcases E7.mp ha with rfl | ha
  ·exact R.fresh h (.inl z)
  ·exact R.ap a ha z
 ·have q:=R.cell i a c h1 h2;cases c with
  | lst ps=>
   obtain ⟨vs,e1,e2⟩:=q;exact ⟨vs,by rw [Q7 (Q9 e1 h)]; exact e1,e2.hide h⟩
  | dic ps=>
   obtain ⟨vs,e1,e2⟩:=q;exact ⟨vs,by rw [Q7 (Q9 e1 h)]; exact e1,e2.1,e2.2.hide h⟩
  | dtp ps=>
   obtain ⟨vs,e1,e2⟩:=q;exact ⟨vs,by rw [Q7 (Q9 e1 h)]; exact e1,e2.1,e2.2.hide h⟩
  | frd ps=>
   obtain ⟨vs,⟨oo,e1⟩,e2⟩:=q;exact ⟨vs,⟨oo,by rw [Q7 (Q9 e1 h)]; exact e1⟩,e2.1,e2.2.hide h⟩
  | obj C ps=>
   obtain ⟨vs,⟨oo,e1⟩,e2⟩:=q;exact ⟨vs,⟨oo,by rw [Q7 (Q9 e1 h)]; exact e1⟩,e2.1,e2.2.hide h⟩
theorem Rel.rehide (R:Rel H ρ st) (h:p∈ρ.hid) (nt:∀ xs,o≠.tup xs:=by intro _ z; cases z):Rel (upd H p o) ρ st:=by
 refine ⟨R.len,R.nd,fun a ha=>?_,R.ap,fun i a c h1 h2=>?_⟩
 ·by_cases e:a=p
  ·exact ⟨o,by rw [e]; exact Qz,nt⟩
  ·obtain ⟨u,q,n⟩:=R.hd a ha;exact ⟨u,by rw [Q7 e]; exact q,n⟩
 ·have q:=R.cell i a c h1 h2;have ne:a≠p:=fun z=>R.ap p h (by rw [<- z]; exact E4 h1)
  cases c with
  | lst ps=>
   obtain ⟨vs,e1,e2⟩:=q;exact ⟨vs,by rw [Q7 ne]; exact e1,e2.rehide h⟩
  | dic ps=>
   obtain ⟨vs,e1,e2⟩:=q;exact ⟨vs,by rw [Q7 ne]; exact e1,e2.1,e2.2.rehide h⟩
  | dtp ps=>
   obtain ⟨vs,e1,e2⟩:=q;exact ⟨vs,by rw [Q7 ne]; exact e1,e2.1,e2.2.rehide h⟩
  | frd ps=>
   obtain ⟨vs,⟨oo,e1⟩,e2⟩:=q;exact ⟨vs,⟨oo,by rw [Q7 ne]; exact e1⟩,e2.1,e2.2.rehide h⟩
  | obj C ps=>
   obtain ⟨vs,⟨oo,e1⟩,e2⟩:=q;exact ⟨vs,⟨oo,by rw [Q7 ne]; exact e1⟩,e2.1,e2.2.rehide h⟩
theorem Rel.unhide (hh:∀ a,a∈hs->a∈ρ.hid) (R:Rel H ρ st):Rel H ⟨ρ.tr,hs⟩ st:=by
 refine ⟨R.len,R.nd,fun a ha=>R.hd a (hh a ha),fun a ha=>R.ap a (hh a ha),fun i a c h1 h2=>?_⟩;have q:=R.cell i a c h1 h2;cases c with
 | lst ps=>
  obtain ⟨vs,e1,e2⟩:=q;exact ⟨vs,e1,RepL.unhide hh e2⟩
 | dic ps=>
  obtain ⟨vs,e1,e2⟩:=q;exact ⟨vs,e1,e2.1,RepL.unhide hh e2.2⟩
 | dtp ps=>
  obtain ⟨vs,e1,e2⟩:=q;exact ⟨vs,e1,e2.1,RepL.unhide hh e2.2⟩
 | frd ps=>
  obtain ⟨vs,e1,e2⟩:=q;exact ⟨vs,e1,e2.1,RepL.unhide hh e2.2⟩
 | obj C ps=>
  obtain ⟨vs,e1,e2⟩:=q;exact ⟨vs,e1,e2.1,RepL.unhide hh e2.2⟩
theorem Ext.hide (h:H p=none):Ext H ρ (upd H p o) (ρ.hide p) where
 pre:=List.prefix_refl _
 hidM:=fun _ h=>O6 _ h
 hidN:=fun a ha=>by
  rcases E7.mp ha with rfl | ha
  ·exact .inr h
  ·exact .inl ha
 keep:=fun a u e _=>by rw [Q7 (Q9 e h)]; exact e
 new:=fun a e=>.inl e
 old:=fun a u e=>⟨u,by rw [Q7 (Q9 e h)]; exact e⟩
 frz:=fun a o u e=>by rw [Q7 (Q9 e h)]; exact e
theorem Ext.put0 {H1:Hp} {ρ1:Tk} (x:Ext H ρ H1 ρ1) (h:H p=none):Ext H ρ (upd H1 p o) ρ1 where
 pre:=x.pre
 hidM:=x.hidM
 hidN:=x.hidN
 keep:=fun a u e n=>by rw [Q7 (Q9 e h)]; exact x.keep a u e n
 new:=x.new
 old:=fun a u e=>by rw [Q7 (Q9 e h)]; exact x.old a u e
 frz:=fun a o u e=>by rw [Q7 (Q9 e h)]; exact x.frz a o u e
theorem Ext.unhide {H1:Hp} {ρ1:Tk} (x:Ext H ρ H1 ρ1):Ext H ρ H1 ⟨ρ1.tr,ρ.hid⟩ where
 pre:=x.pre
 hidM:=fun _ h=>h
 hidN:=fun _ h=>.inl h
 keep:=x.keep
 new:=x.new
 old:=x.old
 frz:=x.frz
def EnvR (H:Hp) (ρ:Tk) (Γ:Gam) (σ:St):Prop:=Γ.length=σ.length/\∀ (i:Nat) (p:PV),Γ[i]?=some (some p)->∃ v,σ[i]?=some (some v)/\Rep H ρ p v
theorem EnvR.ext {ρ':Tk} (x:Ext H ρ H' ρ') (h:EnvR H ρ Γ σ):EnvR H' ρ' Γ σ:=
 ⟨h.1,fun i p e=>let ⟨v,a,b⟩:=h.2 i p e; ⟨v,a,b.ext x⟩⟩
theorem EnvR.hide (n:H a=none) (h:EnvR H ρ Γ σ):EnvR (upd H a o) (ρ.hide a) Γ σ:=⟨h.1,fun i p e=>let ⟨v,a,b⟩:=h.2 i p e; ⟨v,a,b.hide n⟩⟩
theorem EnvR.rehide (n:a∈ρ.hid) (h:EnvR H ρ Γ σ):EnvR (upd H a o) ρ Γ σ:=⟨h.1,fun i p e=>let ⟨v,a,b⟩:=h.2 i p e; ⟨v,a,b.rehide n⟩⟩
theorem EnvR.set {p:PV} (h:EnvR H ρ Γ σ) (r:Rep H ρ p v) (i:Nat):EnvR H ρ (Γ.set i (some p)) (σ.set i (some v)):=by
 refine ⟨by rw [F2,F2]; exact h.1,fun j q e=>?_⟩;rw [List.getElem?_set] at e;rw [List.getElem?_set]
 by_cases hj:i=j
 ·subst hj;simp only [if_true] at e ⊢
  by_cases hl:i < Γ.length
  ·rw [bM hl] at e; cases e;rw [bM (by rw [<- h.1]; exact hl)];exact ⟨v,rfl,r⟩
  ·rw [bN hl] at e; cases e
 ·rw [bN hj] at e ⊢;exact h.2 j q e
end
def Res.bind {α β:Type} (r:Res α) (f:α->Q0->Res β):Res β:=match r with
 | .ok a st=>f a st
 | .exc x st=>.exc x st
 | .stuck=>.stuck
def okO {α:Type} (st:Q0):Option α->Res α
 | some a=>.ok a st
 | none=>.stuck
section
variable (X:Cx)
def WE (e:aF):TE:=fun σ H Q=>∀ (pins:List (aA × Obj)) (s:aC),Inv X pins σ H s->aI (aJ X.prog X.w) X.A (aL e X.env) (EP X pins σ Q) X.xe s
def WT (e:aF):TT:=fun σ H Q=>∀ (pins:List (aA × Obj)) (s:aC),Inv X pins σ H s->aI (aJ X.prog X.w) X.A (isTrue e X.env (aL e X.env)) (TP X pins σ Q) X.xe s
def WW (e:aF):TT:=fun σ H Q=>∀ (wh:Sem aB) (pins:List (aA × Obj)) (s:aC),Inv X pins σ H s->aI (aJ X.prog X.w) X.A (isTrue e X.env wh) (TP X pins σ Q) X.xe s
def WA (es:List aF):TA:=fun σ H Q=>∀ (pos:Pos) (pins:List (aA × Obj)) (s:aC),Inv X pins σ H s->aI (aJ X.prog X.w) X.A (spliced (aS pos (aM es X.env))) (AP X pins σ Q) X.xe s
def WS (st:aK):TS:=fun D σ H=>∀ (pins:List (aA × Obj)) (s:aC),Inv X pins σ H s->aI (aJ X.prog X.w) X.A (exec st X.env) (SP X pins D) X.xe s
def WB (st:List aK):TS:=fun D σ H=>∀ (pins:List (aA × Obj)) (s:aC),Inv X pins σ H s->aI (aJ X.prog X.w) X.A (execs st X.env) (SP X pins D) X.xe s
def WI (tg iter : aF) : TI := fun σ H R => ∀ (pins : List (aA × Obj)) (s : aC), Inv X pins σ H s ->
  aI (aJ X.prog X.w) X.A (aL iter X.env) (fun v s1=>aI (aJ X.prog X.w) X.A (pyIter v) (PIE X pins σ tg R) X.xe s1) X.xe s
def WO (f:aB->aB->Sem aB):R2:=fun x y H Q=>∀ (pins:List (aA × Obj)) (s:aC) (σ:St) (v u:aB),Inv X pins σ H s->RelV x v->RelV y u->aI (aJ X.prog X.w) X.A (f v u) (EP X pins σ Q) X.xe s
def WC (f:aB):List V->Hp->VK->Prop:=fun xs H Q=>∀ (pins:List (aA × Obj)) (s:aC) (σ:St) (us:List aB),Inv X pins σ H s->Vals xs us->aI (aJ X.prog X.w) X.A (call f us) (EP X pins σ Q) X.xe s
end
variable {X:Cx}
theorem Yr :PE X e (WE X e):=fun pins s _ _ _ I h=>h pins s I
theorem Qaj :PT X e (WT X e):=fun pins s _ _ _ I h=>h pins s I
theorem Qvu :PW X e (WW X e):=fun wh pins s _ _ _ I h=>h wh pins s I
theorem Q0q :PA X es (WA X es):=fun pos pins s _ _ _ I h=>h pos pins s I
theorem Qvw {st:aK}:PS X st (WS X st):=fun pins s _ _ _ I h=>h pins s I
theorem Q53 {st:List aK}:PSs X st (WB X st):=fun pins s _ _ _ I h=>h pins s I
theorem Qsh {tg iter:aF}:PI X tg iter (WI X tg iter):=fun pins s _ _ _ I h=>h pins s I
theorem Qcc :OpR X f (WO X f):=fun pins s σ _ _ _ v u _ I r1 r2 h=>h pins s σ v u I r1 r2
theorem Qk9 {f:aB}:K3 X f (WC X f):=fun pins s σ _ _ us _ I r h=>h pins s σ us I r
theorem WE.of {t:TE} {Q:VK} (h:PE X e t) (q:t σ H Q):WE X e σ H Q:=fun pins s I=>h pins s σ H Q I q
theorem WT.of {t:TT} (h:PT X e t) (q:t σ H Q):WT X e σ H Q:=fun pins s I=>h pins s σ H Q I q
theorem WW.of {t:TT} (h:PW X e t) (q:t σ H Q):WW X e σ H Q:=fun wh pins s I=>h wh pins s σ H Q I q
theorem WA.of {t:TA} {Q:List V->Hp->Prop} (h:PA X es t) (q:t σ H Q):WA X es σ H Q:=fun pos pins s I=>h pos pins s σ H Q I q
theorem WS.of {st:aK} {t:TS} (h:PS X st t) (q:t D σ H):WS X st D σ H:=fun pins s I=>h pins s σ H D I q
theorem WB.of {st:List aK} {t:TS} (h:PSs X st t) (q:t D σ H):WB X st D σ H:=fun pins s I=>h pins s σ H D I q
theorem WI.of {tg iter:aF} {t:TI} {R:It->Hp->Prop} (h:PI X tg iter t) (q:t σ H R):WI X tg iter σ H R:=fun pins s I=>h pins s σ H R I q
theorem WO.of {r:R2} {x y:V} {Q:VK} (h:OpR X f r) (q:r x y H Q):WO X f x y H Q:=fun pins s σ v u I r1 r2=>h pins s σ H x y v u Q I r1 r2 q
theorem WC.of {f:aB} {r:List V->Hp->VK->Prop} {xs:List V} {Q:VK} (h:K3 X f r) (q:r xs H Q):WC X f xs H Q:=fun pins s σ us I r1=>h pins s σ H xs us Q I r1 q
def XFs (H:Hp) (ρ:Tk):Option (Str × PV)->Option aA->Prop
 | none,dv=>dv=none
 | some (n,p),dv=>∃ dx v,dv=some dx/\H dx=some (.xd [(n,v)])/\dx∉ρ/\Rep H ρ p v
def Acc {α:Type} (mg:Str->Option aB) (E:XK) (H:Hp) (ρ:Tk) (P:α->Q0->Hp->Tk->Prop):Res α->Prop
 | .ok a st=>∀ H' ρ',Ext H ρ H' ρ'->Rel H' ρ' st->P a st H' ρ'
 | .exc x st=>∀ C dv H' ρ',mg x.cls=some (.ref C)->Ext H ρ H' ρ'->Rel H' ρ' st->XFs H' ρ' x.fs dv->E (.ref C) dv H'
 | .stuck=>False
variable {α β:Type} {mg:Str->Option aB} {E:XK} {H H1:Hp} {ρ ρ1:Tk}
theorem Acc.mono {P P':α->Q0->Hp->Tk->Prop} {r:Res α} (h:Acc mg E H ρ P r) (x:Ext H ρ H1 ρ1) (k:∀ a st H' ρ',P a st H' ρ'->P' a st H' ρ'):Acc mg E H1 ρ1 P' r:=by
 cases r with
 | ok a st=>exact fun H' ρ' x' R'=>k _ _ _ _ (h H' ρ' (x.trans x') R')
 | exc e st=>exact fun C dv H' ρ' m x' R' f=>h C dv H' ρ' m (x.trans x') R' f
 | stuck=>exact h
theorem Acc.later {P:α->Q0->Hp->Tk->Prop} {r:Res α} (h:Acc mg E H ρ P r) (x:Ext H ρ H1 ρ1):Acc mg E H1 ρ1 P r:=h.mono x fun _ _ _ _ p=>p
theorem Acc.bind {P:β->Q0->Hp->Tk->Prop} {r:Res α} {f:α->Q0->Res β} (h:Acc mg E H ρ P (r.bind f)):Acc mg E H ρ (fun a st1 H1 ρ1=>Acc mg E H1 ρ1 P (f a st1)) r:=by
 cases r with
 | ok a st=>exact fun H' ρ' x' R'=>Acc.later (show Acc mg E H ρ P (f a st) from h) x'
 | exc e st=>exact h
 | stuck=>exact h
abbrev QV (Q:VK):PV->Q0->Hp->Tk->Prop:=fun p _ H' ρ'=>∀ v,Rep H' ρ' p v->Q v H'
abbrev QL (Q:List V->Hp->Prop):List PV->Q0->Hp->Tk->Prop:=fun ps _ H' ρ'=>∀ vs,RepL H' ρ' ps vs->Q vs H'
abbrev QB (Q:Bool->Hp->Prop):Bool->Q0->Hp->Tk->Prop:=fun b _ H' _=>Q b H'
structure SimE (X:Cx) (E:XK) (e:aF) (m:ME):Prop where
 run:∀ (Γ:Gam) (σ:St) (H:Hp) (ρ:Tk) (st:Q0) (Q:VK),Rel H ρ st->EnvR H ρ Γ σ->Acc X.mg E H ρ (QV Q) (m Γ st)->WE X e σ H Q
structure SimT (X:Cx) (E:XK) (e:aF) (m:Gam->Q0->Res Bool):Prop where
 run:∀ (Γ:Gam) (σ:St) (H:Hp) (ρ:Tk) (st:Q0) (Q:Bool->Hp->Prop),Rel H ρ st->EnvR H ρ Γ σ->Acc X.mg E H ρ (QB Q) (m Γ st)->WT X e σ H Q
structure SimW (X:Cx) (E:XK) (e:aF) (m:Gam->Q0->Res Bool):Prop where
 run:∀ (Γ:Gam) (σ:St) (H:Hp) (ρ:Tk) (st:Q0) (Q:Bool->Hp->Prop),Rel H ρ st->EnvR H ρ Γ σ->Acc X.mg E H ρ (QB Q) (m Γ st)->WW X e σ H Q
structure SimA (X:Cx) (E:XK) (es:List aF) (m:Gam->Q0->Res (List PV)):Prop where
 run:∀ (Γ:Gam) (σ:St) (H:Hp) (ρ:Tk) (st:Q0) (Q:List V->Hp->Prop),Rel H ρ st->EnvR H ρ Γ σ->Acc X.mg E H ρ (QL Q) (m Γ st)->WA X es σ H Q
abbrev OP:=Q0->PV->PV->Res PV
structure OpS (X:Cx) (E:XK) (f:aB->aB->Sem aB) (o:OP):Prop where
 run:∀ (H:Hp) (ρ:Tk) (st:Q0) (p q:PV) (x y:V) (Q:VK),Rel H ρ st->Rep H ρ p x->Rep H ρ q y->Acc X.mg E H ρ (QV Q) (o st p q)->WO X f x y H Q
abbrev CF:=Q0->List PV->Res PV
structure CallS (X:Cx) (E:XK) (f:aB) (o:CF):Prop where
 run:∀ (H:Hp) (ρ:Tk) (st:Q0) (ps:List PV) (xs:List V) (Q:VK),Rel H ρ st->RepL H ρ ps xs->Acc X.mg E H ρ (QV Q) (o st ps)->WC X f xs H Q
variable {Γ:Gam} {σ:St} {st:Q0}
theorem SimE.use {m:ME} (s:SimE X E e m) {P:PV->Q0->Hp->Tk->Prop} {Q:VK} (R:Rel H ρ st) (G:EnvR H ρ Γ σ) (h:Acc X.mg E H ρ P (m Γ st))
  (k:∀ p st1 H1 ρ1 v,Ext H ρ H1 ρ1->Rel H1 ρ1 st1->EnvR H1 ρ1 Γ σ->Rep H1 ρ1 p v->P p st1 H1 ρ1->Q v H1):WE X e σ H Q:=by
 refine s.run Γ σ H ρ st Q R G ?_;cases r:m Γ st with
 | ok p st1=>rw [r] at h; exact fun H' ρ' x' R' v rv=>k p st1 H' ρ' v x' R' (G.ext x') rv (h H' ρ' x' R')
 | exc e st=>rw [r] at h; exact h
 | stuck=>rw [r] at h; exact h
theorem SimE.use' {m:ME} (s:SimE X E e m) {P:PV->Q0->Hp->Tk->Prop} {Q:VK} (R:Rel H ρ st) (G:EnvR H ρ Γ σ) (h:Acc X.mg E H ρ P (m Γ st))
  (k:∀ p st1 H1 ρ1 v,m Γ st=.ok p st1->Ext H ρ H1 ρ1->Rel H1 ρ1 st1->EnvR H1 ρ1 Γ σ->Rep H1 ρ1 p v->P p st1 H1 ρ1->Q v H1):WE X e σ H Q:=by
 refine s.run Γ σ H ρ st Q R G ?_;cases r:m Γ st with
 | ok p st1=>rw [r] at h; exact fun H' ρ' x' R' v rv=>k p st1 H' ρ' v r x' R' (G.ext x') rv (h H' ρ' x' R')
 | exc e st=>rw [r] at h; exact h
 | stuck=>rw [r] at h; exact h
theorem SimA.use' {m:Gam->Q0->Res (List PV)} (s:SimA X E es m) {P:List PV->Q0->Hp->Tk->Prop} {Q:List V->Hp->Prop} (R:Rel H ρ st) (G:EnvR H ρ Γ σ) (h:Acc X.mg E H ρ P (m Γ st))
  (k:∀ ps st1 H1 ρ1 vs,m Γ st=.ok ps st1->Ext H ρ H1 ρ1->Rel H1 ρ1 st1->EnvR H1 ρ1 Γ σ->RepL H1 ρ1 ps vs->P ps st1 H1 ρ1->Q vs H1):WA X es σ H Q:=by
 refine s.run Γ σ H ρ st Q R G ?_;cases r:m Γ st with
 | ok p st1=>rw [r] at h; exact fun H' ρ' x' R' v rv=>k p st1 H' ρ' v r x' R' (G.ext x') rv (h H' ρ' x' R')
 | exc e st=>rw [r] at h; exact h
 | stuck=>rw [r] at h; exact h
theorem SimT.use {m:Gam->Q0->Res Bool} (s:SimT X E e m) {P:Bool->Q0->Hp->Tk->Prop} {Q:Bool->Hp->Prop} (R:Rel H ρ st) (G:EnvR H ρ Γ σ) (h:Acc X.mg E H ρ P (m Γ st))
  (k:∀ p st1 H1 ρ1,Ext H ρ H1 ρ1->Rel H1 ρ1 st1->EnvR H1 ρ1 Γ σ->P p st1 H1 ρ1->Q p H1):WT X e σ H Q:=by
 refine s.run Γ σ H ρ st Q R G ?_;cases r:m Γ st with
 | ok p st1=>rw [r] at h; exact fun H' ρ' x' R'=>k p st1 H' ρ' x' R' (G.ext x') (h H' ρ' x' R')
 | exc e st=>rw [r] at h; exact h
 | stuck=>rw [r] at h; exact h
theorem SimT.use' {m:Gam->Q0->Res Bool} (s:SimT X E e m) {P:Bool->Q0->Hp->Tk->Prop} {Q:Bool->Hp->Prop} (R:Rel H ρ st) (G:EnvR H ρ Γ σ) (h:Acc X.mg E H ρ P (m Γ st))
  (k:∀ p st1 H1 ρ1,m Γ st=.ok p st1->Ext H ρ H1 ρ1->Rel H1 ρ1 st1->EnvR H1 ρ1 Γ σ->P p st1 H1 ρ1->Q p H1):WT X e σ H Q:=by
 refine s.run Γ σ H ρ st Q R G ?_;cases r:m Γ st with
 | ok p st1=>rw [r] at h; exact fun H' ρ' x' R'=>k p st1 H' ρ' r x' R' (G.ext x') (h H' ρ' x' R')
 | exc e st=>rw [r] at h; exact h
 | stuck=>rw [r] at h; exact h
theorem SimW.use {m:Gam->Q0->Res Bool} (s:SimW X E e m) {P:Bool->Q0->Hp->Tk->Prop} {Q:Bool->Hp->Prop} (R:Rel H ρ st) (G:EnvR H ρ Γ σ) (h:Acc X.mg E H ρ P (m Γ st))
  (k:∀ p st1 H1 ρ1,Ext H ρ H1 ρ1->Rel H1 ρ1 st1->EnvR H1 ρ1 Γ σ->P p st1 H1 ρ1->Q p H1):WW X e σ H Q:=by
 refine s.run Γ σ H ρ st Q R G ?_;cases r:m Γ st with
 | ok p st1=>rw [r] at h; exact fun H' ρ' x' R'=>k p st1 H' ρ' x' R' (G.ext x') (h H' ρ' x' R')
 | exc e st=>rw [r] at h; exact h
 | stuck=>rw [r] at h; exact h
theorem SimA.use {m:Gam->Q0->Res (List PV)} (s:SimA X E es m) {P:List PV->Q0->Hp->Tk->Prop} {Q:List V->Hp->Prop} (R:Rel H ρ st) (G:EnvR H ρ Γ σ) (h:Acc X.mg E H ρ P (m Γ st))
  (k:∀ ps st1 H1 ρ1 vs,Ext H ρ H1 ρ1->Rel H1 ρ1 st1->EnvR H1 ρ1 Γ σ->RepL H1 ρ1 ps vs->P ps st1 H1 ρ1->Q vs H1):WA X es σ H Q:=by
 refine s.run Γ σ H ρ st Q R G ?_;cases r:m Γ st with
 | ok p st1=>rw [r] at h; exact fun H' ρ' x' R' v rv=>k p st1 H' ρ' v x' R' (G.ext x') rv (h H' ρ' x' R')
 | exc e st=>rw [r] at h; exact h
 | stuck=>rw [r] at h; exact h
theorem OpS.use {o:OP} (s:OpS X E f o) {P:PV->Q0->Hp->Tk->Prop} {Q:VK} {p q:PV} {x y:V} (R:Rel H ρ st) (rp:Rep H ρ p x) (rq:Rep H ρ q y) (h:Acc X.mg E H ρ P (o st p q))
  (k:∀ p st1 H1 ρ1 v,Ext H ρ H1 ρ1->Rel H1 ρ1 st1->Rep H1 ρ1 p v->P p st1 H1 ρ1->Q v H1):WO X f x y H Q:=by
 refine s.run H ρ st p q x y Q R rp rq ?_;cases r:o st p q with
 | ok p st1=>rw [r] at h; exact fun H' ρ' x' R' v rv=>k p st1 H' ρ' v x' R' rv (h H' ρ' x' R')
 | exc e st=>rw [r] at h; exact h
 | stuck=>rw [r] at h; exact h
end Sm
namespace Sm
open PySem PySem.Spec L2 SeqAt
variable {n:Nat} {ps:List PV}
mutual
def peq:PV->PV->Bool
 | .non,.non=>true
 | .bl a,.bl b=>a == b
 | .bl a,.int b=>(if a then 1 else 0) == b
 | .int a,.bl b=>a == (if b then 1 else 0)
 | .int a,.int b=>a == b
 | .str a,.str b=>a == b
 | .tup xs,.tup ys=>peqL xs ys
 | .lst xs,.lst ys=>peqL xs ys
 | .lst xs,.fro ys=>peqL xs ys
 | .fro xs,.lst ys=>peqL xs ys
 | .fro xs,.fro ys=>peqL xs ys
 | _,_=>false
def peqL:List PV->List PV->Bool
 | [],[]=>true
 | x :: xs,y :: ys=>peq x y && peqL xs ys
 | _,_=>false
end
def Z6:Nat->PV->Bool
 | _,.ref _=>false
 | _,.dic=>false
 | 0,.tup _=>false
 | 0,.lst _=>false
 | 0,.fro _=>false
 | n + 1,.tup xs=>xs.all (Z6 n)
 | n + 1,.lst xs=>xs.all (Z6 n)
 | n + 1,.fro xs=>xs.all (Z6 n)
 | _,_=>true
theorem Q55:∀ {xs ys:List PV},xs.length≠ys.length->peqL xs ys=false
 | [],[],h=>absurd rfl h
 | [],_ :: _,_=>by simp [peqL]
 | _ :: _,[],_=>by simp [peqL]
 | x :: xs,y :: ys,h=>by
  rw [peqL,Q55 (xs:=xs) (ys:=ys) fun e=>h (by simp [e]),Bool.and_false]
theorem Q56:∀ {xs ys:List PV},xs.length=ys.length->peqL xs ys=(List.range xs.length).all fun j=>peq (xs.getD j .non) (ys.getD j .non)
 | [],[],_=>by simp [peqL]
 | [],_ :: _,h=>by simp at h
 | _ :: _,[],h=>by simp at h
 | x :: xs,y :: ys,h=>by
  rw [peqL,Q56 (xs:=xs) (ys:=ys) (by simpa using h),D2,List.range_succ_eq_map,List.all_cons,List.all_map];rfl
variable {X:Cx} {pins:List (aA × Obj)} {σ:St} {H:Hp} {s:aC} {ρ:Tk}
mutual
theorem Qag:∀ {p q:PV} {x:V} {n:Nat},Z6 n p=true->Z6 n q=true->Rep H ρ p x->Rep H ρ q x->peq p q=true
 | .non,q,x,n,_,gq,h1,h2=>by
  cases h1;cases q <;> first | rfl | (cases n <;> cases gq; done) | (cases h2; done) | (obtain ⟨_,_,e,_⟩:=h2; cases e) | (obtain ⟨_,_,e⟩:=h2; cases e)
 | .bl b,q,x,n,_,gq,h1,h2=>by
  cases h1;cases q <;> first | (cases n <;> cases gq; done) | (cases h2; simp [peq]; done) | (obtain ⟨_,_,e,_⟩:=h2; done) | (obtain ⟨_,_,e,_⟩:=h2; cases e; done) | (obtain ⟨_,_,e⟩:=h2; cases e)
 | .int b,q,x,n,_,gq,h1,h2=>by
  cases h1;cases q <;> first | (cases n <;> cases gq; done) | (cases h2; simp [peq]; done) | (obtain ⟨_,_,e,_⟩:=h2; done) | (obtain ⟨_,_,e,_⟩:=h2; cases e; done) | (obtain ⟨_,_,e⟩:=h2; cases e)
 | .str b,q,x,n,_,gq,h1,h2=>by
  cases h1;cases q <;> first | (cases n <;> cases gq; done) | (cases h2; simp [peq]; done) | (obtain ⟨_,_,e,_⟩:=h2; done) | (obtain ⟨_,_,e,_⟩:=h2; cases e; done) | (obtain ⟨_,_,e⟩:=h2; cases e)
 | .tup ps,q,x,0,gp,_,_,_=>by cases gp
 | .tup ps,q,x,n + 1,gp,gq,⟨a,vs,e,ha,_,r⟩,h2=>by
  subst e;cases q with
  | tup qs=>
   obtain ⟨b,us,e,hb,_,r2⟩:=h2;cases e;rw [ha] at hb; cases hb;rw [peq];exact repL_same gp gq r r2
  | lst qs=>obtain ⟨b,us,e,hb,_⟩:=h2; cases e; rw [ha] at hb; cases hb
  | fro qs=>obtain ⟨b,us,e,hb,_⟩:=h2; cases e; rcases hb with hb | ⟨o,hb⟩ <;> (rw [ha] at hb; cases hb)
  | ref i=>cases gq
  | dic=>cases gq
  | _=>cases h2
 | .lst ps,q,x,0,gp,_,_,_=>by cases gp
 | .lst ps,q,x,n + 1,gp,gq,⟨a,vs,e,ha,_,r⟩,h2=>by
  subst e;cases q with
  | lst qs=>
   obtain ⟨b,us,e,hb,_,r2⟩:=h2;cases e;rw [ha] at hb; cases hb;rw [peq];exact repL_same gp gq r r2
  | tup qs=>obtain ⟨b,us,e,hb,_⟩:=h2; cases e; rw [ha] at hb; cases hb
  | fro qs=>
   obtain ⟨b,us,e,hb,_,r2⟩:=h2;cases e;rcases hb with hb | ⟨o,hb⟩
   ·rw [ha] at hb; cases hb;rw [peq];exact repL_same gp gq r r2
   ·rw [ha] at hb; cases hb
  | ref i=>cases gq
  | dic=>cases gq
  | _=>cases h2
 | .fro ps,q,x,0,gp,_,_,_=>by cases gp
 | .fro ps,q,x,n + 1,gp,gq,⟨a,vs,e,ha,_,r⟩,h2=>by
  subst e;cases q with
  | lst qs=>
   obtain ⟨b,us,e,hb,_,r2⟩:=h2;cases e;rcases ha with ha | ⟨o,ha⟩
   ·rw [ha] at hb; cases hb;rw [peq];exact repL_same gp gq r r2
   ·rw [ha] at hb; cases hb
  | tup qs=>obtain ⟨b,us,e,hb,_⟩:=h2; cases e; rcases ha with ha | ⟨o,ha⟩ <;> (rw [ha] at hb; cases hb)
  | fro qs=>
   obtain ⟨b,us,e,hb,_,r2⟩:=h2;cases e;have:vs=us:=by
    rcases ha with ha | ⟨o,ha⟩ <;> rcases hb with hb | ⟨o',hb⟩ <;> (rw [ha] at hb; cases hb) <;> rfl
   subst this;rw [peq];exact repL_same gp gq r r2
  | ref i=>cases gq
  | dic=>cases gq
  | _=>cases h2
 | .ref i,_,_,n,gp,_,_,_=>by cases n <;> cases gp
 | .dic,_,_,n,gp,_,_,_=>by cases n <;> cases gp
theorem repL_same:∀ {ps qs:List PV} {vs:List V} {n:Nat},ps.all (Z6 n)=true->qs.all (Z6 n)=true->RepL H ρ ps vs->RepL H ρ qs vs->peqL ps qs=true
 | [],qs,vs,n,_,_,h1,h2=>by
  cases h1;cases qs with
  | nil=>rfl
  | cons q qs=>obtain ⟨_,_,e,_⟩:=h2; cases e
 | p :: ps,qs,vs,n,g1,g2,⟨v,r,e,h1,h1'⟩,h2=>by
  subst e;cases qs with
  | nil=>cases h2
  | cons q qs=>
   obtain ⟨_,_,e,h2,h2'⟩:=h2;cases e;rw [List.all_cons,F6] at g1 g2;rw [peqL,Qag g1.1 g2.1 h1 h2,repL_same g1.2 g2.2 h1' h2']; rfl
end
inductive Kd (H:Hp) (ρ:Tk) (s:aC):PV->aB->Prop where
 | non:Kd H ρ s .non .none
 | bl (b):Kd H ρ s (.bl b) (.bool b)
 | int (i t):Kd H ρ s (.int i) (.int i t)
 | str (x t):Kd H ρ s (.str x) (.str x t)
 | tup (ps a) (vs:List V) (its:List aB):H a=some (.tup vs)->RepL H ρ ps vs->Vals vs its->s.heap.IsTuple a its.toArray->Kd H ρ s (.tup ps) (.ref a)
 | lst (p ps a) (vs:List V) (its:List aB):(p=.lst ps\/p=.fro ps)->RepL H ρ ps vs->Vals vs its->s.heap.IsList a its.toArray->Kd H ρ s p (.ref a)
theorem Qe7 {p:PV} {x:V} {u:aB} (I:Inv X pins σ H s) (g:Z6 n p=true) (r:Rep H ρ p x) (ru:RelV x u):Kd H ρ s p u:=by
 cases p with
 | non=>cases r; cases ru; exact .non
 | bl b=>cases r; cases ru; exact .bl b
 | int i=>cases r; obtain ⟨t,rfl⟩:=ru; exact .int i t
 | str i=>cases r; obtain ⟨t,rfl⟩:=ru; exact .str i t
 | tup ps=>
  obtain ⟨a,vs,rfl,ha,_,rr⟩:=r;cases ru;obtain ⟨its,v1,p1,_⟩:=I.tuple (SqT.of (K:=X.K) ha);exact .tup ps a vs its ha rr v1 p1
 | lst ps=>
  obtain ⟨a,vs,rfl,ha,_,rr⟩:=r;cases ru;obtain ⟨its,v1,p1,_⟩:=I.list (SqL.of (K:=X.K) ha);exact .lst _ ps a vs its (.inl rfl) rr v1 p1.isList
 | fro ps=>
  obtain ⟨a,vs,rfl,ha,_,rr⟩:=r;cases ru;obtain ⟨its,v1,p1,_⟩:=I.list (show SqL X.K H a vs from .inl ha);exact .lst _ ps a vs its (.inr rfl) rr v1 p1.isList
 | ref i=>cases n <;> cases g
 | dic=>cases n <;> cases g
theorem Q27 {vs:List V} {its:List aB} (r:RepL H ρ ps vs) (v:Vals vs its) {j:Nat} (h:j < its.length):∃ x,Rep H ρ (ps.getD j .non) x/\RelV x its[j]:=by
 have l1:=r.length;have l2:=v.length;have hj:j < ps.length:=by omega
 obtain ⟨x,e1,e2⟩:=r.get (O3 hj);obtain ⟨u,e3,e4⟩:=v.get e1;rw [O3 h] at e3; cases e3;refine ⟨x,?_,e4⟩;rw [List.getD,O3 hj];exact e2
theorem Q0i (g:ps.all (Z6 n)=true) (j:Nat) (hj:j < ps.length):Z6 n (ps.getD j .non)=true:=by
 rw [List.getD,O3 hj];exact (F0.mp g) _ (List.getElem_mem hj)
theorem Qcb {qs:List PV}:((List.range (min ps.length qs.length)).all (fun j=>peq (ps.getD j .non) (qs.getD j .non)) && ps.length == qs.length)=peqL ps qs:=by
 by_cases e:ps.length=qs.length
 ·rw [Q56 e,<- e,Nat.min_self,beq_self_eq_true,Bool.and_true]
 ·rw [Q55 e,beq_eq_false_iff_ne.mpr e,Bool.and_false]
theorem Qee:∀ (n:Nat) {A:aQ} {p q:PV} {x y:V} {u v:aB},Inv X pins σ H s->Z6 n p=true->Z6 n q=true->A.units + n < aV->Rep H ρ p x->RelV x u->Rep H ρ q y->RelV y v ->
  EqAt A s u v (peq p q)/\RcAt A s u v (peq p q)/\RcNeAt A s u v (!peq p q):=by
 intro n
 induction n with
 | zero=>
  intro A p q x y u v I gp gq hu rp ru rq rv;have k1:=Qe7 I gp rp ru;have k2:=Qe7 I gq rq rv;have hu:A.units < aV:=by omega
  cases k1 with
  | tup=>cases gp
  | lst p ps a vs its h=>rcases h with rfl | rfl <;> cases gp
  | non=>cases k2 with
   | tup=>cases gq
   | lst p ps a vs its h=>rcases h with rfl | rfl <;> cases gq
   | non=>exact ⟨EqAt.same _,RcAt.none_none,RcNeAt.none_none⟩
   | bl b=>exact ⟨EqAt.none_bool _,RcAt.none_bool _,RcNeAt.none_bool _⟩
   | int i t=>exact ⟨EqAt.none_int _ _,RcAt.none_int _ _,RcNeAt.none_int _ _⟩
   | str i t=>exact ⟨EqAt.none_str _ _,RcAt.none_str _ _,RcNeAt.none_str _ _⟩
  | bl a=>cases k2 with
   | tup=>cases gq
   | lst p ps a vs its h=>rcases h with rfl | rfl <;> cases gq
   | non=>exact ⟨EqAt.bool_none _,RcAt.bool_none _,RcNeAt.bool_none _⟩
   | bl b=>exact ⟨EqAt.bool_bool _ _,RcAt.bool_bool _ _,RcNeAt.bool_bool _ _⟩
   | int i t=>exact ⟨EqAt.bool_int _ _ _,RcAt.bool_int _ _ _,RcNeAt.bool_int _ _ _⟩
   | str i t=>exact ⟨EqAt.bool_str _ _ _,RcAt.bool_str _ _ _,RcNeAt.bool_str _ _ _⟩
  | int a at'=>cases k2 with
   | tup=>cases gq
   | lst p ps a vs its h=>rcases h with rfl | rfl <;> cases gq
   | non=>exact ⟨EqAt.int_none _ _,RcAt.int_none _ _,RcNeAt.int_none _ _⟩
   | bl b=>exact ⟨EqAt.int_bool _ _ _,RcAt.int_bool _ _ _,RcNeAt.int_bool _ _ _⟩
   | int i t=>exact ⟨EqAt.int_int _ _ _ _,RcAt.int_int _ _ _ _,RcNeAt.int_int _ _ _ _⟩
   | str i t=>exact ⟨EqAt.int_str _ _ _ _,RcAt.int_str _ _ _ _,RcNeAt.int_str _ _ _ _⟩
  | str a at'=>cases k2 with
   | tup=>cases gq
   | lst p ps a vs its h=>rcases h with rfl | rfl <;> cases gq
   | non=>exact ⟨EqAt.str_none _ _,RcAt.str_none _ _,RcNeAt.str_none _ _⟩
   | bl b=>exact ⟨EqAt.str_bool _ _ _,RcAt.str_bool _ _ _,RcNeAt.str_bool _ _ _⟩
   | int i t=>exact ⟨EqAt.str_int _ _ _ _,RcAt.str_int _ _ _ _,RcNeAt.str_int _ _ _ _⟩
   | str i t=>exact ⟨EqAt.str_str _ _ _ _,RcAt.str_str _ _ _ _,RcNeAt.str_str _ _ _ _⟩
 | succ n ih=>
  intro A p q x y u v I gp gq hu rp ru rq rv;have k1:=Qe7 I gp rp ru;have k2:=Qe7 I gq rq rv;have hu0:A.units < aV:=by omega
  have hin:A.in1.units + n < aV:=by show A.units + 1 + n < aV; omega
  cases k1 with
  | non=>cases k2 with
   | non=>exact ⟨EqAt.same _,RcAt.none_none,RcNeAt.none_none⟩
   | bl b=>exact ⟨EqAt.none_bool _,RcAt.none_bool _,RcNeAt.none_bool _⟩
   | int i t=>exact ⟨EqAt.none_int _ _,RcAt.none_int _ _,RcNeAt.none_int _ _⟩
   | str i t=>exact ⟨EqAt.none_str _ _,RcAt.none_str _ _,RcNeAt.none_str _ _⟩
   | tup ps a vs its ha r v1 p1=>exact ⟨EqAt.none_tuple p1 hu0,RcAt.none_tuple p1 hu0,RcNeAt.none_tuple p1 hu0⟩
   | lst p ps a vs its h r v1 p1=>rcases h with rfl | rfl <;> exact ⟨EqAt.none_list p1 hu0,RcAt.none_list p1 hu0,RcNeAt.none_list p1 hu0⟩
  | bl a=>cases k2 with
   | non=>exact ⟨EqAt.bool_none _,RcAt.bool_none _,RcNeAt.bool_none _⟩
   | bl b=>exact ⟨EqAt.bool_bool _ _,RcAt.bool_bool _ _,RcNeAt.bool_bool _ _⟩
   | int i t=>exact ⟨EqAt.bool_int _ _ _,RcAt.bool_int _ _ _,RcNeAt.bool_int _ _ _⟩
   | str i t=>exact ⟨EqAt.bool_str _ _ _,RcAt.bool_str _ _ _,RcNeAt.bool_str _ _ _⟩
   | tup ps a vs its ha r v1 p1=>exact ⟨EqAt.bool_tuple _ p1 hu0,RcAt.bool_tuple _ p1 hu0,RcNeAt.bool_tuple _ p1 hu0⟩
   | lst p ps a vs its h r v1 p1=>rcases h with rfl | rfl <;> exact ⟨EqAt.bool_list _ p1 hu0,RcAt.bool_list _ p1 hu0,RcNeAt.bool_list _ p1 hu0⟩
  | int a at'=>cases k2 with
   | non=>exact ⟨EqAt.int_none _ _,RcAt.int_none _ _,RcNeAt.int_none _ _⟩
   | bl b=>exact ⟨EqAt.int_bool _ _ _,RcAt.int_bool _ _ _,RcNeAt.int_bool _ _ _⟩
   | int i t=>exact ⟨EqAt.int_int _ _ _ _,RcAt.int_int _ _ _ _,RcNeAt.int_int _ _ _ _⟩
   | str i t=>exact ⟨EqAt.int_str _ _ _ _,RcAt.int_str _ _ _ _,RcNeAt.int_str _ _ _ _⟩
   | tup ps a vs its ha r v1 p1=>exact ⟨EqAt.int_tuple _ _ p1 hu0,RcAt.int_tuple _ _ p1 hu0,RcNeAt.int_tuple _ _ p1 hu0⟩
   | lst p ps a vs its h r v1 p1=>rcases h with rfl | rfl <;> exact ⟨EqAt.int_list _ _ p1 hu0,RcAt.int_list _ _ p1 hu0,RcNeAt.int_list _ _ p1 hu0⟩
  | str a at'=>cases k2 with
   | non=>exact ⟨EqAt.str_none _ _,RcAt.str_none _ _,RcNeAt.str_none _ _⟩
   | bl b=>exact ⟨EqAt.str_bool _ _ _,RcAt.str_bool _ _ _,RcNeAt.str_bool _ _ _⟩
   | int i t=>exact ⟨EqAt.str_int _ _ _ _,RcAt.str_int _ _ _ _,RcNeAt.str_int _ _ _ _⟩
   | str i t=>exact ⟨EqAt.str_str _ _ _ _,RcAt.str_str _ _ _ _,RcNeAt.str_str _ _ _ _⟩
   | tup ps a vs its ha r v1 p1=>exact ⟨EqAt.str_tuple _ _ p1 hu0,RcAt.str_tuple _ _ p1 hu0,RcNeAt.str_tuple _ _ p1 hu0⟩
   | lst p ps a vs its h r v1 p1=>rcases h with rfl | rfl <;> exact ⟨EqAt.str_list _ _ p1 hu0,RcAt.str_list _ _ p1 hu0,RcNeAt.str_list _ _ p1 hu0⟩
  | tup ps a vs its ha r v1 p1=>cases k2 with
   | non=>exact ⟨EqAt.tuple_none p1 hu0,RcAt.tuple_none p1 hu0,RcNeAt.tuple_none p1 hu0⟩
   | bl b=>exact ⟨EqAt.tuple_bool _ p1 hu0,RcAt.tuple_bool _ p1 hu0,RcNeAt.tuple_bool _ p1 hu0⟩
   | int i t=>exact ⟨EqAt.tuple_int _ _ p1 hu0,RcAt.tuple_int _ _ p1 hu0,RcNeAt.tuple_int _ _ p1 hu0⟩
   | str i t=>exact ⟨EqAt.tuple_str _ _ p1 hu0,RcAt.tuple_str _ _ p1 hu0,RcNeAt.tuple_str _ _ p1 hu0⟩
   | tup qs b us its2 hb r2 v2 p2=>
    have l1:its.toArray.size=ps.length:=by rw [O5,<- v1.length,r.length]
    have l2:its2.toArray.size=qs.length:=by rw [O5,<- v2.length,r2.length]
    have he:∀ j (h1:j < its.toArray.size) (h2:j < its2.toArray.size),EqAt A.in1 s its.toArray[j] its2.toArray[j] (peq (ps.getD j .non) (qs.getD j .non)):=fun j h1 h2=>by
     obtain ⟨x1,a1,b1⟩:=Q27 r v1 (j:=j) (by simpa using h1);obtain ⟨x2,a2,b2⟩:=Q27 r2 v2 (j:=j) (by simpa using h2);exact (ih I (Q0i gp j (by omega)) (Q0i gq j (by omega)) hin a1 b1 a2 b2).1
    have rc:=RcAt.tuples p1 p2 hu0 he;have rn:=RcNeAt.tuples p1 p2 hu0 he;rw [l1,l2,Qcb] at rc rn;refine ⟨?_,rc,rn⟩
    by_cases e:a=b
    ·subst e;have:peqL ps qs=true:=by
      rw [ha] at hb; cases hb;exact repL_same gp gq r r2
     show EqAt A s _ _ (peqL ps qs);rw [this];exact EqAt.same _
    ·exact EqAt.of_refs e rc
   | lst q qs b us its2 h r2 v2 p2=>rcases h with rfl | rfl <;> exact ⟨EqAt.tuple_list p1 p2 hu0,RcAt.tuple_list p1 p2 hu0,RcNeAt.tuple_list p1 p2 hu0⟩
  | lst p ps a vs its h r v1 p1=>cases k2 with
   | non=>rcases h with rfl | rfl <;> exact ⟨EqAt.list_none p1 hu0,RcAt.list_none p1 hu0,RcNeAt.list_none p1 hu0⟩
   | bl b=>rcases h with rfl | rfl <;> exact ⟨EqAt.list_bool _ p1 hu0,RcAt.list_bool _ p1 hu0,RcNeAt.list_bool _ p1 hu0⟩
   | int i t=>rcases h with rfl | rfl <;> exact ⟨EqAt.list_int _ _ p1 hu0,RcAt.list_int _ _ p1 hu0,RcNeAt.list_int _ _ p1 hu0⟩
   | str i t=>rcases h with rfl | rfl <;> exact ⟨EqAt.list_str _ _ p1 hu0,RcAt.list_str _ _ p1 hu0,RcNeAt.list_str _ _ p1 hu0⟩
   | tup qs b us its2 hb r2 v2 p2=>rcases h with rfl | rfl <;> exact ⟨EqAt.list_tuple p1 p2 hu0,RcAt.list_tuple p1 p2 hu0,RcNeAt.list_tuple p1 p2 hu0⟩
   | lst q qs b us its2 h2 r2 v2 p2=>
    have l1:its.toArray.size=ps.length:=by rw [O5,<- v1.length,r.length]
    have l2:its2.toArray.size=qs.length:=by rw [O5,<- v2.length,r2.length]
    have gp':ps.all (Z6 n)=true:=by rcases h with rfl | rfl <;> exact gp
    have gq':qs.all (Z6 n)=true:=by rcases h2 with rfl | rfl <;> exact gq
    have ep:peq p q=peqL ps qs:=by rcases h with rfl | rfl <;> rcases h2 with rfl | rfl <;> rfl
    have he:∀ j (h1:j < its.toArray.size) (h2:j < its2.toArray.size),EqAt A.in1 s its.toArray[j] its2.toArray[j] (peq (ps.getD j .non) (qs.getD j .non)):=fun j h1 h2=>by
     obtain ⟨x1,a1,b1⟩:=Q27 r v1 (j:=j) (by simpa using h1);obtain ⟨x2,a2,b2⟩:=Q27 r2 v2 (j:=j) (by simpa using h2);exact (ih I (Q0i gp' j (by omega)) (Q0i gq' j (by omega)) hin a1 b1 a2 b2).1
    rw [ep];have rcn:RcAt A s (.ref a) (.ref b) (peqL ps qs)/\RcNeAt A s (.ref a) (.ref b) (!peqL ps qs):=by
     by_cases e:ps.length=qs.length
     ·have rc:=RcAt.lists p1 p2 (by rw [l1,l2,e]) hu0 he;have rn:=RcNeAt.lists p1 p2 (by rw [l1,l2,e]) hu0 he;rw [l1,<- Q56 e] at rc rn;exact ⟨rc,rn⟩
     ·have e':(its.toArray.size != its2.toArray.size)=true:=by rw [l1,l2]; simpa using e
      rw [Q55 e];exact ⟨RcAt.lists_lengths p1 p2 e' hu0,RcNeAt.lists_lengths p1 p2 e' hu0⟩
    refine ⟨?_,rcn.1,rcn.2⟩
    by_cases e:a=b
    ·subst e;have eq1:peq p q=true:=by
      have rp':=rp;have rq':=rq;have xa:x=.ref a:=by
       rcases h with rfl | rfl <;> (obtain ⟨b',_,rfl,_⟩:=rp; cases ru; rfl)
      have ya:y=.ref a:=by
       rcases h2 with rfl | rfl <;> (obtain ⟨b',_,rfl,_⟩:=rq; cases rv; rfl)
      subst xa; subst ya;exact Qag gp gq rp rq
     rw [<- ep,eq1];exact EqAt.same _
    ·exact EqAt.of_refs e rcn.1
end Sm
namespace Sm
open PySem PySem.Spec L2
variable {n j:Nat} {K:PySem.W.Frag} {vs:List V} {mg:Str->Option aB} {E:XK} {Q:VK} {ps:List PV} {o:OP} {Γ:Gam} {σ:St} {P:PV->Q0->Hp->Tk->Prop} {op:CmpOp} {e:aF}
def lim:Nat:=1000000
theorem Qcx:lim<=sizeLine:=by decide
theorem X1 (h:n<=lim):n<=sizeLine:=F1 h Qcx
def yz (st:Q0):PV->Option (List PV)
 | .lst xs=>some xs
 | .ref i=>match st[i]? with
  | some (.lst xs)=>some xs
  | _=>none
 | _=>none
def U7 (st:Q0):PV->Option (List PV)
 | .fro xs=>some xs
 | p=>yz st p
def Kh (st:Q0):PV->Option (List PV)
 | .tup xs=>some xs
 | p=>U7 st p
def der (st:Q0):PV->PV
 | .ref i=>match st[i]? with
  | some (.lst xs)=>.lst xs
  | _=>.ref i
 | p=>p
variable {H:Hp} {ρ:Tk} {st:Q0} {p:PV} {v:V} {xs:List PV}
theorem Q5t (R:Rel H ρ st) (r:Rep H ρ p v) (e:yz st p=some xs):∃ a vs,v=.ref a/\H a=some (.lst vs)/\RepL H ρ xs vs:=by
 cases p with
 | lst ys=>
  obtain ⟨a,vs,e1,e2,_,e3⟩:=r;cases e;exact ⟨a,vs,e1,e2,e3⟩
 | ref i=>
  obtain ⟨a,e1,e2⟩:=r;simp only [yz] at e
  split at e
  ·rename_i ys hs;cases e;obtain ⟨b,vs,f1,f2,f3⟩:=R.lst hs;rw [e1] at f1; cases f1;exact ⟨a,vs,e2,f2,f3⟩
  ·cases e
 | _=>cases e
theorem Q25 (R:Rel H ρ st) (r:Rep H ρ p v) (e:U7 st p=some xs):∃ a vs,v=.ref a/\Rd H a (.lst vs)/\RepL H ρ xs vs:=by
 cases p with
 | fro ys=>
  obtain ⟨a,vs,e1,e2,_,e3⟩:=r;cases e;exact ⟨a,vs,e1,e2,e3⟩
 | _=>
  obtain ⟨a,vs,e1,e2,e3⟩:=Q5t R r e;exact ⟨a,vs,e1,.inl e2,e3⟩
theorem Q4t (R:Rel H ρ st) (r:Rep H ρ p v) (e:Kh st p=some xs):∃ (t:Bool) (a:aA) (vs:List V),v=.ref a/\SqK K t H a vs/\RepL H ρ xs vs:=by
 cases p with
 | tup ys=>
  obtain ⟨a,vs,e1,e2,_,e3⟩:=r;cases e;exact ⟨true,a,vs,e1,show SqT K H a vs from SqT.of e2,e3⟩
 | _=>
  obtain ⟨a,vs,e1,e2,e3⟩:=Q25 R r e;exact ⟨false,a,vs,e1,show SqL K H a vs from .inl e2,e3⟩
theorem Qrj {t:Bool} {a:aA} (h:SqK K t H a vs):SqL K H a vs\/SqT K H a vs:=by
 cases t with
 | true=>exact .inr h
 | false=>exact .inl h
mutual
theorem Qdm:∀ {n:Nat} {q:PV} {u:V},Z6 n q=true->Rep H ρ q u->Rep H Tk.nil q u
 | _,.non,_,_,r=>r
 | _,.bl _,_,_,r=>r
 | _,.int _,_,_,r=>r
 | _,.str _,_,_,r=>r
 | 0,.tup _,_,g,_=>by cases g
 | 0,.lst _,_,g,_=>by cases g
 | 0,.fro _,_,g,_=>by cases g
 | n + 1,.tup _,_,g,⟨a,vs,e,h,_,r⟩=>⟨a,vs,e,h,Tk.not_nil _,repL_nil g r⟩
 | n + 1,.lst _,_,g,⟨a,vs,e,h,_,r⟩=>⟨a,vs,e,h,Tk.not_nil _,repL_nil g r⟩
 | n + 1,.fro _,_,g,⟨a,vs,e,h,_,r⟩=>⟨a,vs,e,h,Tk.not_nil _,repL_nil g r⟩
 | 0,.ref _,_,g,_=>by cases g
 | _ + 1,.ref _,_,g,_=>by cases g
 | 0,.dic,_,g,_=>by cases g
 | _ + 1,.dic,_,g,_=>by cases g
theorem repL_nil:∀ {n:Nat} {qs:List PV} {us:List V},qs.all (Z6 n)=true->RepL H ρ qs us->RepL H Tk.nil qs us
 | _,[],_,_,r=>r
 | n,q :: qs,_,g,⟨v,r,e,h1,h2⟩=>by
  rw [List.all_cons,F6] at g;exact ⟨v,r,e,Qdm g.1 h1,repL_nil g.2 h2⟩
end
theorem Q0m (R:Rel H ρ st) (g:Z6 n (der st p)=true) (r:Rep H ρ p v):Rep H Tk.nil (der st p) v:=by
 cases p with
 | ref i=>
  obtain ⟨a,e1,e2⟩:=r;simp only [der] at g ⊢
  split at g
  ·rename_i ys hs;obtain ⟨b,vs,f1,f2,f3⟩:=R.lst hs;rw [e1] at f1; cases f1;cases n with
   | zero=>cases g
   | succ n=>exact ⟨a,vs,e2,f2,Tk.not_nil _,repL_nil g f3⟩
  ·cases n <;> cases g
 | _=>exact Qdm g r
theorem Q1x (R:Rel H ρ st) (h:Acc mg E H ρ (QV Q) (.ok (.tup ps) st)) (r:RepL H ρ ps vs):∀ p,H p=none->Q (.ref p) (upd H p (.tup vs)):=
 fun p hp=>h _ ρ (Ext.add hp) (R.add hp) _ ⟨p,vs,rfl,Qz,R.fresh hp,r.ext (Ext.add hp)⟩
theorem Q40 (R:Rel H ρ st) (h:Acc mg E H ρ (QV Q) (.ok (.lst ps) st)) (r:RepL H ρ ps vs):∀ p,H p=none->Q (.ref p) (upd H p (.lst vs)):=
 fun p hp=>h _ ρ (Ext.add hp) (R.add hp) _ ⟨p,vs,rfl,Qz,R.fresh hp,r.ext (Ext.add hp)⟩
theorem now (R:Rel H ρ st) (h:Acc mg E H ρ (QV Q) (.ok p st)) (r:Rep H ρ p v):Q v H:=h H ρ (Ext.refl _ _) R v r
section
variable {X:Cx} {E:XK} {pos:Pos}
def Q2 (i:Nat):ME:=fun Γ st=>match Γ[i]? with
 | some (some p)=>.ok p st
 | _=>.stuck
def mC (p:PV):ME:=fun _ st=>.ok p st
theorem zj (i:Nat) {x:Str} (hN:X.N[i]?=some x:=by rfl) (hv:Vis X.env.scope x:=by first | exact Or.inl rfl | exact Or.inr (Or.inl rfl) | exact Or.inr (Or.inr rfl)) (hd:(x == ("__debug__" : Str))=false:=by decide)
  (hcd:(x == ("__classdict__" : Str))=false:=by decide):SimE X E (.Name x pos) (Q2 i):=⟨fun Γ σ H ρ st Q R G h=>WE.of (Qit hN hv hd hcd) (by
 unfold Q2 at h
 split at h
 ·rename_i p e;obtain ⟨v,e1,r⟩:=G.2 i p e;exact ⟨v,e1,now R h r⟩
 ·exact h.elim)⟩
theorem Qhx {i:Int} :SimE X E (.Constant (.int i) j pos) (mC (.int i)):=⟨fun Γ σ H ρ st Q R G h=>WE.of Qsr (now R h rfl)⟩
theorem Qi1 {b:Bool} :SimE X E (.Constant (.bool b) j pos) (mC (.bl b)):=⟨fun Γ σ H ρ st Q R G h=>WE.of Qqm (now R h rfl)⟩
theorem Qrx :SimE X E (.Constant .none j pos) (mC .non):=⟨fun Γ σ H ρ st Q R G h=>WE.of Qsq (now R h rfl)⟩
theorem Qc2 {x:Str} :SimE X E (.Constant (.str x) j pos) (mC (.str x)):=⟨fun Γ σ H ρ st Q R G h=>WE.of Qiu (now R h rfl)⟩
theorem Qmn {x:Str} {i:Int} {t:Tok} (hg:Gl X x) (hm:X.mg x=some (.int i t)) (hd:(x == ("__debug__" : Str))=false:=by decide):SimE X E (.Name x pos) (mC (.int i)):=
 ⟨fun Γ σ H ρ st Q R G h=>WE.of (Qnc hg hm (v:=.int i) ⟨t,rfl⟩ hd) (now R h rfl)⟩
variable {a b c:aF} {ma mb mc:ME}
def mOp (o:OP) (ma mb:ME):ME:=fun Γ st=>(ma Γ st).bind fun x st1=>(mb Γ st1).bind fun y st2=>o st2 x y
theorem Q9v {f:aB->aB->Sem aB} {Q:VK} (ho:OpS X E f o) (ha:SimE X E a ma) (hb:SimE X E b mb) (R:Rel H ρ st) (G:EnvR H ρ Γ σ) (h:Acc X.mg E H ρ P (mOp o ma mb Γ st))
  (k:∀ p st1 H1 ρ1 v,Ext H ρ H1 ρ1->Rel H1 ρ1 st1->Rep H1 ρ1 p v->P p st1 H1 ρ1->Q v H1):tOp (WO X f) (WE X a) (WE X b) σ H Q:=by
 refine ha.use R G h.bind fun p st1 H1 ρ1 v x1 R1 G1 r1 h1=>?_
 refine hb.use R1 G1 h1.bind fun q st2 H2 ρ2 u x2 R2 G2 r2 h2=>?_
 exact ho.use R2 (r1.ext x2) r2 h2 fun w st3 H3 ρ3 z x3 R3 r3 p3=>k w st3 H3 ρ3 z (x1.trans (x2.trans x3)) R3 r3 p3
theorem Qvh {op:Operator} (ho:OpS X E (aa op) o) (ha:SimE X E a ma) (hb:SimE X E b mb):SimE X E (.BinOp a op b pos) (mOp o ma mb):=
 ⟨fun Γ σ H ρ st Q R G h=>WE.of (Qw3 Qcc Yr Yr) (Q9v ho ha hb R G h fun _ _ _ _ v _ _ r q=>q v r)⟩
theorem Qs2 (ho:OpS X E (aU op) o) (ha:SimE X E a ma) (hb:SimE X E b mb) (hm:bF op b=false:=by first | exact Qci _ | rfl):SimE X E (.Compare a [op] [b] pos) (mOp o ma mb):=
 ⟨fun Γ σ H ρ st Q R G h=>WE.of (Qnd Qcc Yr Yr hm) (Q9v ho ha hb R G h fun _ _ _ _ v _ _ r q=>q v r)⟩
def asB (p:PV) (st:Q0):Res Bool:=match p with
 | .bl k=>.ok k st
 | _=>.stuck
def toB (m:ME):Gam->Q0->Res Bool:=fun Γ st=>(m Γ st).bind asB
theorem Qks {P:Bool->Q0->Hp->Tk->Prop} (R:Rel H ρ st) (r:Rep H ρ p v) (h:Acc mg E H ρ P (asB p st)):∃ k,v=.bl k/\P k st H ρ:=by
 cases p with
 | bl k=>exact ⟨k,r,h H ρ (Ext.refl _ _) R⟩
 | _=>exact h.elim
theorem Qrd (ho:OpS X E (aU op) o) (ha:SimE X E a ma) (hb:SimE X E b mb) (hm:bF op b=false:=by first | exact Qci _ | rfl):SimT X E (.Compare a [op] [b] pos) (toB (mOp o ma mb)):=
 ⟨fun Γ σ H ρ st Q R G h=>WT.of (Qmy Qcc Yr Yr hm) (Q9v ho ha hb R G h.bind fun _ st1 _ _ v _ R1 r q=>by
  obtain ⟨k,e,z⟩:=Qks R1 r q;exact ⟨k,e,z⟩)⟩
theorem Qbw {m:ME} (h:SimE X E e m) (he:∀ whole,isTrue e X.env whole=(do let v <- whole; standAt e.pos; ag [v] (truthy v)):=by intro _; rfl):SimT X E e (toB m):=
 ⟨fun Γ σ H ρ st Q R G hq=>WT.of (Qsc Yr he) (h.use R G hq.bind fun p st1 H1 ρ1 v x1 R1 G1 r1 h1=>by
  obtain ⟨k,e,z⟩:=Qks R1 r1 h1;exact ⟨k,e,z⟩)⟩
def xz (o o':OP) (ma mb mc:ME):ME:=fun Γ st=>(ma Γ st).bind fun x st1=>(mb Γ st1).bind fun y st2=>(o st2 x y).bind fun k st3=>match k with
 | .bl true=>(mc Γ st3).bind fun z st4=>o' st4 y z
 | .bl false=>.ok (.bl false) st3
 | _=>.stuck
theorem Q88 {op':CmpOp} {o':OP} {Q:VK} (ho:OpS X E (aU op) o) (ho':OpS X E (aU op') o') (ha:SimE X E a ma) (hb:SimE X E b mb) (hc:SimE X E c mc) (R:Rel H ρ st) (G:EnvR H ρ Γ σ) (h:Acc X.mg E H ρ P (xz o o' ma mb mc Γ st))
  (k:∀ p st1 H1 ρ1 v,Ext H ρ H1 ρ1->Rel H1 ρ1 st1->Rep H1 ρ1 p v->P p st1 H1 ρ1->Q v H1):Qbr (WO X (aU op)) (WO X (aU op')) (WE X a) (WE X b) (WE X c) σ H Q:=by
 refine ha.use R G h.bind fun p st1 H1 ρ1 v x1 R1 G1 r1 h1=>?_
 refine hb.use R1 G1 h1.bind fun q st2 H2 ρ2 u x2 R2 G2 r2 h2=>?_
 refine ho.use R2 (r1.ext x2) r2 h2.bind fun w st3 H3 ρ3 z x3 R3 r3 h3=>?_
 cases w with
 | bl b=>
  refine ⟨b,r3,?_⟩;cases b with
  | true=>
   rw [bM rfl];refine hc.use R3 (G2.ext x3) h3.bind fun y st4 H4 ρ4 yv x4 R4 G4 r4 h4=>?_
   exact ho'.use R4 (r2.ext (x3.trans x4)) r4 h4 fun w st5 H5 ρ5 z x5 R5 r5 p5=>k w st5 H5 ρ5 z (x1.trans (x2.trans (x3.trans (x4.trans x5)))) R5 r5 p5
  | false=>
   rw [bN D8];exact k (.bl false) _ H3 ρ3 _ (x1.trans (x2.trans x3)) R3 rfl (h3 H3 ρ3 (Ext.refl _ _) R3)
 | _=>exact h3.elim
theorem Qhy {op':CmpOp} {o':OP} (ho:OpS X E (aU op) o) (ho':OpS X E (aU op') o') (ha:SimE X E a ma) (hb:SimE X E b mb) (hc:SimE X E c mc) (hm:lastMarks [op,op'] [b,c]=false:=by with_unfolding_all rfl):SimE X E (.Compare a [op,op'] [b,c] pos) (xz o o' ma mb mc):=
 ⟨fun Γ σ H ρ st Q R G h=>WE.of (Qiz Qcc Qcc Yr Yr Yr hm) (Q88 ho ho' ha hb hc R G h fun _ _ _ _ v _ _ r q=>q v r)⟩
theorem Qhj {op':CmpOp} {o':OP} (ho:OpS X E (aU op) o) (ho':OpS X E (aU op') o') (ha:SimE X E a ma) (hb:SimE X E b mb) (hc:SimE X E c mc) (hm:lastMarks [op,op'] [b,c]=false:=by with_unfolding_all rfl):SimT X E (.Compare a [op,op'] [b,c] pos) (toB (xz o o' ma mb mc)):=
 ⟨fun Γ σ H ρ st Q R G h=>WT.of (Qig Qcc Qcc Yr Yr Yr hm) (Q88 ho ho' ha hb hc R G h.bind fun _ st1 _ _ v _ R1 r q=>by
  obtain ⟨k,e,z⟩:=Qks R1 r q;exact ⟨k,e,z⟩)⟩
variable {rest:List aF}
def Q72 (ma mb:ME):ME:=fun Γ st=>(ma Γ st).bind fun x st1=>match x with
 | .bl true=>mb Γ st1
 | .bl false=>.ok (.bl false) st1
 | _=>.stuck
def mOr (ma mb:ME):ME:=fun Γ st=>(ma Γ st).bind fun x st1=>match x with
 | .bl true=>.ok (.bl true) st1
 | .bl false=>mb Γ st1
 | _=>.stuck
def Qth (ma:ME):ME:=fun Γ st=>(ma Γ st).bind fun x st1=>match x with
 | .bl k=>.ok (.bl (!k)) st1
 | _=>.stuck
theorem Qrv {op:BoolOp} (ha:SimE X E a ma):SimE X E (.BoolOp op [a] pos) ma:=⟨fun Γ σ H ρ st Q R G h=>WE.of (Qsn Yr) (ha.use R G h fun _ _ _ _ v _ _ _ r q=>q v r)⟩
theorem Qs3 (ha:SimE X E a ma) (hb:SimE X E (.BoolOp .And (b :: rest) pos) mb):SimE X E (.BoolOp .And (a :: b :: rest) pos) (Q72 ma mb):=
 ⟨fun Γ σ H ρ st Q R G h=>WE.of (Qst Yr Yr) (ha.use R G h.bind fun p st1 H1 ρ1 v x1 R1 G1 r1 h1=>by
  cases p with
  | bl k=>
   refine ⟨k,r1,?_⟩;cases k with
   | true=>rw [bM rfl]; exact hb.use R1 G1 h1 fun _ _ _ _ v _ _ _ r q=>q v r
   | false=>rw [bN D8]; exact now R1 h1 rfl
  | _=>exact h1.elim)⟩
theorem Qvg (ha:SimE X E a ma) (hb:SimE X E (.BoolOp .Or (b :: rest) pos) mb):SimE X E (.BoolOp .Or (a :: b :: rest) pos) (mOr ma mb):=
 ⟨fun Γ σ H ρ st Q R G h=>WE.of (Qw2 Yr Yr) (ha.use R G h.bind fun p st1 H1 ρ1 v x1 R1 G1 r1 h1=>by
  cases p with
  | bl k=>
   refine ⟨k,r1,?_⟩;cases k with
   | true=>rw [bM rfl]; exact now R1 h1 rfl
   | false=>rw [bN D8]; exact hb.use R1 G1 h1 fun _ _ _ _ v _ _ _ r q=>q v r
  | _=>exact h1.elim)⟩
theorem Qrw (ha:SimE X E a ma):SimE X E (.UnaryOp .Not a pos) (Qth ma):=
 ⟨fun Γ σ H ρ st Q R G h=>WE.of (Qsp Yr) (ha.use R G h.bind fun p st1 H1 ρ1 v x1 R1 G1 r1 h1=>by
  cases p with
  | bl k=>exact ⟨k,r1,now R1 h1 rfl⟩
  | _=>exact h1.elim)⟩
def Q9a (ma:ME):ME:=fun Γ st=>(ma Γ st).bind fun x st1=>match x with
 | .int k=>.ok (.int (-k)) st1
 | _=>.stuck
theorem Qry (ha:SimE X E a ma):SimE X E (.UnaryOp .USub a pos) (Q9a ma):=
 ⟨fun Γ σ H ρ st Q R G h=>WE.of (Qw1 Qqz Yr) (ha.use R G h.bind fun p st1 H1 ρ1 v x1 R1 G1 r1 h1=>by
  cases p with
  | int k=>exact ⟨k,r1,now R1 h1 rfl⟩
  | _=>exact h1.elim)⟩
abbrev MT:=Gam->Q0->Res Bool
variable {ta tb:MT}
def Q1j (ta tb:MT):MT:=fun Γ st=>(ta Γ st).bind fun k st1=>if k=true then tb Γ st1 else .ok false st1
def Q2f (ta tb:MT):MT:=fun Γ st=>(ta Γ st).bind fun k st1=>if k=true then .ok true st1 else tb Γ st1
def Ur (ta:MT):MT:=fun Γ st=>(ta Γ st).bind fun k st1=>.ok (!k) st1
theorem SimW.t (h:SimW X E e ta):SimT X E e ta:=⟨fun Γ σ H ρ st Q R G q pins s I=>h.run Γ σ H ρ st Q R G q _ pins s I⟩
theorem Qm5 (ha:SimT X E a ta):SimW X E (.BoolOp .And [a] pos) ta:=⟨fun Γ σ H ρ st Q R G h=>WW.of (Qmv Qaj) (ha.use R G h fun _ _ _ _ _ _ _ q=>q)⟩
theorem Qr9 (ha:SimT X E a ta):SimW X E (.BoolOp .Or [a] pos) ta:=⟨fun Γ σ H ρ st Q R G h=>WW.of (Qsa Qaj) (ha.use R G h fun _ _ _ _ _ _ _ q=>q)⟩
theorem Qra (ha:SimT X E a ta) (hb:SimW X E (.BoolOp .And (b :: rest) pos) tb):SimW X E (.BoolOp .And (a :: b :: rest) pos) (Q1j ta tb):=
 ⟨fun Γ σ H ρ st Q R G h=>WW.of (Qsb Qaj Qvu) (ha.use R G h.bind fun k st1 H1 ρ1 x1 R1 G1 h1=>by
  cases k with
  | true=>rw [bM rfl] at h1 ⊢; exact hb.use R1 G1 h1 fun _ _ _ _ _ _ _ q=>q
  | false=>rw [bN D8] at h1 ⊢; exact h1 H1 ρ1 (Ext.refl _ _) R1)⟩
theorem Qvf (ha:SimT X E a ta) (hb:SimW X E (.BoolOp .Or (b :: rest) pos) tb):SimW X E (.BoolOp .Or (a :: b :: rest) pos) (Q2f ta tb):=
 ⟨fun Γ σ H ρ st Q R G h=>WW.of (Qvv Qaj Qvu) (ha.use R G h.bind fun k st1 H1 ρ1 x1 R1 G1 h1=>by
  cases k with
  | true=>rw [bM rfl] at h1 ⊢; exact h1 H1 ρ1 (Ext.refl _ _) R1
  | false=>rw [bN D8] at h1 ⊢; exact hb.use R1 G1 h1 fun _ _ _ _ _ _ _ q=>q)⟩
theorem Qrc (ha:SimT X E a ta):SimT X E (.UnaryOp .Not a pos) (Ur ta):=
 ⟨fun Γ σ H ρ st Q R G h=>WT.of (Qsd Qaj) (ha.use R G h.bind fun k st1 H1 ρ1 x1 R1 G1 h1=>h1 H1 ρ1 (Ext.refl _ _) R1)⟩
variable {e:aF} {es:List aF} {m:ME} {mr:Gam->Q0->Res (List PV)}
def Q6:Gam->Q0->Res (List PV):=fun _ st=>.ok [] st
def Q1 (m:ME) (mr:Gam->Q0->Res (List PV)):Gam->Q0->Res (List PV):=fun Γ st=>(m Γ st).bind fun p st1=>(mr Γ st1).bind fun ps st2=>.ok (p :: ps) st2
theorem Q2h:SimA X E [] Q6:=⟨fun Γ σ H ρ st Q R G h=>WA.of Q15 (h H ρ (Ext.refl _ _) R [] rfl)⟩
theorem Km (ha:SimE X E e m) (hr:SimA X E es mr) (hs:aM (e :: es) X.env=(false,aL e X.env) :: aM es X.env:=by rfl):SimA X E (e :: es) (Q1 m mr):=
 ⟨fun Γ σ H ρ st Q R G h=>WA.of (Kn Yr Q0q hs) (ha.use R G h.bind fun p st1 H1 ρ1 v x1 R1 G1 r1 h1=>hr.use R1 G1 h1.bind fun ps st2 H2 ρ2 vs x2 R2 G2 r2 h2=>
  h2 H2 ρ2 (Ext.refl _ _) R2 (v :: vs) ⟨v,vs,rfl,r1.ext x2,r2⟩)⟩
def Xb (mr:Gam->Q0->Res (List PV)):ME:=fun Γ st=>(mr Γ st).bind fun ps st1=>if ps.length<=lim then .ok (.tup ps) st1 else .stuck
def Q9b (mr:Gam->Q0->Res (List PV)):ME:=fun Γ st=>(mr Γ st).bind fun ps st1=>if ps.length<=lim then .ok (.lst ps) st1 else .stuck
theorem Qrt {k:Nat} (h:SimA X E es mr):SimE X E (.Tuple es k pos) (Xb mr):=
 ⟨fun Γ σ H ρ st Q R G hq=>WE.of (Qsm Q0q) (h.use R G hq.bind fun ps st1 H1 ρ1 vs x1 R1 G1 r1 h1=>by
  by_cases hl:ps.length<=lim
  ·rw [bM hl] at h1;exact ⟨by rw [<- r1.length]; exact X1 hl,Q1x R1 h1 r1⟩
  ·rw [bN hl] at h1; exact h1.elim)⟩
theorem Qrz (h:SimA X E es mr):SimE X E (.List es pos) (Q9b mr):=
 ⟨fun Γ σ H ρ st Q R G hq=>WE.of (Qix Q0q) (h.use R G hq.bind fun ps st1 H1 ρ1 vs x1 R1 G1 r1 h1=>by
  by_cases hl:ps.length<=lim
  ·rw [bM hl] at h1;exact ⟨by rw [<- r1.length]; exact X1 hl,Q40 R1 h1 r1⟩
  ·rw [bN hl] at h1; exact h1.elim)⟩
end
end Sm
namespace HT
open PySem PySem.Spec PyProof.Rows
variable {prog:aP} {A:aQ} {E:aB->aC->Prop} {s:aC}
section
variable {w:aN}
theorem getItem_tuple_whole {t sl:aA} {items:Array aB} {vl vu:aB} {lo hi:Option Int} {Q:aB->aC->Prop} (ht:IsTup s.heap t items) (hs:s.heap.IsSliceOf sl vl vu .none) (pl:IsPart vl lo) (pu:IsPart vu hi)
  (hw:sIx items.size 0 lo=0/\sIx items.size items.size hi=items.size)
  (h:Q (.ref t) s):aI (aJ prog w) A (getItem (.ref t) (.ref sl)) Q E s:=by
 obtain ⟨os,hos,hcs,hds⟩:=id hs;have hTs:s.TypeIs (.ref sl) "slice" := ⟨os,hos,hcs⟩;unfold getItem
 try with_reducible refine bB ?_
 first | refine aD (wpAny_pure ?_) | skip
 refine aD (wpAny_sequenceKey ht.typeIs (by decide) ?_);refine aD (wpAny_callSpecial?_slot (name:=Str.ofString "__getitem__") ht.typeIs PyProof.Rows.slot_tuple_getitem
  (ay PyProof.Rows.slot_tuple_getitem ht.typeIs entry_tuple_getitem ?_ (args_tuple_getitem _ _)))
 show aI _ _ (Builtin.Tuple.tupleItemsOf (.ref t) >>= _) _ _ s;refine aD (tupleItemsOf_ ht ?_);refine aD (bK hTs ?_);rw [bM (by decide)];refine aD (jr hs pl pu ?_);have hyes:(((sIx items.size 0 lo:Nat):Int) == 0 && (1:Int) == 1 && (sIx items.size items.size hi - sIx items.size 0 lo) == items.size)=true:=by
  rw [hw.1,hw.2]; simp
 show aI _ _ (if (((sIx items.size 0 lo:Nat):Int) == 0 && (1:Int) == 1 && (sIx items.size items.size hi - sIx items.size 0 lo) == items.size)=true then _ else _) _ _ s;rw [bM hyes];refine aD (aD (bK ht.typeIs (wpAny_pure ?_)));rw [bM (by rfl)];exact aD (bI (wpAny_pure ⟨_,rfl,wpAny_pure h⟩))
end
end HT
namespace L2
open PySem PySem.Spec PyProof.Rows
def Qz9 (K:PySem.W.Frag):V->Option Int->Option Int->Hp->VK->Prop:=fun x lo hi H Q=>∃ a xs,x=.ref a/\SqT K H a xs /\
 (HT.sIx xs.length 0 lo=0/\HT.sIx xs.length xs.length hi=xs.length)/\Q (.ref a) H
theorem sl_whole {X:Cx}:SlR X (Qz9 X.K):=by
 intro pins s σ H x v vl vu lo hi sl Q I rx hs pl pu h;obtain ⟨a,xs,rfl,hx,hw,q⟩:=h;cases rx;obtain ⟨its,r,ht,hz⟩:=I.tuple hx;have hlen:its.toArray.size=xs.length:=by rw [O5]; exact r.length.symm
 refine ⟨"tuple",_,PyProof.Rows.slot_tuple_getitem.lookup,ht.typeIs,?_⟩;exact HT.getItem_tuple_whole ht hs pl pu (by rw [hlen]; exact hw) ⟨.ref a,H,I,rfl,q⟩
end L2
namespace Sm
open PySem PySem.Spec L2
variable {H H1:Hp} {ρ:Tk} {p:PV} {σ:St} {st:Q0} {xs ps:List PV} {vs:List V} {o:CF} {Q:VK} {T:String} {K:PySem.W.Frag} {v:V} {tp:Pos} {e c:aF} {es:List aF} {n kt:Nat} {mg:Str->Option aB} {b:aA} {hs:List aA} {α β:Type} {Γ:Gam} {P:List PV->Q0->Hp->Tk->Prop} {s:aK} {fd:aO}
variable {X:Cx} {E:XK} {pos:Pos}
def oI (g:Int->Int->PV):OP:=fun st p q=>match p,q with
 | .int a,.int b=>.ok (g a b) st
 | _,_=>.stuck
def Wb:OP:=fun st p q=>match p,q with
 | .int a,.int b=>.ok (.int (a + b)) st
 | .str a,.str b=>if a.length + b.length<=lim then .ok (.str (a ++ b)) st else .stuck
 | .tup xs,.tup ys=>if xs.length + ys.length<=lim then .ok (.tup (xs ++ ys)) st else .stuck
 | p,q=>match yz st p,yz st q with
  | some xs,some ys=>if xs.length + ys.length<=lim then .ok (.lst (xs ++ ys)) st else .stuck
  | _,_=>.stuck
theorem Qsz:OpS X E (aa .Add) Wb:=⟨fun H ρ st p q x y Q R rp rq h=>by
 unfold Wb at h
 split at h
 ·cases rp; cases rq;exact WO.of Qt6 ⟨_,_,rfl,rfl,now R h rfl⟩
 ·cases rp; cases rq
  split at h
  ·rename_i hl;exact WO.of Qcd ⟨_,_,rfl,rfl,X1 hl,now R h rfl⟩
  ·exact h.elim
 ·split at h
  ·rename_i xs ys hl;obtain ⟨a,vs,rfl,ha,na,ra⟩:=rp;obtain ⟨b,us,rfl,hb,nb,rb⟩:=rq;refine WO.of Qns ?_
   by_cases e:xs=[]
   ·subst e;cases ra;exact .inr ⟨a,b,us,rfl,rfl,SqT.of ha,SqT.of hb,now R h ⟨b,us,rfl,hb,nb,rb⟩⟩
   ·refine .inl ⟨a,b,vs,us,rfl,rfl,SqT.of ha,SqT.of hb,fun z=>e ?_,by rw [<- ra.length,<- rb.length]; exact X1 hl,fun z=>?_,fun z=>Q1x R h (ra.append rb)⟩
    ·subst z;cases xs with
     | nil=>rfl
     | cons _ _=>have:=ra.length; simp at this
    ·subst z;have:ys=[]:=by
      cases ys with
      | nil=>rfl
      | cons _ _=>have:=rb.length; simp at this
     subst this;rw [G9] at h;exact now R h ⟨a,vs,rfl,ha,na,ra⟩
  ·exact h.elim
 ·split at h
  ·rename_i xs ys e1 e2
   split at h
   ·rename_i hl;obtain ⟨a,vs,rfl,ha,ra⟩:=Q5t R rp e1;obtain ⟨b,us,rfl,hb,rb⟩:=Q5t R rq e2;exact WO.of Qt5 ⟨a,b,vs,us,rfl,rfl,ha,hb,by rw [<- ra.length,<- rb.length]; exact X1 hl,Q40 R h (ra.append rb)⟩
   ·exact h.elim
  ·exact h.elim⟩
theorem Qsv:OpS X E (aa .Sub) (oI fun a b=>.int (a - b)):=⟨fun H ρ st p q x y Q R rp rq h=>by
 unfold oI at h
 split at h
 ·cases rp; cases rq;exact WO.of Qt0 ⟨_,_,rfl,rfl,now R h rfl⟩
 ·exact h.elim⟩
def Q0u:OP:=fun st p q=>match p,q with
 | .int a,.int b=>if (-(2 ^ 64) < a/\a < 2 ^ 64)\/(-(2 ^ 64) < b/\b < 2 ^ 64) then .ok (.int (a * b)) st else .stuck
 | .tup xs,.int b=>if xs≠[]/\1<=b/\xs.length * b.toNat<=4096 then .ok (.tup (List.replicate b.toNat xs).flatten) st else .stuck
 | p,.int b=>match yz st p with
  | some xs=>if -(2 ^ 63)<=b/\b < 2 ^ 63/\xs.length * b.toNat<=lim then .ok (.lst (List.replicate b.toNat xs).flatten) st else .stuck
  | none=>.stuck
 | _,_=>.stuck
theorem Qsw:OpS X E (aa .Mult) Q0u:=⟨fun H ρ st p q x y Q R rp rq h=>by
 unfold Q0u at h
 split at h
 ·cases rp; cases rq
  split at h
  ·rename_i hc;exact WO.of Qt2 ⟨_,_,rfl,rfl,hc,now R h rfl⟩
  ·exact h.elim
 ·cases rq
  split at h
  ·rename_i xs b hc;obtain ⟨a,vs,rfl,ha,na,ra⟩:=rp;refine WO.of Qnp ⟨a,b,vs,rfl,rfl,SqT.of ha,fun z=>hc.1 ?_,hc.2.1,by rw [<- ra.length]; exact hc.2.2,fun z=>?_,fun z=>Q1x R h (ra.rep _)⟩
   ·subst z;cases xs with
    | nil=>rfl
    | cons _ _=>have:=ra.length; simp at this
   ·subst z;have e1:(List.replicate (Int.toNat 1) xs).flatten=xs:=by simp
    rw [e1] at h;exact now R h ⟨a,vs,rfl,ha,na,ra⟩
  ·exact h.elim
 ·cases rq
  split at h
  ·rename_i xs e1
   split at h
   ·rename_i hc;obtain ⟨a,vs,rfl,ha,ra⟩:=Q5t R rp e1;exact WO.of Qt1 ⟨a,_,vs,rfl,rfl,ha,hc.1,hc.2.1,by rw [<- ra.length]; exact X1 hc.2.2,Q40 R h (ra.rep _)⟩
   ·exact h.elim
  ·exact h.elim
 ·exact h.elim⟩
def Q5g:OP:=fun st p q=>match p,q with
 | .int a,.int b=>if 0 < b then .ok (.int (a % b)) st else .stuck
 | _,_=>.stuck
theorem Qsx:OpS X E (aa .Mod) Q5g:=⟨fun H ρ st p q x y Q R rp rq h=>by
 unfold Q5g at h
 split at h
 ·cases rp; cases rq
  split at h
  ·rename_i hc;exact WO.of Qt3 ⟨_,_,rfl,rfl,hc,now R h rfl⟩
  ·exact h.elim
 ·exact h.elim⟩
def Qny:OP:=fun st p q=>match p,q with
 | .int a,.int b=>if 0 < b/\b < 1073741824 then .ok (.int (a / b)) st else .stuck
 | _,_=>.stuck
theorem Qsy:OpS X E (aa .FloorDiv) Qny:=⟨fun H ρ st p q x y Q R rp rq h=>by
 unfold Qny at h
 split at h
 ·cases rp; cases rq
  split at h
  ·rename_i hc;exact WO.of Qnr ⟨_,_,rfl,rfl,hc,now R h rfl⟩
  ·exact h.elim
 ·exact h.elim⟩
theorem Qcg {op:CmpOp} {g:Int->Int->Bool} (ho:OpR X (aU op) (rI0 fun i j=>.bl (g i j))):OpS X E (aU op) (oI fun a b=>.bl (g a b)):=⟨fun H ρ st p q x y Q R rp rq h=>by
 unfold oI at h
 split at h
 ·cases rp; cases rq;exact WO.of ho ⟨_,_,rfl,rfl,now R h rfl⟩
 ·exact h.elim⟩
theorem Qw9:OpS X E (aU .LtE) (oI fun a b=>.bl (decide (a<=b))):=Qcg Qwe
theorem Qwa:OpS X E (aU .Gt) (oI fun a b=>.bl (decide (b < a))):=Qcg Qwf
theorem Qwb:OpS X E (aU .GtE) (oI fun a b=>.bl (decide (b<=a))):=Qcg Qwg
def Xm:List PV->Option (List Int)
 | []=>some []
 | .int i :: ps=>(Xm ps).map (i :: ·)
 | _ :: _=>none
def Q3f:List PV->Option (List Bool)
 | []=>some []
 | .bl i :: ps=>(Q3f ps).map (i :: ·)
 | _ :: _=>none
theorem Q62 (ns:List Int):Xm (ns.map .int)=some ns:=by
 induction ns with
 | nil=>rfl
 | cons n ns ih=>rw [G8,Xm,ih]; rfl
theorem Qq3 (ns:List Bool):Q3f (ns.map .bl)=some ns:=by
 induction ns with
 | nil=>rfl
 | cons n ns ih=>rw [G8,Q3f,ih]; rfl
theorem Q26:∀ {ps:List PV} {ns:List Int},Xm ps=some ns->ps=ns.map .int
 | [],ns,h=>by cases h; rfl
 | .int i :: ps,ns,h=>by
  rw [Xm] at h;cases e:Xm ps with
  | none=>rw [e] at h; cases h
  | some ms=>rw [e] at h; cases h; rw [Q26 e]; rfl
 | .non :: _,_,h | .bl _ :: _,_,h | .str _ :: _,_,h | .tup _ :: _,_,h | .lst _ :: _,_,h | .fro _ :: _,_,h | .ref _ :: _,_,h | .dic :: _,_,h=>by cases h
theorem Qkp:∀ {ps:List PV} {ns:List Bool},Q3f ps=some ns->ps=ns.map .bl
 | [],ns,h=>by cases h; rfl
 | .bl i :: ps,ns,h=>by
  rw [Q3f] at h;cases e:Q3f ps with
  | none=>rw [e] at h; cases h
  | some ms=>rw [e] at h; cases h; rw [Qkp e]; rfl
 | .non :: _,_,h | .int _ :: _,_,h | .str _ :: _,_,h | .tup _ :: _,_,h | .lst _ :: _,_,h | .fro _ :: _,_,h | .ref _ :: _,_,h | .dic :: _,_,h=>by cases h
def oLt:OP:=fun st p q=>match p,q with
 | .int a,.int b=>.ok (.bl (decide (a < b))) st
 | .tup xs,.tup ys=>match Xm xs,Xm ys with
  | some ns,some ms=>.ok (.bl (HT.lexLt ns ms)) st
  | _,_=>.stuck
 | _,_=>.stuck
theorem Qw8 (hu:X.A.units + 64 < aV):OpS X E (aU .Lt) oLt:=⟨fun H ρ st p q x y Q R rp rq h=>by
 unfold oLt at h
 split at h
 ·cases rp; cases rq;exact WO.of Qwd ⟨_,_,rfl,rfl,now R h rfl⟩
 ·split at h
  ·rename_i ns ms e1 e2;obtain ⟨a,vs,rfl,ha,na,ra⟩:=rp;obtain ⟨b,us,rfl,hb,nb,rb⟩:=rq;rw [Q26 e1] at ra;rw [Q26 e2] at rb;rw [ra.toInts] at ha;rw [rb.toInts] at hb;exact WO.of (Qt4 (by omega)) ⟨a,b,ns,ms,rfl,rfl,SqT.of ha,SqT.of hb,now R h rfl⟩
  ·exact h.elim
 ·exact h.elim⟩
def dep:Nat:=12
def oEq:OP:=fun st p q=>if Z6 dep (der st p)=true/\Z6 dep (der st q)=true then .ok (.bl (peq (der st p) (der st q))) st else .stuck
def oNe:OP:=fun st p q=>if Z6 dep (der st p)=true/\Z6 dep (der st q)=true then .ok (.bl (!peq (der st p) (der st q))) st else .stuck
theorem Qwc (hu:X.A.units + 64 < aV):OpS X E (aU .Eq) oEq:=⟨fun H ρ st p q x y Q R rp rq h=>by
 unfold oEq at h
 split at h
 ·rename_i g;intro pins s σ v u I rv ru;exact (Qee dep I g.1 g.2 (by unfold dep; omega) (Q0m R g.1 rp) rv (Q0m R g.2 rq) ru).2.1 _ _ _ _ ⟨.bl _,H,I,rfl,now R h rfl⟩
 ·exact h.elim⟩
theorem Qw7 (hu:X.A.units + 64 < aV):OpS X E (aU .NotEq) oNe:=⟨fun H ρ st p q x y Q R rp rq h=>by
 unfold oNe at h
 split at h
 ·rename_i g;intro pins s σ v u I rv ru;exact (Qee dep I g.1 g.2 (by unfold dep; omega) (Q0m R g.1 rp) rv (Q0m R g.2 rq) ru).2.2 _ _ _ _ ⟨.bl _,H,I,rfl,now R h rfl⟩
 ·exact h.elim⟩
def Q61:PV->Bool
 | .non=>true
 | _=>false
theorem Qg6 {x:V} (r:Rep H ρ p x):decide (x=.non)=Q61 p:=by
 cases p with
 | non=>cases r; rfl
 | bl _=>cases r; rfl
 | int _=>cases r; rfl
 | str _=>cases r; rfl
 | tup _=>obtain ⟨_,_,rfl,_⟩:=r; rfl
 | lst _=>obtain ⟨_,_,rfl,_⟩:=r; rfl
 | fro _=>obtain ⟨_,_,rfl,_⟩:=r; rfl
 | ref _=>obtain ⟨_,_,rfl⟩:=r; rfl
 | dic=>obtain ⟨_,rfl,_⟩:=r; rfl
def oIs:OP:=fun st p q=>match q with
 | .non=>.ok (.bl (Q61 p)) st
 | .bl c=>match p with
  | .bl b=>.ok (.bl (b == c)) st
  | _=>.stuck
 | _=>.stuck
def Q2w:OP:=fun st p q=>match q with
 | .non=>.ok (.bl (!Q61 p)) st
 | .bl c=>match p with
  | .bl b=>.ok (.bl (b != c)) st
  | _=>.stuck
 | _=>.stuck
theorem Qj4:OpS X E (aU .IsNot) Q2w:=⟨fun H ρ st p q x y Q R rp rq h=>by
 unfold Q2w at h
 split at h
 ·cases rq;refine WO.of Qnq ⟨rfl,?_⟩;rw [Qg6 rp];exact now R h rfl
 ·split at h
  ·cases rp; cases rq;exact WO.of Qaq ⟨_,_,rfl,rfl,now R h rfl⟩
  ·exact h.elim
 ·exact h.elim⟩
def oIn (neg:Bool):OP:=fun st p q=>match Kh st q with
 | some xs=>if Z6 dep (der st p)=true/\xs.all (Z6 dep)=true then .ok (.bl ((xs.any fun y=>peq y (der st p)) != neg)) st else .stuck
 | none=>.stuck
open Classical in
theorem Qbb {pins:List (aA × Obj)} {s:aC} {A:aQ} {p:PV} {xs:List PV} {x:V} {v:aB} {vs:List V} {its:List aB} (I:Inv X pins σ H s) (hu:A.units + dep < aV) (R:Rel H ρ st)
  (gp:Z6 dep (der st p)=true) (gx:xs.all (Z6 dep)=true) (rp:Rep H ρ p x) (rv:RelV x v) (ra:RepL H ρ xs vs) (vi:Vals vs its):∃ e:aB->Bool,(∀ u,u∈its.toArray->SeqAt.EqAt A s u v (e u))/\its.toArray.any e=xs.any fun y=>peq y (der st p):=by
 have key:∀ u∈its,∃ q∈xs,∃ y,Rep H Tk.nil q y/\RelV y u:=fun u hu=>by
  obtain ⟨j,hj,rfl⟩:=List.getElem_of_mem hu;have l1:=vi.length;have l2:=ra.length;obtain ⟨y,e1,e2⟩:=(repL_nil gx ra).get (O3 (show j < xs.length by omega));obtain ⟨w,e3,e4⟩:=vi.get e1;rw [O3 hj] at e3; cases e3;exact ⟨_,List.getElem_mem _,y,e2,e4⟩
 refine ⟨fun u=>decide (∃ q∈xs,∃ y,Rep H Tk.nil q y/\RelV y u/\peq q (der st p)=true),fun u hm=>?_,?_⟩
 ·have hm':u∈its:=by simpa using hm
  by_cases z:∃ q∈xs,∃ y,Rep H Tk.nil q y/\RelV y u/\peq q (der st p)=true
  ·show SeqAt.EqAt A s u v (decide _);rw [bP z];obtain ⟨q,hq,y,r1,r2,e⟩:=z;have:=(Qee dep I ((F0.mp gx) q hq) gp hu r1 r2 (Q0m R gp rp) rv).1;rw [e] at this;exact this
  ·show SeqAt.EqAt A s u v (decide _);rw [bO z];obtain ⟨q,hq,y,r1,r2⟩:=key u hm';have:=(Qee dep I ((F0.mp gx) q hq) gp hu r1 r2 (Q0m R gp rp) rv).1;cases e:peq q (der st p) with
   | true=>exact absurd ⟨q,hq,y,r1,r2,e⟩ z
   | false=>rw [e] at this; exact this
 ·rw [Bool.eq_iff_iff,Array.any_eq_true,List.any_eq_true];constructor
  ·rintro ⟨j,hj,e⟩;obtain ⟨q,hq,y,r1,r2,e⟩:=of_decide_eq_true e;exact ⟨q,hq,e⟩
  ·rintro ⟨q,hq,e⟩;obtain ⟨j,hj,rfl⟩:=List.getElem_of_mem hq;have l1:=vi.length;have l2:=ra.length;have hj':j < its.length:=by omega
   obtain ⟨y,e1,e2⟩:=(repL_nil gx ra).get (O3 hj);obtain ⟨w,e3,e4⟩:=vi.get e1;refine ⟨j,by simpa using hj',bP ⟨_,hq,y,e2,?_,e⟩⟩;rw [O3 hj'] at e3; cases e3;simpa using e4
theorem Qj3 (hu:X.A.units + 64 < aV):OpS X E (aU .NotIn) (oIn true):=⟨fun H ρ st p q x y Q R rp rq h=>by
 unfold oIn at h
 split at h
 ·rename_i xs es
  split at h
  ·rename_i g;obtain ⟨t,a,vs,rfl,hq,ra⟩:=Q4t (K:=X.K) R rq es;intro pins s σ v u I rv ru;cases ru;rw [Bool.bne_true] at h;cases t with
   | true=>
    obtain ⟨its,r,pl,hz⟩:=I.tuple hq;obtain ⟨e,he,ea⟩:=Qbb (A:=X.A.in1) I (by show X.A.units + 1 + dep < aV; unfold dep; omega) R g.1 g.2 rp rv ra r;refine SeqAt.notIn_tupleAt e pl he ⟨.bl _,H,I,rfl,?_⟩;rw [ea];exact now R h rfl
   | false=>
    obtain ⟨its,r,pl,hz⟩:=I.list hq;obtain ⟨e,he,ea⟩:=Qbb (A:=X.A.in1) I (by show X.A.units + 1 + dep < aV; unfold dep; omega) R g.1 g.2 rp rv ra r;refine SeqAt.notIn_listAt e pl.isList he ⟨.bl _,H,I,rfl,?_⟩;rw [ea];exact now R h rfl
  ·exact h.elim
 ·exact h.elim⟩
variable {H:Hp} {ρ:Tk}
theorem RepL.atI {ps:List PV} {vs:List V} {i:Int} {p:PV} (r:RepL H ρ ps vs) (e:atI ps i=some p):∃ v,L2.atI vs i=some v/\Rep H ρ p v:=by
 unfold L2.atI at e ⊢;rw [<- r.length];cases q:ixN ps.length i with
 | none=>rw [q] at e; cases e
 | some j=>
  rw [q] at e;exact r.get e
def cut {α:Type} (xs:List α) (lo hi:Option Int):List α:=(xs.drop (HT.sIx xs.length 0 lo)).take (HT.sIx xs.length xs.length hi - HT.sIx xs.length 0 lo)
theorem RepL.cut (r:RepL H ρ ps vs) (lo hi:Option Int):RepL H ρ (Sm.cut ps lo hi) (Qbf vs lo hi):=by
 unfold Sm.cut Qbf;rw [<- r.length];exact (r.drop _).take _
section
variable {X:Cx} {E:XK} {pos:Pos} {a b:aF} {ma mb:ME}
def oIx:OP:=fun st p q=>match Kh st p,q with
 | some xs,.int i=>okO st (atI xs i)
 | _,_=>.stuck
theorem Qvi (ha:SimE X E a ma) (hb:SimE X E b mb) (hs:Qeq b:=by exact fun _ _=>rfl):SimE X E (.Subscript a b pos) (mOp oIx ma mb):=
 ⟨fun Γ σ H ρ st Q R G h=>WE.of (Qw4 Qtw Yr Yr hs) (ha.use R G h.bind fun p st1 H1 ρ1 v x1 R1 G1 r1 h1=>hb.use R1 G1 h1.bind fun q st2 H2 ρ2 u x2 R2 G2 r2 h2=>by
  unfold oIx at h2
  split at h2
  ·rename_i xs i e;cases r2;cases ea:atI xs i with
   | none=>rw [ea] at h2; exact h2.elim
   | some w=>
    rw [ea] at h2;obtain ⟨t,b,vs,rfl,hq,ra⟩:=Q4t (K:=X.K) R2 (r1.ext x2) e;obtain ⟨z,ez,rz⟩:=ra.atI ea;cases t with
    | true=>exact .inr (.inl ⟨b,vs,i,z,rfl,rfl,hq,ez,now R2 h2 rz⟩)
    | false=>exact .inl ⟨b,vs,i,z,rfl,rfl,hq,ez,now R2 h2 rz⟩
  ·exact h2.elim)⟩
structure SimO (X:Cx) (E:XK) (o:Option aF) (m:Gam->Q0->Res (Option Int)):Prop where
 run:∀ (Γ:Gam) (σ:St) (H:Hp) (ρ:Tk) (st:Q0) (P:Option Int->Q0->Hp->Tk->Prop) (Q:Option Int->Hp->Prop),Rel H ρ st->EnvR H ρ Γ σ->Acc X.mg E H ρ P (m Γ st) ->
  (∀ i st1 H1 ρ1,Ext H ρ H1 ρ1->Rel H1 ρ1 st1->EnvR H1 ρ1 Γ σ->P i st1 H1 ρ1->Q i H1)->∃ t,PO X o t/\t σ H Q
def Ud:Gam->Q0->Res (Option Int):=fun _ st=>.ok none st
def Xc (m:ME):Gam->Q0->Res (Option Int):=fun Γ st=>(m Γ st).bind fun p st1=>match p with
 | .int i=>.ok (some i) st1
 | _=>.stuck
theorem Qmb:SimO X E none Ud:=⟨fun Γ σ H ρ st P Q R G h k=>⟨_,Qn3,k none st H ρ (Ext.refl _ _) R G (h H ρ (Ext.refl _ _) R)⟩⟩
theorem Qma (ha:SimE X E a ma):SimO X E (some a) (Xc ma):=⟨fun Γ σ H ρ st P Q R G h k=>⟨_,Qn2 Yr,ha.use R G h.bind fun p st1 H1 ρ1 v x1 R1 G1 r1 h1=>by
 cases p with
 | int i=>exact ⟨i,r1,k (some i) st1 H1 ρ1 x1 R1 G1 (h1 H1 ρ1 (Ext.refl _ _) R1)⟩
 | _=>exact h1.elim⟩⟩
def oSl (st:Q0) (p:PV) (lo hi:Option Int):Res PV:=match p with
 | .tup xs=>.ok (.tup (cut xs lo hi)) st
 | p=>match U7 st p with
  | some xs=>.ok (.lst (cut xs lo hi)) st
  | none=>.stuck
def mSl (ma:ME) (ml mh:Gam->Q0->Res (Option Int)):ME:=fun Γ st=>(ma Γ st).bind fun p st1=>(ml Γ st1).bind fun lo st2=>(mh Γ st2).bind fun hi st3=>oSl st3 p lo hi
def TO.w (X:Cx) (o:Option aF):TO:=fun σ H Q=>∃ t,PO X o t/\t σ H Q
theorem Qvz {o:Option aF}:PO X o (TO.w X o):=fun pins s σ H Q I ⟨t,h,q⟩=>h pins s σ H Q I q
theorem Qhu {lo hi:Option aF} {ml mh:Gam->Q0->Res (Option Int)} {p2:Pos} (ha:SimE X E a ma) (hl:SimO X E lo ml) (hh:SimO X E hi mh):SimE X E (.Subscript a (.Slice lo hi none p2) pos) (mSl ma ml mh):=
 ⟨fun Γ σ H ρ st Q R G h=>WE.of (Qiv (sl_tup.or (sl_whole.or Qmd)) Yr Qvz Qvz) (ha.use R G h.bind fun p st1 H1 ρ1 v x1 R1 G1 r1 h1=>by
  refine hl.run Γ σ H1 ρ1 st1 _ _ R1 G1 h1.bind fun l st2 H2 ρ2 x2 R2 G2 h2=>?_
  refine hh.run Γ σ H2 ρ2 st2 _ _ R2 G2 h2.bind fun u st3 H3 ρ3 x3 R3 G3 h3=>?_
  have r3:=r1.ext (x2.trans x3);unfold oSl at h3
  split at h3
  ·rename_i xs;obtain ⟨a,vs,rfl,ha,na,ra⟩:=r3
   by_cases hw:HT.sIx vs.length 0 l=0/\HT.sIx vs.length vs.length u=vs.length
   ·refine .inr (.inl ⟨a,vs,rfl,SqT.of ha,hw,?_⟩);have e:cut xs l u=xs:=by
     unfold cut;rw [ra.length,hw.1,hw.2,List.drop_zero,Nat.sub_zero,<- ra.length,List.take_length]
    rw [e] at h3;exact now R3 h3 ⟨a,vs,rfl,ha,na,ra⟩
   ·exact .inl ⟨a,vs,rfl,SqT.of ha,hw,Q1x R3 h3 (ra.cut l u)⟩
  ·split at h3
   ·rename_i xs e;obtain ⟨a,vs,rfl,ha,ra⟩:=Q25 R3 r3 e;exact .inr (.inr ⟨a,vs,rfl,.inl ha,Q40 R3 h3 (ra.cut l u)⟩)
   ·exact h3.elim)⟩
variable {es:List aF} {e:aF} {mr:Gam->Q0->Res (List PV)}
def Qq (o:CF) (mr:Gam->Q0->Res (List PV)):ME:=fun Γ st=>(mr Γ st).bind fun ps st1=>o st1 ps
theorem CallS.use {f:aB} (s:CallS X E f o) {P:PV->Q0->Hp->Tk->Prop} {Q:VK} {xs:List V} (R:Rel H ρ st) (rp:RepL H ρ ps xs) (h:Acc X.mg E H ρ P (o st ps))
  (k:∀ p st1 H1 ρ1 v,Ext H ρ H1 ρ1->Rel H1 ρ1 st1->Rep H1 ρ1 p v->P p st1 H1 ρ1->Q v H1):WC X f xs H Q:=by
 refine s.run H ρ st ps xs Q R rp ?_;cases r:o st ps with
 | ok p st1=>rw [r] at h; exact fun H' ρ' x' R' v rv=>k p st1 H' ρ' v x' R' rv (h H' ρ' x' R')
 | exc e st=>rw [r] at h; exact h
 | stuck=>rw [r] at h; exact h
theorem Qi0 {id:String} {x:Str} {p:Pos} (hc:CallS X E (.builtin id) o) (hg:Gl X x) (hm:X.mg x=none) (hv:aW x=some (.builtin id)) (ha:SimA X E (e :: es) mr) (hn:x≠"__name__" := by decide) (hdb:(x == ("__debug__" : Str))=false:=by decide)
  (he:aM (e :: es) X.env=(false,aL e X.env) :: aM es X.env:=by rfl) (hpl:(aS pos (aM es X.env)).any (·.1)=false:=by rfl):SimE X E (.Call (.Name x p) (e :: es) [] pos) (Qq o mr):=
 ⟨fun Γ σ H ρ st Q R G h=>WE.of (Q57 Qk9 hg hm hv Q0q hn hdb he hpl) (ha.use R G h.bind fun ps st1 H1 ρ1 vs x1 R1 G1 r1 h1=>hc.use R1 r1 h1 fun _ _ _ _ v _ _ r q=>q v r)⟩
theorem Qhz {x:Str} {p:Pos} (hc:CallS X E (.type T) o) (hg:Gl X x) (hm:X.mg x=none) (hv:aW x=some (.type T)) (ha:SimA X E (e :: es) mr) (hn:x≠"__name__" := by decide) (hdb:(x == ("__debug__" : Str))=false:=by decide)
  (he:aM (e :: es) X.env=(false,aL e X.env) :: aM es X.env:=by rfl) (hpl:(aS pos (aM es X.env)).any (·.1)=false:=by rfl):SimE X E (.Call (.Name x p) (e :: es) [] pos) (Qq o mr):=
 ⟨fun Γ σ H ρ st Q R G h=>WE.of (Q7i Qk9 hg hm hv Q0q hn hdb he hpl) (ha.use R G h.bind fun ps st1 H1 ρ1 vs x1 R1 G1 r1 h1=>hc.use R1 r1 h1 fun _ _ _ _ v _ _ r q=>q v r)⟩
theorem Wi {xs:List V} (r:RepL H ρ [p] xs):∃ v,xs=[v]/\Rep H ρ p v:=by
 obtain ⟨v,t,rfl,h1,h2⟩:=r;cases h2;exact ⟨v,rfl,h1⟩
theorem xn {q:PV} {xs:List V} (r:RepL H ρ [p,q] xs):∃ v u,xs=[v,u]/\Rep H ρ p v/\Rep H ρ q u:=by
 obtain ⟨v,t,rfl,h1,h2⟩:=r;obtain ⟨u,rfl,h3⟩:=Wi h2;exact ⟨v,u,rfl,h1,h3⟩
def Y1:CF:=fun st ps=>match ps with
 | [p]=>match Kh st p with
  | some xs=>.ok (.int xs.length) st
  | none=>match p with
   | .str x=>if x.length<=lim then .ok (.int x.length) st else .stuck
   | _=>.stuck
 | _=>.stuck
theorem Qu5:CallS X E (.builtin "len") Y1:=⟨fun H ρ st ps xs Q R rp h=>by
 unfold Y1 at h
 split at h
 ·rename_i p;obtain ⟨v,rfl,r⟩:=Wi rp
  split at h
  ·rename_i ys e;obtain ⟨t,a,vs,rfl,hq,ra⟩:=Q4t (K:=X.K) R r e;rw [ra.length] at h;exact WC.of Q9t ⟨a,vs,rfl,Qrj hq,now R h rfl⟩
  ·split at h
   ·cases r
    split at h
    ·rename_i hl;exact WC.of Q9s ⟨_,rfl,X1 hl,now R h rfl⟩
    ·exact h.elim
   ·exact h.elim
 ·exact h.elim⟩
def U2 (g:List Int->Option PV):CF:=fun st ps=>match ps with
 | [p]=>match (Kh st p).bind Xm with
  | some ns=>okO st (g ns)
  | none=>.stuck
 | _=>.stuck
def yu (g:List Bool->PV):CF:=fun st ps=>match ps with
 | [p]=>match (Kh st p).bind Q3f with
  | some ns=>.ok (g ns) st
  | none=>.stuck
 | _=>.stuck
theorem Q63 {ns:List Int} (R:Rel H ρ st) (r:Rep H ρ p v) (e:(Kh st p).bind Xm=some ns):∃ (t:Bool) (a:aA),v=.ref a/\SqK K t H a (ns.map V.int):=by
 cases q:Kh st p with
 | none=>rw [q] at e; cases e
 | some xs=>
  rw [q] at e;obtain ⟨t,a,vs,rfl,hq,ra⟩:=Q4t (K:=K) R r q;rw [Q26 e] at ra;rw [ra.toInts] at hq;exact ⟨t,a,rfl,hq⟩
theorem Qen {ns:List Bool} (R:Rel H ρ st) (r:Rep H ρ p v) (e:(Kh st p).bind Q3f=some ns):∃ (t:Bool) (a:aA),v=.ref a/\SqK K t H a (ns.map V.bl):=by
 cases q:Kh st p with
 | none=>rw [q] at e; cases e
 | some xs=>
  rw [q] at e;obtain ⟨t,a,vs,rfl,hq,ra⟩:=Q4t (K:=K) R r q;rw [Qkp e] at ra;rw [ra.toBls] at hq;exact ⟨t,a,rfl,hq⟩
theorem Qu2 (hc:X.calm=true):CallS X E (.builtin "sum") (U2 fun ns=>some (.int ns.sum)):=⟨fun H ρ st ps xs Q R rp h=>by
 unfold U2 at h
 split at h
 ·obtain ⟨v,rfl,r⟩:=Wi rp
  split at h
  ·rename_i ns e;obtain ⟨t,a,rfl,hq⟩:=Q63 (K:=X.K) R r e;exact WC.of (Qka t hc) ⟨a,ns,rfl,hq,now R h rfl⟩
  ·exact h.elim
 ·exact h.elim⟩
theorem Qu7 (hc:X.calm=true):CallS X E (.builtin "all") (yu fun ns=>.bl (ns.all id)):=⟨fun H ρ st ps xs Q R rp h=>by
 unfold yu at h
 split at h
 ·obtain ⟨v,rfl,r⟩:=Wi rp
  split at h
  ·rename_i ns e;obtain ⟨t,a,rfl,hq⟩:=Qen (K:=X.K) R r e;exact WC.of (Qkc t hc) ⟨a,ns,rfl,hq,now R h rfl⟩
  ·exact h.elim
 ·exact h.elim⟩
theorem Qu6 (hc:X.calm=true):CallS X E (.builtin "any") (yu fun ns=>.bl (ns.any id)):=⟨fun H ρ st ps xs Q R rp h=>by
 unfold yu at h
 split at h
 ·obtain ⟨v,rfl,r⟩:=Wi rp
  split at h
  ·rename_i ns e;obtain ⟨t,a,rfl,hq⟩:=Qen (K:=X.K) R r e;exact WC.of (Qkb t hc) ⟨a,ns,rfl,hq,now R h rfl⟩
  ·exact h.elim
 ·exact h.elim⟩
def xt:List Int->Option Int
 | []=>none
 | n :: ns=>some (ns.foldl (fun a b=>if b > a then b else a) n)
def Qzq:List Int->Option Int
 | []=>none
 | n :: ns=>some (ns.foldl (fun a b=>if b < a then b else a) n)
theorem Q83:∀ (ns:List Int) (n:Int),(ns.foldl (fun a b=>if b > a then b else a) n=n\/ns.foldl (fun a b=>if b > a then b else a) n∈ns)/\n<=ns.foldl (fun a b=>if b > a then b else a) n/\∀ k∈ns,k<=ns.foldl (fun a b=>if b > a then b else a) n
 | [],n=>⟨.inl rfl,Int.le_refl _,fun k h=>by cases h⟩
 | m :: ns,n=>by
  obtain ⟨h1,h2,h3⟩:=Q83 ns (if m > n then m else n);rw [List.foldl_cons];refine ⟨?_,?_,fun k hk=>?_⟩
  ·rcases h1 with e | e
   ·by_cases hm:m > n
    ·rw [bM hm] at e ⊢; exact .inr (by rw [e]; exact D3)
    ·rw [bN hm] at e ⊢; exact .inl e
   ·exact .inr (O6 _ e)
  ·by_cases hm:m > n
   ·rw [bM hm] at h2 ⊢; omega
   ·rw [bN hm] at h2 ⊢; exact h2
  ·rcases E7.mp hk with rfl | hk
   ·by_cases hm:k > n
    ·rw [bM hm] at h2 ⊢; exact h2
    ·rw [bN hm] at h2 ⊢; omega
   ·exact h3 k hk
theorem Q82:∀ (ns:List Int) (n:Int),(ns.foldl (fun a b=>if b < a then b else a) n=n\/ns.foldl (fun a b=>if b < a then b else a) n∈ns)/\ns.foldl (fun a b=>if b < a then b else a) n<=n/\∀ k∈ns,ns.foldl (fun a b=>if b < a then b else a) n<=k
 | [],n=>⟨.inl rfl,Int.le_refl _,fun k h=>by cases h⟩
 | m :: ns,n=>by
  obtain ⟨h1,h2,h3⟩:=Q82 ns (if m < n then m else n);rw [List.foldl_cons];refine ⟨?_,?_,fun k hk=>?_⟩
  ·rcases h1 with e | e
   ·by_cases hm:m < n
    ·rw [bM hm] at e ⊢; exact .inr (by rw [e]; exact D3)
    ·rw [bN hm] at e ⊢; exact .inl e
   ·exact .inr (O6 _ e)
  ·by_cases hm:m < n
   ·rw [bM hm] at h2 ⊢; omega
   ·rw [bN hm] at h2 ⊢; exact h2
  ·rcases E7.mp hk with rfl | hk
   ·by_cases hm:k < n
    ·rw [bM hm] at h2 ⊢; exact h2
    ·rw [bN hm] at h2 ⊢; omega
   ·exact h3 k hk
def Qd7:CF:=fun st ps=>match ps with
 | [.int a,.int b]=>.ok (.int (if b > a then b else a)) st
 | ps=>U2 (fun ns=>(xt ns).map .int) st ps
def Qgu:CF:=fun st ps=>match ps with
 | [.int a,.int b]=>.ok (.int (if b < a then b else a)) st
 | ps=>U2 (fun ns=>(Qzq ns).map .int) st ps
theorem Qu4 (hc:X.calm=true):CallS X E (.builtin "max") Qd7:=⟨fun H ρ st ps xs Q R rp h=>by
 unfold Qd7 at h
 split at h
 ·obtain ⟨v,u,rfl,r1,r2⟩:=xn rp;cases r1; cases r2;exact WC.of (Qgs hc) ⟨_,_,rfl,now R h rfl⟩
 ·unfold U2 at h
  split at h
  ·obtain ⟨v,rfl,r⟩:=Wi rp
   split at h
   ·rename_i ns e;cases ns with
    | nil=>exact h.elim
    | cons n ns=>
     obtain ⟨t,a,rfl,hq⟩:=Q63 (K:=X.K) R r e;refine WC.of (Qgr t hc) ⟨a,_,rfl,hq,by simp,fun m hm hk=>?_⟩;have em:m=ns.foldl (fun a b=>if b > a then b else a) n:=by
      obtain ⟨h1,h2,h3⟩:=Q83 ns n;have g1:ns.foldl (fun a b=>if b > a then b else a) n<=m:=by
       rcases h1 with e | e
       ·rw [e]; exact hk _ D3
       ·exact hk _ (O6 _ e)
      have g2:m<=ns.foldl (fun a b=>if b > a then b else a) n:=by
       rcases E7.mp hm with rfl | hm
       ·exact h2
       ·exact h3 m hm
      omega
     subst em;exact now R h rfl
   ·exact h.elim
  ·exact h.elim⟩
theorem Qu3 (hc:X.calm=true):CallS X E (.builtin "min") Qgu:=⟨fun H ρ st ps xs Q R rp h=>by
 unfold Qgu at h
 split at h
 ·obtain ⟨v,u,rfl,r1,r2⟩:=xn rp;cases r1; cases r2;exact WC.of (Qgq hc) ⟨_,_,rfl,now R h rfl⟩
 ·unfold U2 at h
  split at h
  ·obtain ⟨v,rfl,r⟩:=Wi rp
   split at h
   ·rename_i ns e;cases ns with
    | nil=>exact h.elim
    | cons n ns=>
     obtain ⟨t,a,rfl,hq⟩:=Q63 (K:=X.K) R r e;refine WC.of (Qgp t hc) ⟨a,_,rfl,hq,by simp,fun m hm hk=>?_⟩;have em:m=ns.foldl (fun a b=>if b < a then b else a) n:=by
      obtain ⟨h1,h2,h3⟩:=Q82 ns n;have g1:m<=ns.foldl (fun a b=>if b < a then b else a) n:=by
       rcases h1 with e | e
       ·rw [e]; exact hk _ D3
       ·exact hk _ (O6 _ e)
      have g2:ns.foldl (fun a b=>if b < a then b else a) n<=m:=by
       rcases E7.mp hm with rfl | hm
       ·exact h2
       ·exact h3 m hm
      omega
     subst em;exact now R h rfl
   ·exact h.elim
  ·exact h.elim⟩
def Kf:CF:=fun st ps=>match ps with
 | [p]=>match Kh st p with
  | some xs=>.ok (.tup xs) st
  | none=>.stuck
 | _=>.stuck
theorem Qk6:CallS X E (.type "tuple") Kf:=⟨fun H ρ st ps xs Q R rp h=>by
 unfold Kf at h
 split at h
 ·rename_i p;obtain ⟨v,rfl,r⟩:=Wi rp
  split at h
  ·rename_i ys e;cases p with
   | tup zs=>
    cases e;obtain ⟨a,vs,rfl,ha,na,ra⟩:=r;exact WC.of Q0y ⟨a,vs,rfl,.inr ⟨SqT.of ha,now R h ⟨a,vs,rfl,ha,na,ra⟩⟩⟩
   | _=>
    obtain ⟨a,vs,rfl,ha,ra⟩:=Q25 R r e;exact WC.of Q0y ⟨a,vs,rfl,.inl ⟨.inl ha,Q1x R h ra⟩⟩
  ·exact h.elim
 ·exact h.elim⟩
def tyN:PV->String
 | .non => "NoneType"
 | .bl _ => "bool"
 | .int _ => "int"
 | .str _ => "str"
 | .tup _ => "tuple"
 | .lst _ => "list"
 | .fro _ => "list"
 | .ref _ => "list"
 | .dic => "dict"
def dpv (st:Q0):PV->PV
 | .ref i=>match st[i]? with
  | some (.dic _)=>.dic
  | some (.dtp _)=>.dic
  | _=>.ref i
 | p=>p
def isI (T:String) (p:PV):Bool:=tyN p == T || (T == "int" && tyN p == "bool")
def Q1e (st:Q0):PV->Bool
 | .ref i=>match st[i]? with
  | some (.frd _)=>true
  | some (.obj _ _)=>true
  | _=>false
 | _=>false
theorem Qv1 (nf:Q1e st p=false) (R:Rel H ρ st) (r:Rep H ρ p v):TyOf K H v (.type (tyN (dpv st p))):=by
 cases p with
 | non=>cases r; exact .non
 | bl b=>cases r; exact .bl b
 | int i=>cases r; exact .int i
 | str x=>cases r; exact .str x
 | tup ps=>obtain ⟨a,vs,rfl,h,_⟩:=r; exact .tup h
 | lst ps=>obtain ⟨a,vs,rfl,h,_⟩:=r; exact .lst h
 | fro ps=>
  obtain ⟨a,vs,rfl,h,_⟩:=r;rcases h with h | ⟨o,h⟩
  ·exact .lst h
  ·exact .frz h
 | ref i=>
  obtain ⟨a,e,rfl⟩:=r;have hl:i < st.length:=by rw [<- R.len]; exact (O1.mp e).1
  have hs:=O3 hl;have q:=R.cell i a st[i] e hs;cases hc:st[i] with
  | lst xs=>rw [hc] at q hs; simp only [dpv,hs]; obtain ⟨vs,h,_⟩:=q; exact .lst h
  | dic xs=>rw [hc] at q hs; simp only [dpv,hs]; obtain ⟨vs,h,_⟩:=q; exact .dK h
  | dtp xs=>rw [hc] at q hs; simp only [dpv,hs]; obtain ⟨vs,h,_⟩:=q; exact .dT h
  | frd xs=>rw [hc] at hs; simp only [Q1e,hs] at nf; cases nf
  | obj C xs=>rw [hc] at hs; simp only [Q1e,hs] at nf; cases nf
 | dic=>obtain ⟨a,rfl,h,_⟩:=r; exact .dK h
def Q5z:List String:=["int", "bool", "str", "tuple", "list", "dict"]
theorem Qtq (K:PySem.W.Frag) (hT:T∈Q5z) (p:PV):PySem.W.kitOne K (.type (tyN p)) (.type T)=some (isI T p):=by
 have hT:T = "int" \/ T = "bool" \/ T = "str" \/ T = "tuple" \/ T = "list" \/ T = "dict" := by simpa [Q5z] using hT
 rcases hT with rfl | rfl | rfl | rfl | rfl | rfl <;> cases p <;> first | rfl | kernel_rfl
def Qb4 (T:String) (m:ME):ME:=fun Γ st=>(m Γ st).bind fun p st1=>if Q1e st1 p=true then .stuck else .ok (.bl (isI T (dpv st1 p))) st1
theorem Qs0 {tx:Str} {p tp:Pos} (hT:T∈Q5z) (ha:SimE X E a ma) (hg:Gl X "isinstance") (hm:X.mg "isinstance" = none) (hgT:Gl X tx) (hmT:X.mg tx=none) (hvT:aW tx=some (.type T))
  (hn:tx≠"__name__" := by decide) (hd:(tx == ("__debug__" : Str))=false:=by decide)
  (he:aM [a,.Name tx tp] X.env=(false,aL a X.env) :: aM [.Name tx tp] X.env:=by rfl) (he2:aM [.Name tx tp] X.env=(false,aL (.Name tx tp) X.env) :: aM [] X.env:=by rfl) (hpl:(aS pos (aM [.Name tx tp] X.env)).any (·.1)=false:=by rfl) :
  SimE X E (.Call (.Name "isinstance" p) [a,.Name tx tp] [] pos) (Qb4 T ma):=
 ⟨fun Γ σ H ρ st Q R G h=>WE.of (Q57 Qbk hg hm Q3u (Kn Yr (Kn (Qnf hgT hmT hvT (v:=.ty T) rfl hn hd) Q15 he2) he) (by decide) (by decide) he hpl)
  (ha.use R G h.bind fun q st1 H1 ρ1 v x1 R1 G1 r1 h1=>by
   by_cases nf:Q1e st1 q=true
   ·rw [bM nf] at h1; exact h1.elim
   ·rw [bN nf] at h1;exact ⟨v,.ty T,.type T,_,_,rfl,rfl,Qv1 (by simpa using nf) R1 r1,Qtq X.K hT (dpv st1 q),now R1 h1 rfl⟩)⟩
end
abbrev GA:=PV->Gam->Option Gam
abbrev GAs:=List PV->Gam->Option Gam
variable {gs:GAs}
structure SimG (X:Cx) (tg:aF) (ga:GA):Prop where
 run:∀ (Γ Γ':Gam) (σ:St) (H:Hp) (ρ:Tk) (p:PV) (v:V) (Q:St->Hp->Prop),EnvR H ρ Γ σ->Rep H ρ p v->ga p Γ=some Γ'->(∀ σ',EnvR H ρ Γ' σ'->Q σ' H)->∃ t,PG X tg t/\t v σ H Q
structure SimGs (X:Cx) (tgs:List aF) (n:Nat) (ga:GAs):Prop where
 run:∀ (Γ Γ':Gam) (σ:St) (H:Hp) (ρ:Tk) (ps:List PV) (vs:List V) (Q:St->Hp->Prop),EnvR H ρ Γ σ->RepL H ρ ps vs->ga ps Γ=some Γ'->(∀ σ',EnvR H ρ Γ' σ'->Q σ' H)->∃ t,PGs X tgs t/\t vs σ H Q
 len:∀ ps Γ Γ',ga ps Γ=some Γ'->ps.length=n
def Qc (i:Nat):GA:=fun p Γ=>some (Γ.set i (some p))
def Xe:GAs:=fun ps Γ=>match ps with
 | []=>some Γ
 | _=>none
def Zc (g:GA) (gs:GAs):GAs:=fun ps Γ=>match ps with
 | p :: r=>(g p Γ).bind (gs r)
 | []=>none
def Xd (gs:GAs):GA:=fun p Γ=>match p with
 | .tup ps=>gs ps Γ
 | _=>none
theorem Qmg {i:Nat} {x:Str} (hN:X.N.Nodup) (hi:X.N[i]?=some x:=by rfl) (hx:Loc X.env.scope x:=by first | exact Or.inl rfl | exact Or.inr rfl) (hf:X.fn x=true\/X.env.scope.names.lookup x=some .local:=by first | exact .inl rfl | exact .inr rfl):SimG X (.Name x pos) (Qc i):=
 ⟨fun Γ Γ' σ H ρ p v Q G r e k=>⟨_,Qn8 hN hi hx hf,by cases e; exact k _ (G.set r i)⟩⟩
theorem Qmf:SimGs X [] 0 Xe:=⟨fun Γ Γ' σ H ρ ps vs Q G r e k=>⟨_,Qn6,by
 cases ps with
 | nil=>cases e; cases r; exact ⟨rfl,k σ G⟩
 | cons _ _=>cases e⟩,fun ps Γ Γ' e=>by
 cases ps with
 | nil=>rfl
 | cons _ _=>cases e⟩
def WGx (X:Cx) (tg:aF):TG:=fun v σ H Q=>∃ t,PG X tg t/\t v σ H Q
theorem Qn7 {tg:aF}:PG X tg (WGx X tg):=fun pins s σ H v u Q I r ⟨t,h,q⟩=>h pins s σ H v u Q I r q
def J03 (X:Cx) (tgs:List aF):TGs:=fun v σ H Q=>∃ t,PGs X tgs t/\t v σ H Q
theorem Qqk {tgs:List aF}:PGs X tgs (J03 X tgs):=fun pins s σ H v u Q I r ⟨t,h,q⟩=>h pins s σ H v u Q I r q
theorem Qhr {g:GA} (h1:SimG X e g) (h2:SimGs X es n gs) (hs:(ao (e :: es) X.env).map (·.2)=assign e X.env :: (ao es X.env).map (·.2):=by rfl):SimGs X (e :: es) (n + 1) (Zc g gs):=
 ⟨fun Γ Γ' σ H ρ ps vs Q G r eq k=>⟨_,Qir Qn7 Qqk hs,by
  cases ps with
  | nil=>cases eq
  | cons p ps=>
   obtain ⟨v,t,rfl,r1,r2⟩:=r;have eq:(g p Γ).bind (gs ps)=some Γ':=eq;cases e1:g p Γ with
   | none=>rw [e1] at eq; cases eq
   | some Γ1=>
    rw [e1] at eq;exact ⟨v,t,rfl,h1.run Γ Γ1 σ H ρ p v _ G r1 e1 fun σ1 G1=>h2.run Γ1 Γ' σ1 H ρ ps t _ G1 r2 eq k⟩⟩,fun ps Γ Γ' e=>by
  cases ps with
  | nil=>cases e
  | cons p ps=>
   have e:(g p Γ).bind (gs ps)=some Γ':=e;cases e1:g p Γ with
   | none=>rw [e1] at e; cases e
   | some Γ1=>rw [e1] at e; rw [D2,h2.len ps Γ1 Γ' e]⟩
theorem Qrr {k:Nat} (hc:X.calm=true) (h:SimGs X es n gs) (hn:(ao es X.env).length=n:=by rfl) (hst:(ao es X.env).findIdx? (·.1)=none:=by rfl):SimG X (.Tuple es k pos) (Xd gs):=
 ⟨fun Γ Γ' σ H ρ p v Q G r e q=>⟨_,Qsj hc Qqk hn hst,by
  cases p with
  | tup ps=>
   obtain ⟨a,vs,rfl,ha,na,ra⟩:=r;exact ⟨a,vs,rfl,SqT.of ha,by rw [<- ra.length]; exact h.len ps Γ Γ' e,h.run Γ Γ' σ H ρ ps vs Q G ra e q⟩
  | _=>cases e⟩⟩
abbrev Wt:=List (Nat × Cell)
def wOk (w:Wt) (st:Q0):Prop:=∀ x∈w,st[x.1]?=some x.2
theorem Xu (st:Q0):wOk [] st:=fun x h=>by cases h
structure Src (J:It) (items:List PV) (w:Wt) (H:Hp) (ρ:Tk):Prop where
 stop:∀ H2 ρ2 st2,Ext H ρ H2 ρ2->Rel H2 ρ2 st2->wOk w st2->J.stop items.length H2
 go:∀ H2 ρ2 st2,Ext H ρ H2 ρ2->Rel H2 ρ2 st2->wOk w st2->∀ i,i < items.length->J.go i H2
 yld:∀ H2 ρ2 st2,Ext H ρ H2 ρ2->Rel H2 ρ2 st2->wOk w st2->∀ i p,items[i]?=some p->∀ x H3,J.yld i H2 x H3->Same H2 H3/\Rep H3 ρ2 p x
abbrev MI:=Gam->Q0->Res (List PV × Wt)
structure SimI (X:Cx) (E:XK) (tg iter:aF) (mi:MI):Prop where
 run:∀ (Γ:Gam) (σ:St) (H:Hp) (ρ:Tk) (st:Q0) (P:List PV × Wt->Q0->Hp->Tk->Prop) (R':It->Hp->Prop),Rel H ρ st->EnvR H ρ Γ σ->Acc X.mg E H ρ P (mi Γ st) ->
  (∀ iw st1 H1 ρ1 J,mi Γ st=.ok iw st1->Ext H ρ H1 ρ1->Rel H1 ρ1 st1->EnvR H1 ρ1 Γ σ->wOk iw.2 st1->iw.1.length<=sizeLine->Src J iw.1 iw.2 H1 ρ1->P iw st1 H1 ρ1->R' J H1)->WI X tg iter σ H R'
def U1 (st:Q0):PV->Option (List PV × Wt)
 | .tup xs=>some (xs,[])
 | .lst xs=>some (xs,[])
 | .fro xs=>some (xs,[])
 | .ref i=>match st[i]? with
  | some (.lst xs)=>some (xs,[(i,.lst xs)])
  | _=>none
 | _=>none
theorem Q4q {K:PySem.W.Frag} {w:Wt} (R:Rel H ρ st) (r:Rep H ρ p v) (e:U1 st p=some (xs,w)) :
  wOk w st/\∃ (t:Bool) (a:aA),v=.ref a/\(t=true->∃ ys,p=.tup ys)/\(t=false->∀ ys,p≠.tup ys)/\∀ H2 ρ2 st2,Ext H ρ H2 ρ2->Rel H2 ρ2 st2->wOk w st2->∃ vs,SqK K t H2 a vs/\RepL H2 ρ2 xs vs:=by
 cases p with
 | tup ys=>
  obtain ⟨a,vs,rfl,ha,na,ra⟩:=r;cases e;exact ⟨Xu _,true,a,rfl,fun _=>⟨_,rfl⟩,(fun z=>by cases z),fun H2 ρ2 st2 x R2 _=>⟨vs,show SqT K H2 a vs from SqT.of (x.kp ha na),ra.ext x⟩⟩
 | lst ys=>
  obtain ⟨a,vs,rfl,ha,na,ra⟩:=r;cases e;exact ⟨Xu _,false,a,rfl,(fun z=>by cases z),(fun _ _ z=>by cases z),fun H2 ρ2 st2 x R2 _=>⟨vs,show SqL K H2 a vs from SqL.of (x.kp ha na),ra.ext x⟩⟩
 | fro ys=>
  obtain ⟨a,vs,rfl,ha,na,ra⟩:=r;cases e;refine ⟨Xu _,false,a,rfl,(fun z=>by cases z),(fun _ _ z=>by cases z),fun H2 ρ2 st2 x R2 _=>⟨vs,show SqL K H2 a vs from ?_,ra.ext x⟩⟩
  rcases ha with ha | ⟨o,ha⟩
  ·exact .inl (.inl (x.kp ha na))
  ·exact .inl (.inr ⟨o,x.kp ha na⟩)
 | ref i=>
  obtain ⟨a,ea,rfl⟩:=r;simp only [U1] at e
  split at e
  ·rename_i ys hs;cases e;refine ⟨fun x hx=>?_,false,a,rfl,(fun z=>by cases z),(fun _ _ z=>by cases z),fun H2 ρ2 st2 x R2 ok=>?_⟩
   ·have:x=(i,.lst xs):=by simpa using hx
    subst this; exact hs
   ·have hs2:=ok (i,.lst xs) (by simp);obtain ⟨b,vs,f1,f2,f3⟩:=R2.lst hs2;obtain ⟨t,et⟩:=x.pre;rw [<- et,O9 (O1.mp ea).1,ea] at f1;cases f1;exact ⟨vs,show SqL K H2 a vs from SqL.of f2,f3⟩
  ·cases e
 | _=>cases e
section
variable {X:Cx} {E:XK} {pos:Pos} {tg:aF} {e:aF} {m:ME}
def Kc (m:ME):MI:=fun Γ st=>(m Γ st).bind fun p st1=>match U1 st1 p with
 | some (xs,w)=>if xs.length<=lim then .ok (xs,w) st1 else .stuck
 | none=>.stuck
theorem RepL.i {H:Hp} {ρ:Tk} {ps:List PV} {vs:List V} {i:Nat} {p:PV} {x:V} (r:RepL H ρ ps vs) (h:ps[i]?=some p) (h':vs[i]?=some x):Rep H ρ p x:=by
 obtain ⟨v,e,q⟩:=r.get h;rw [h'] at e; cases e;exact q
theorem Qdi {t:Bool} {a:aA} {w:Wt} (h:∀ H2 ρ2 st2,Ext H ρ H2 ρ2->Rel H2 ρ2 st2->wOk w st2->∃ vs,SqK K t H2 a vs/\RepL H2 ρ2 xs vs):Src (if t=true then Itt K a else Itl K a) xs w H ρ:=by
 cases t with
 | true=>
  rw [bM rfl];refine ⟨fun H2 ρ2 st2 x R ok=>?_,fun H2 ρ2 st2 x R ok i hi=>?_,fun H2 ρ2 st2 x R ok i p hp y H3 hy=>?_⟩
  ·obtain ⟨vs,s,r⟩:=h H2 ρ2 st2 x R ok;exact ⟨vs,s,by rw [r.length]; exact O4 _⟩
  ·obtain ⟨vs,s,r⟩:=h H2 ρ2 st2 x R ok;have hi':i < vs.length:=by rw [<- r.length]; exact hi
   exact ⟨vs,vs[i],s,O3 hi'⟩
  ·obtain ⟨vs,s,r⟩:=h H2 ρ2 st2 x R ok;obtain ⟨rfl,hv⟩:=hy;exact ⟨Same.refl _,r.i hp (hv vs s)⟩
 | false=>
  rw [bN D8];refine ⟨fun H2 ρ2 st2 x R ok=>?_,fun H2 ρ2 st2 x R ok i hi=>?_,fun H2 ρ2 st2 x R ok i p hp y H3 hy=>?_⟩
  ·obtain ⟨vs,s,r⟩:=h H2 ρ2 st2 x R ok;exact ⟨vs,s,by rw [r.length]; exact O4 _⟩
  ·obtain ⟨vs,s,r⟩:=h H2 ρ2 st2 x R ok;have hi':i < vs.length:=by rw [<- r.length]; exact hi
   exact ⟨vs,vs[i],s,O3 hi'⟩
  ·obtain ⟨vs,s,r⟩:=h H2 ρ2 st2 x R ok;obtain ⟨rfl,hv⟩:=hy;exact ⟨Same.refl _,r.i hp (hv vs s)⟩
theorem Qe3 {P:List PV × Wt->Q0->Hp->Tk->Prop} (R:Rel H ρ st) (h:Acc mg E H ρ P (match U1 st p with | some (xs,w)=>if xs.length<=lim then .ok (xs,w) st else .stuck | none=>.stuck)) :
  ∃ xs w,U1 st p=some (xs,w)/\xs.length<=lim/\P (xs,w) st H ρ:=by
 split at h
 ·rename_i xs w e
  split at h
  ·rename_i hl;exact ⟨xs,w,e,hl,h H ρ (Ext.refl _ _) R⟩
  ·exact h.elim
 ·exact h.elim
theorem Qrq (ha:SimE X E e m):SimI X E tg e (Kc m):=⟨fun Γ σ H ρ st P R' R G h k=>by
 have hb:Acc X.mg E H ρ _ (m Γ st):=Acc.bind h
 by_cases ht:∃ ys st1,m Γ st=.ok (.tup ys) st1
 ·obtain ⟨ys,st0,e0⟩:=ht;refine WI.of (Qsi Yr) (ha.use' R G hb fun p st1 H1 ρ1 v eq x1 R1 G1 r1 h1=>?_);obtain ⟨xs,w,e,hl,hP⟩:=Qe3 R1 h1;obtain ⟨ok,t,a,rfl,t1,t2,sq⟩:=Q4q (K:=X.K) R1 r1 e;have ep:p=.tup ys:=by rw [eq] at e0; injection e0
  cases t with
  | false=>exact absurd ep (t2 rfl ys)
  | true=>
   obtain ⟨vs,s,_⟩:=sq H1 ρ1 st1 (Ext.refl _ _) R1 ok;exact ⟨a,rfl,⟨vs,s⟩,k (xs,w) st1 H1 ρ1 _ (by simp only [Kc,eq,Res.bind,e,bM hl]) x1 R1 G1 ok (X1 hl) (Qdi sq) hP⟩
 ·refine WI.of (Qn4 Yr) (ha.use' R G hb fun p st1 H1 ρ1 v eq x1 R1 G1 r1 h1=>?_);obtain ⟨xs,w,e,hl,hP⟩:=Qe3 R1 h1;obtain ⟨ok,t,a,rfl,t1,t2,sq⟩:=Q4q (K:=X.K) R1 r1 e;cases t with
  | true=>
   obtain ⟨ys,rfl⟩:=t1 rfl;exact absurd ⟨ys,st1,eq⟩ ht
  | false=>
   obtain ⟨vs,s,_⟩:=sq H1 ρ1 st1 (Ext.refl _ _) R1 ok;exact ⟨a,rfl,⟨vs,s⟩,k (xs,w) st1 H1 ρ1 _ (by simp only [Kc,eq,Res.bind,e,bM hl]) x1 R1 G1 ok (X1 hl) (Qdi sq) hP⟩⟩
def Zu (lo:Int) (n:Nat):List PV:=(List.range n).map fun (k:Nat)=>PV.int (lo + (k:Int))
theorem Q7b {lo:Int} :Src (Itr lo n) (Zu lo n) [] H ρ:=by
 have hl:(Zu lo n).length=n:=by unfold Zu; rw [O2,F4]
 refine ⟨fun H2 ρ2 st2 x R ok=>?_,fun H2 ρ2 st2 x R ok i hi=>?_,fun H2 ρ2 st2 x R ok i p hp y H3 hy=>?_⟩
 ·show n<=(Zu lo n).length;omega
 ·show i < n;omega
 ·obtain ⟨rfl,rfl⟩:=hy;have hi:i < n:=by rw [<- hl]; exact (O1.mp hp).1
  unfold Zu at hp;rw [E3,F5 hi] at hp;cases hp;exact ⟨Same.refl _,rfl⟩
def Yi (mr:Gam->Q0->Res (List PV)):MI:=fun Γ st=>(mr Γ st).bind fun ps st1=>match ps with
 | [.int j]=>if -(lim:Int)<=j/\j<=lim then .ok (Zu 0 j.toNat,[]) st1 else .stuck
 | _=>.stuck
def Q22 (mr:Gam->Q0->Res (List PV)):MI:=fun Γ st=>(mr Γ st).bind fun ps st1=>match ps with
 | [.int i,.int j]=>if -(lim:Int)<=i/\i<=lim/\-(lim:Int)<=j/\j<=lim then .ok (Zu i (j - i).toNat,[]) st1 else .stuck
 | _=>.stuck
variable {a b:aF} {mr:Gam->Q0->Res (List PV)} {p:Pos}
theorem Q52 (lo:Int) (n:Nat):(Zu lo n).length=n:=by unfold Zu; rw [O2,F4]
theorem Qf3 (hg:Gl X "range") (hm:X.mg "range" = none) (ha:SimA X E [a] mr) (hs:aM [a] X.env=[(false,aL a X.env)]:=by rfl):SimI X E tg (.Call (.Name "range" p) [a] [] pos) (Yi mr):=⟨fun Γ σ H ρ st P R' R G h k=>by
 refine WI.of (Qfj hg hm Q0q hs) (ha.use' R G h.bind fun ps st1 H1 ρ1 vs eq x1 R1 G1 r1 h1=>?_)
 split at h1
 ·rename_i j
  split at h1
  ·rename_i hj;obtain ⟨v,rfl,rv⟩:=Wi r1;cases rv;have hl:(lim:Int)=1000000:=rfl;refine ⟨j,rfl,by omega,by omega,k (Zu 0 j.toNat,[]) st1 H1 ρ1 _ (by simp only [Yi,eq,Res.bind,bM hj]) x1 R1 G1 (Xu _) ?_ Q7b (h1 H1 ρ1 (Ext.refl _ _) R1)⟩;show (Zu 0 j.toNat).length<=sizeLine;rw [Q52];exact X1 (by omega)
  ·exact h1.elim
 ·exact h1.elim⟩
theorem Qf2 (hg:Gl X "range") (hm:X.mg "range" = none) (ha:SimA X E [a,b] mr) (hs:aM [a,b] X.env=[(false,aL a X.env),(false,aL b X.env)]:=by rfl) (hs2:aM [b] X.env=[(false,aL b X.env)]:=by rfl):SimI X E tg (.Call (.Name "range" p) [a,b] [] pos) (Q22 mr):=⟨fun Γ σ H ρ st P R' R G h k=>by
 refine WI.of (Qfi hg hm Q0q hs hs2) (ha.use' R G h.bind fun ps st1 H1 ρ1 vs eq x1 R1 G1 r1 h1=>?_)
 split at h1
 ·rename_i i j
  split at h1
  ·rename_i hj;obtain ⟨v,u,rfl,rv,ru⟩:=xn r1;cases rv; cases ru;have hl:(lim:Int)=1000000:=rfl;refine ⟨i,j,rfl,⟨by omega,by omega,by omega,by omega⟩,k (Zu i (j - i).toNat,[]) st1 H1 ρ1 _ (by simp only [Q22,eq,Res.bind,bM hj]) x1 R1 G1 (Xu _) ?_ Q7b (h1 H1 ρ1 (Ext.refl _ _) R1)⟩;show (Zu i (j - i).toNat).length<=sizeLine;rw [Q52];exact F1 (show (j - i).toNat<=2000000 by omega) (by decide)
  ·exact h1.elim
 ·exact h1.elim⟩
def Q4d:List PV->List PV->List PV
 | x :: xs,y :: ys=>.tup [x,y] :: Q4d xs ys
 | _,_=>[]
theorem Q8f (xs ys:List PV):Q4d xs ys=(xs.zip ys).map fun z=>.tup [z.1,z.2]:=by
 induction xs generalizing ys with
 | nil=>rfl
 | cons x xs ih=>
  cases ys with
  | nil=>rfl
  | cons y ys=>rw [Q4d,ih]; rfl
theorem Q4c (xs ys:List PV):(Q4d xs ys).length=min xs.length ys.length:=by rw [Q8f,O2,List.length_zip]
theorem Qh3 {ys:List PV} {i:Nat} {p:PV} (h:(Q4d xs ys)[i]?=some p):∃ x y,p=.tup [x,y]/\xs[i]?=some x/\ys[i]?=some y:=by
 rw [Q8f,E3] at h;cases e:(xs.zip ys)[i]? with
 | none=>rw [e] at h; cases h
 | some z=>
  rw [e] at h; cases h;rw [List.getElem?_zip_eq_some] at e;exact ⟨z.1,z.2,rfl,e.1,e.2⟩
def Qfz (mr:Gam->Q0->Res (List PV)):MI:=fun Γ st=>(mr Γ st).bind fun ps st1=>match ps with
 | [p,q]=>match U1 st1 p,U1 st1 q with
  | some (xs,w),some (ys,w')=>if xs.length<=lim then .ok (Q4d xs ys,w ++ w') st1 else .stuck
  | _,_=>.stuck
 | _=>.stuck
theorem Q08 {w w':Wt} (h:wOk (w ++ w') st):wOk w st/\wOk w' st:=⟨fun x hx=>h x (G7 _ hx),fun x hx=>h x (E8 _ hx)⟩
theorem Qm8 {t1 t2:Bool} {a b:aA} {ys:List PV} {w w':Wt} (h:∀ H2 ρ2 st2,Ext H ρ H2 ρ2->Rel H2 ρ2 st2->wOk w st2->∃ vs,SqK K t1 H2 a vs/\RepL H2 ρ2 xs vs)
  (h':∀ H2 ρ2 st2,Ext H ρ H2 ρ2->Rel H2 ρ2 st2->wOk w' st2->∃ vs,SqK K t2 H2 b vs/\RepL H2 ρ2 ys vs):Src (Itz K t1 t2 a b) (Q4d xs ys) (w ++ w') H ρ:=by
 refine ⟨fun H2 ρ2 st2 x R ok=>?_,fun H2 ρ2 st2 x R ok i hi=>?_,fun H2 ρ2 st2 x R ok i p hp y H3 hy=>?_⟩
 ·obtain ⟨vs,s,r⟩:=h H2 ρ2 st2 x R (Q08 ok).1;obtain ⟨us,s',r'⟩:=h' H2 ρ2 st2 x R (Q08 ok).2;refine ⟨vs,us,s,s',?_⟩;rw [Q4c,<- r.length,<- r'.length];omega
 ·obtain ⟨vs,s,r⟩:=h H2 ρ2 st2 x R (Q08 ok).1;obtain ⟨us,s',r'⟩:=h' H2 ρ2 st2 x R (Q08 ok).2;rw [Q4c,r.length,r'.length] at hi;have h1:i < vs.length:=by omega
  have h2:i < us.length:=by omega
  exact ⟨vs,us,vs[i],us[i],s,s',O3 h1,O3 h2⟩
 ·obtain ⟨vs,s,r⟩:=h H2 ρ2 st2 x R (Q08 ok).1;obtain ⟨us,s',r'⟩:=h' H2 ρ2 st2 x R (Q08 ok).2;obtain ⟨q,u,v,hn,rfl,rfl,hv⟩:=hy;obtain ⟨e1,e2⟩:=hv vs us s s';obtain ⟨xp,yp,rfl,p1,p2⟩:=Qh3 hp;have sm:Same H2 (upd H2 q (.tup [u,v])):=Qac hn;exact ⟨sm,q,[u,v],rfl,Qz,R.fresh hn,RepL.cons ((r.i p1 e1).ext (Ext.same sm)) (RepL.cons ((r'.i p2 e2).ext (Ext.same sm)) RepL.nil)⟩
theorem Qrp {elts:List aF} {kt:Nat} {tp:Pos} (hg:Gl X "zip") (hm:X.mg "zip" = none) (ha:SimA X E [a,b] mr) (hs:aM [a,b] X.env=[(false,aL a X.env),(false,aL b X.env)]:=by rfl) (hs2:aM [b] X.env=[(false,aL b X.env)]:=by rfl) :
  SimI X E (.Tuple elts kt tp) (.Call (.Name "zip" p) [a,b] [] pos) (Qfz mr):=⟨fun Γ σ H ρ st P R' R G h k=>by
 have hb:Acc X.mg E H ρ _ (mr Γ st):=Acc.bind h;have main:∀ t1 t2:Bool,(∀ p q st1,mr Γ st=.ok [p,q] st1->(t1=true <-> ∃ ys,p=.tup ys)/\(t2=true <-> ∃ ys,q=.tup ys))->WI X (.Tuple elts kt tp) (.Call (.Name "zip" p) [a,b] [] pos) σ H R':=fun t1 t2 ht=>by
  refine WI.of (Qsg t1 t2 hg hm Q0q hs hs2) (ha.use' R G hb fun ps st1 H1 ρ1 vs eq x1 R1 G1 r1 h1=>?_)
  split at h1
  ·rename_i p' q'
   split at h1
   ·rename_i xs w ys w' e1 e2
    split at h1
    ·rename_i hl;obtain ⟨v,u,rfl,rv,ru⟩:=xn r1;obtain ⟨ok1,b1,a1,rfl,z1,z1',sq1⟩:=Q4q (K:=X.K) R1 rv e1;obtain ⟨ok2,b2,a2,rfl,z2,z2',sq2⟩:=Q4q (K:=X.K) R1 ru e2;obtain ⟨g1,g2⟩:=ht _ _ _ eq;have eb1:b1=t1:=by
      cases b1 with
      | true=>exact (g1.mpr (z1 rfl)).symm
      | false=>
       cases t1 with
       | false=>rfl
       | true=>obtain ⟨ys,e⟩:=g1.mp rfl; exact absurd e (z1' rfl ys)
     have eb2:b2=t2:=by
      cases b2 with
      | true=>exact (g2.mpr (z2 rfl)).symm
      | false=>
       cases t2 with
       | false=>rfl
       | true=>obtain ⟨ys,e⟩:=g2.mp rfl; exact absurd e (z2' rfl ys)
     subst eb1; subst eb2;obtain ⟨vs1,s1,_⟩:=sq1 H1 ρ1 st1 (Ext.refl _ _) R1 ok1;obtain ⟨vs2,s2,_⟩:=sq2 H1 ρ1 st1 (Ext.refl _ _) R1 ok2;refine ⟨a1,a2,vs1,vs2,rfl,s1,s2,k (Q4d xs ys,w ++ w') st1 H1 ρ1 _ (by simp only [Qfz,eq,Res.bind,e1,e2,bM hl]) x1 R1 G1 (fun x hx=>?_) ?_ (Qm8 sq1 sq2) (h1 H1 ρ1 (Ext.refl _ _) R1)⟩
     ·rcases F7.mp hx with hx | hx
      ·exact ok1 x hx
      ·exact ok2 x hx
     ·show (Q4d xs ys).length<=sizeLine;rw [Q4c];exact X1 (F1 (Nat.min_le_left _ _) hl)
    ·exact h1.elim
   ·exact h1.elim
  ·exact h1.elim
 have tt:∀ p:PV,∃ t:Bool,t=true <-> ∃ ys,p=.tup ys:=fun p=>by
  cases p with
  | tup ys=>exact ⟨true,fun _=>⟨ys,rfl⟩,fun _=>rfl⟩
  | _=>exact ⟨false,⟨fun z=>(by cases z),fun ⟨_,z⟩=>(by cases z)⟩⟩
 by_cases hz:∃ p q st1,mr Γ st=.ok [p,q] st1
 ·obtain ⟨p0,q0,st0,e0⟩:=hz;obtain ⟨t1,g1⟩:=tt p0;obtain ⟨t2,g2⟩:=tt q0;refine main t1 t2 fun p q st1 e=>?_
  rw [e0] at e; cases e;exact ⟨g1,g2⟩
 ·exact main true true fun p q st1 e=>absurd ⟨p,q,st1,e⟩ hz⟩
def Kj:Nat->List PV->List PV
 | _,[]=>[]
 | n,x :: xs=>.tup [.int n,x] :: Kj (n + 1) xs
theorem Q0k:∀ (n:Nat) (xs:List PV),(Kj n xs).length=xs.length
 | _,[]=>rfl
 | n,x :: xs=>by rw [Kj,D2,Q0k (n + 1) xs,D2]
theorem Q86:∀ {n:Nat} {xs:List PV} {i:Nat} {p:PV},(Kj n xs)[i]?=some p->∃ x,p=.tup [.int (n + i:Nat),x]/\xs[i]?=some x
 | n,[],i,p,h=>by simp [Kj] at h
 | n,x :: xs,0,p,h=>by
  simp [Kj] at h;exact ⟨x,h.symm,rfl⟩
 | n,x :: xs,i + 1,p,h=>by
  rw [Kj,List.getElem?_cons_succ] at h;obtain ⟨y,e1,e2⟩:=Q86 h;exact ⟨y,by rw [e1,show n + 1 + i=n + (i + 1) by omega],by simpa using e2⟩
def Q7r (mr:Gam->Q0->Res (List PV)):MI:=fun Γ st=>(mr Γ st).bind fun ps st1=>match ps with
 | [p]=>match U1 st1 p with
  | some (xs,w)=>if xs.length<=lim then .ok (Kj 0 xs,w) st1 else .stuck
  | none=>.stuck
 | _=>.stuck
theorem Qhp {t:Bool} {a:aA} {w:Wt} (h:∀ H2 ρ2 st2,Ext H ρ H2 ρ2->Rel H2 ρ2 st2->wOk w st2->∃ vs,SqK K t H2 a vs/\RepL H2 ρ2 xs vs):Src (Ite K t a) (Kj 0 xs) w H ρ:=by
 refine ⟨fun H2 ρ2 st2 x R ok=>?_,fun H2 ρ2 st2 x R ok i hi=>?_,fun H2 ρ2 st2 x R ok i p hp y H3 hy=>?_⟩
 ·obtain ⟨vs,s,r⟩:=h H2 ρ2 st2 x R ok;exact ⟨vs,s,by rw [Q0k,r.length]; exact O4 _⟩
 ·obtain ⟨vs,s,r⟩:=h H2 ρ2 st2 x R ok;rw [Q0k,r.length] at hi;exact ⟨vs,vs[i],s,O3 hi⟩
 ·obtain ⟨vs,s,r⟩:=h H2 ρ2 st2 x R ok;obtain ⟨q,u,hn,rfl,rfl,hv⟩:=hy;have e1:=hv vs s;obtain ⟨xp,rfl,p1⟩:=Q86 hp;have sm:Same H2 (upd H2 q (.tup [.int i,u])):=Qac hn;exact ⟨sm,q,[.int i,u],rfl,Qz,R.fresh hn,RepL.cons (by rw [Nat.zero_add]; rfl) (RepL.cons ((r.i p1 e1).ext (Ext.same sm)) RepL.nil)⟩
theorem Qme {elts:List aF} {kt:Nat} {tp:Pos} (hg:Gl X "enumerate") (hm:X.mg "enumerate" = none) (ha:SimA X E [a] mr) (hs:aM [a] X.env=[(false,aL a X.env)]:=by rfl) :
  SimI X E (.Tuple elts kt tp) (.Call (.Name "enumerate" p) [a] [] pos) (Q7r mr):=⟨fun Γ σ H ρ st P R' R G h k=>by
 have hb:Acc X.mg E H ρ _ (mr Γ st):=Acc.bind h;have main:∀ t1:Bool,(∀ p st1,mr Γ st=.ok [p] st1->(t1=true <-> ∃ ys,p=.tup ys))->WI X (.Tuple elts kt tp) (.Call (.Name "enumerate" p) [a] [] pos) σ H R':=fun t1 ht=>by
  refine WI.of (Qn5 t1 hg hm Q0q hs) (ha.use' R G hb fun ps st1 H1 ρ1 vs eq x1 R1 G1 r1 h1=>?_)
  split at h1
  ·rename_i p'
   split at h1
   ·rename_i xs w e1
    split at h1
    ·rename_i hl;obtain ⟨v,rfl,rv⟩:=Wi r1;obtain ⟨ok1,b1,a1,rfl,z1,z1',sq1⟩:=Q4q (K:=X.K) R1 rv e1;have g1:=ht _ _ eq;have eb1:b1=t1:=by
      cases b1 with
      | true=>exact (g1.mpr (z1 rfl)).symm
      | false=>
       cases t1 with
       | false=>rfl
       | true=>obtain ⟨ys,e⟩:=g1.mp rfl; exact absurd e (z1' rfl ys)
     subst eb1;obtain ⟨vs1,s1,_⟩:=sq1 H1 ρ1 st1 (Ext.refl _ _) R1 ok1;refine ⟨a1,vs1,rfl,s1,k (Kj 0 xs,w) st1 H1 ρ1 _ (by simp only [Q7r,eq,Res.bind,e1,bM hl]) x1 R1 G1 ok1 ?_ (Qhp sq1) (h1 H1 ρ1 (Ext.refl _ _) R1)⟩;show (Kj 0 xs).length<=sizeLine;rw [Q0k];exact X1 hl
    ·exact h1.elim
   ·exact h1.elim
  ·exact h1.elim
 have tt:∀ p:PV,∃ t:Bool,t=true <-> ∃ ys,p=.tup ys:=fun p=>by
  cases p with
  | tup ys=>exact ⟨true,fun _=>⟨ys,rfl⟩,fun _=>rfl⟩
  | _=>exact ⟨false,⟨fun z=>(by cases z),fun ⟨_,z⟩=>(by cases z)⟩⟩
 by_cases hz:∃ p st1,mr Γ st=.ok [p] st1
 ·obtain ⟨p0,st0,e0⟩:=hz;obtain ⟨t1,g1⟩:=tt p0;refine main t1 fun p st1 e=>?_
  rw [e0] at e; cases e;exact g1
 ·exact main true fun p st1 e=>absurd ⟨p,st1,e⟩ hz⟩
end
section
abbrev ML:=Gam->Q0->Res (List PV)
structure SimN (X:Cx) (E:XK) (e:aF) (m:ML):Prop where
 run:∀ (Γ:Gam) (σ:St) (H:Hp) (ρ:Tk) (st:Q0) (P:List PV->Q0->Hp->Tk->Prop) (Q:VK),Rel H ρ st->EnvR H ρ Γ σ->Acc X.mg E H ρ P (m Γ st) ->
  (∀ ps st1 H1 ρ1 a vs,m Γ st=.ok ps st1->Ext H ρ H1 ρ1->Rel H1 ρ1 st1->a∈ρ1.hid->H a=none->H1 a=some (.lst vs)->RepL H1 ρ1 ps vs->Q (.ref a) H1)->WE X e σ H Q
def Ua (m:ML):ME:=fun Γ st=>(m Γ st).bind fun ps st1=>.ok (.lst ps) st1
def Q1z (m:ML):ME:=fun Γ st=>(m Γ st).bind fun ps st1=>.ok (.ref st1.length) (st1 ++ [.lst ps])
section
variable {H0 H:Hp} {ρ0 ρ:Tk} {st:Q0} {a:aA} {ps:List PV} {vs:List V}
theorem Qds (R0:Rel H0 ρ0 st) (x:Ext H0 ρ0 H ρ) {st1:Q0} (R:Rel H ρ st1) (hm:a∈ρ.hid) (hn:H0 a=none) (ha:H a=some (.lst vs)) (r:RepL H ρ ps vs) :
  Ext H0 ρ0 H ⟨ρ.tr,ρ0.hid⟩/\Rel H ⟨ρ.tr,ρ0.hid⟩ st1/\Rep H ⟨ρ.tr,ρ0.hid⟩ (.lst ps) (.ref a):=
 ⟨x.unhide,R.unhide x.hidM,a,vs,rfl,ha,(fun z=>by
  rcases z with z | z
  ·exact R.ap a hm z
  ·obtain ⟨o,e,_⟩:=R0.hd a z;rw [hn] at e; cases e),r.unhide x.hidM⟩
mutual
theorem Rep.trk {b:aA} {hs:List aA} (hb:b∈ρ.hid) (hh:∀ c,c∈hs->c∈ρ.hid):∀ {p:PV} {v:V},Rep H ρ p v->Rep H ⟨ρ.tr ++ [b],hs⟩ p v
 | .non,_,r=>r
 | .bl _,_,r=>r
 | .int _,_,r=>r
 | .str _,_,r=>r
 | .tup ps,v,⟨c,vs,e,s,n,r⟩=>⟨c,vs,e,s,fun z=>by
   rcases z with z | z
   ·rcases F7.mp z with z | z
    ·exact n (.inl z)
    ·have:c=b:=by simpa using z
     subst this; exact n (.inr hb)
   ·exact n (.inr (hh _ z)),RepL.trk hb hh r⟩
 | .lst ps,v,⟨c,vs,e,s,n,r⟩=>⟨c,vs,e,s,fun z=>by
   rcases z with z | z
   ·rcases F7.mp z with z | z
    ·exact n (.inl z)
    ·have:c=b:=by simpa using z
     subst this; exact n (.inr hb)
   ·exact n (.inr (hh _ z)),RepL.trk hb hh r⟩
 | .fro ps,v,⟨c,vs,e,s,n,r⟩=>⟨c,vs,e,s,fun z=>by
   rcases z with z | z
   ·rcases F7.mp z with z | z
    ·exact n (.inl z)
    ·have:c=b:=by simpa using z
     subst this; exact n (.inr hb)
   ·exact n (.inr (hh _ z)),RepL.trk hb hh r⟩
 | .ref i,v,⟨c,e,e2⟩=>⟨c,by show (ρ.tr ++ [b])[i]?=some c; rw [O9 (O1.mp e).1]; exact e,e2⟩
 | .dic,v,⟨c,e,s,n⟩=>⟨c,e,s,fun z=>by
   rcases z with z | z
   ·rcases F7.mp z with z | z
    ·exact n (.inl z)
    ·have:c=b:=by simpa using z
     subst this; exact n (.inr hb)
   ·exact n (.inr (hh _ z))⟩
theorem RepL.trk {b:aA} {hs:List aA} (hb:b∈ρ.hid) (hh:∀ c,c∈hs->c∈ρ.hid):∀ {ps:List PV} {vs:List V},RepL H ρ ps vs->RepL H ⟨ρ.tr ++ [b],hs⟩ ps vs
 | [],_,r=>r
 | p :: ps,_,⟨v,t,e,r1,r2⟩=>⟨v,t,e,Rep.trk hb hh r1,RepL.trk hb hh r2⟩
end
theorem Qni (R0:Rel H0 ρ0 st) (x:Ext H0 ρ0 H ρ) {st1:Q0} (R:Rel H ρ st1) (hm:a∈ρ.hid) (hn:H0 a=none) (ha:H a=some (.lst vs)) (r:RepL H ρ ps vs) :
  Ext H0 ρ0 H ⟨ρ.tr ++ [a],ρ0.hid⟩/\Rel H ⟨ρ.tr ++ [a],ρ0.hid⟩ (st1 ++ [.lst ps])/\Rep H ⟨ρ.tr ++ [a],ρ0.hid⟩ (.ref st1.length) (.ref a):=by
 have na0:a∉ρ0.hid:=fun z=>by
  obtain ⟨o,e,_⟩:=R0.hd a z;rw [hn] at e; cases e
 refine ⟨⟨x.pre.trans (List.prefix_append _ _),fun _ h=>h,fun _ h=>.inl h,x.keep,fun b hb=>?_,x.old,x.frz⟩,⟨?_,?_,fun b hb=>R.hd b (x.hidM b hb),fun b hb z=>?_,fun i b c h1 h2=>?_⟩,a,?_,rfl⟩
 ·rcases F7.mp hb with z | z
  ·exact x.new b z
  ·have:b=a:=by simpa using z
   subst this; exact .inr hn
 ·show (ρ.tr ++ [a]).length=_;rw [D0,D0,R.len]; rfl
 ·show (ρ.tr ++ [a]).Nodup;refine List.nodup_append.mpr ⟨R.nd,by simp,fun b hb c hc e=>?_⟩;have:c=a:=by simpa using hc
  subst this; subst e;exact R.ap b hm hb
 ·rcases F7.mp z with z | z
  ·exact R.ap b (x.hidM b hb) z
  ·have:b=a:=by simpa using z
   subst this; exact na0 hb
 ·have h1:(ρ.tr ++ [a])[i]?=some b:=h1
  by_cases hi:i < st1.length
  ·rw [O9 (by rw [R.len]; exact hi)] at h1;rw [O9 hi] at h2;have q:=R.cell i b c h1 h2;cases c with
   | lst qs=>
    obtain ⟨us,e1,e2⟩:=q;exact ⟨us,e1,e2.trk hm x.hidM⟩
   | dic qs=>
    obtain ⟨us,e1,e2⟩:=q;exact ⟨us,e1,e2.1,e2.2.trk hm x.hidM⟩
   | dtp qs=>
    obtain ⟨us,e1,e2⟩:=q;exact ⟨us,e1,e2.1,e2.2.trk hm x.hidM⟩
   | frd qs=>
    obtain ⟨us,e1,e2⟩:=q;exact ⟨us,e1,e2.1,e2.2.trk hm x.hidM⟩
   | obj C qs=>
    obtain ⟨us,e1,e2⟩:=q;exact ⟨us,e1,e2.1,e2.2.trk hm x.hidM⟩
  ·rw [E2 (by rw [R.len]; omega)] at h1;rw [E2 (by omega)] at h2;have e0:i - st1.length=0:=by
    rcases Nat.eq_zero_or_pos (i - st1.length) with z | z
    ·exact z
    ·rw [E9 (by simp; omega)] at h2; cases h2
   rw [R.len,e0] at h1;rw [e0] at h2;simp at h1 h2;subst h1; subst h2;exact ⟨vs,ha,r.trk hm x.hidM⟩
 ·show (ρ.tr ++ [a])[st1.length]?=some a;rw [<- R.len,E2 (O4 _),Nat.sub_self]; rfl
end
section
variable {X:Cx} {E:XK} {pos:Pos} {e:aF} {m:ML}
theorem Qrs (h:SimN X E e m):SimE X E e (Ua m):=⟨fun Γ σ H ρ st Q R G hq=>h.run Γ σ H ρ st _ Q R G hq.bind fun ps st1 H1 ρ1 a vs eq x R1 hm hn ha r=>by
 obtain ⟨x2,R2,r2⟩:=Qds R x R1 hm hn ha r;unfold Ua at hq;rw [eq] at hq;exact hq _ _ x2 R2 _ r2⟩
theorem Qru (h:SimN X E e m):SimE X E e (Q1z m):=⟨fun Γ σ H ρ st Q R G hq=>h.run Γ σ H ρ st _ Q R G hq.bind fun ps st1 H1 ρ1 a vs eq x R1 hm hn ha r=>by
 obtain ⟨x2,R2,r2⟩:=Qni R x R1 hm hn ha r;unfold Q1z at hq;rw [eq] at hq;exact hq _ _ x2 R2 _ r2⟩
variable {es:List aF} {mr:Gam->Q0->Res (List PV)} {a b:aF} {ma mb:ME}
theorem Qta {ρ1:Tk} {st1:Q0} {Q:VK} (x:Ext H ρ H1 ρ1) (R1:Rel H1 ρ1 st1) (r:RepL H1 ρ1 ps vs)
  (k:∀ H1 ρ1 a vs,Ext H ρ H1 ρ1->Rel H1 ρ1 st1->a∈ρ1.hid->H a=none->H1 a=some (.lst vs)->RepL H1 ρ1 ps vs->Q (.ref a) H1):∀ p,H1 p=none->Q (.ref p) (upd H1 p (.lst vs)):=fun p hp=>by
 refine k _ (ρ1.hide p) p vs (x.trans (Ext.hide hp)) (R1.hide hp) D3 ?_ Qz (r.hide hp);cases e:H p with
 | none=>rfl
 | some o=>
  obtain ⟨o',e'⟩:=x.old p o e;rw [hp] at e'; cases e'
def yy (mr:Gam->Q0->Res (List PV)):ML:=fun Γ st=>(mr Γ st).bind fun ps st1=>if ps.length<=lim then .ok ps st1 else .stuck
theorem Qrk (h:SimA X E es mr):SimN X E (.List es pos) (yy mr):=
 ⟨fun Γ σ H ρ st P Q R G hq k=>WE.of (Qix Q0q) (h.use' R G hq.bind fun ps st1 H1 ρ1 vs eq x1 R1 G1 r1 h1=>by
  by_cases hl:ps.length<=lim
  ·refine ⟨by rw [<- r1.length]; exact X1 hl,Qta x1 R1 r1 fun H2 ρ2 a us=>k ps st1 H2 ρ2 a us ?_⟩;unfold yy;rw [eq];exact bM hl
  ·rw [bN hl] at h1; exact h1.elim)⟩
end
end
def J1 (cap:List (Option Nat)) (Γ:Gam):Gam:=cap.map fun c=>c.bind fun j=>(Γ[j]?).join
theorem EnvR.cap {H:Hp} {ρ:Tk} {Γ:Gam} {σ:St} (h:EnvR H ρ Γ σ) (cap:List (Option Nat)):EnvR H ρ (J1 cap Γ) (Q2c cap σ):=by
 refine ⟨by unfold J1 Q2c; rw [O2,O2],fun i p e=>?_⟩;unfold J1 at e;unfold Q2c;rw [E3] at e ⊢;cases q:cap[i]? with
 | none=>rw [q] at e; cases e
 | some c=>
  rw [q] at e;cases c with
  | none=>cases e
  | some j=>
   have e':(Γ[j]?).join=some p:=Option.some.inj e;cases r:Γ[j]? with
   | none=>rw [r] at e'; cases e'
   | some o=>
    rw [r] at e';have:o=some p:=e';subst this;obtain ⟨v,e1,e2⟩:=h.2 j p r;exact ⟨v,by show some ((σ[j]?).join)=some (some v); rw [e1]; rfl,e2⟩
def Q3g (cap:List (Option Nat)) (ga:GA):Prop:=∀ Γ p Γ1,ga p (J1 cap Γ)=some Γ1->Γ1.length=(J1 cap Γ).length/\∀ (i:Nat) (q:PV),(J1 cap Γ)[i]?=some (some q)->Γ1[i]?=some (some q)
theorem Q89 {cap:List (Option Nat)} {i:Nat} (h:cap[i]?=some none) (Γ:Gam):(J1 cap Γ)[i]?=some none:=by
 unfold J1;rw [E3,h]; rfl
theorem Qgb {cap:List (Option Nat)} {i:Nat} (h:cap[i]?=some none:=by rfl):Q3g cap (Qc i):=fun Γ p Γ1 e=>by
 cases e;refine ⟨F2 ..,fun j q hj=>?_⟩;rw [D5 fun z=>?_]
 ·exact hj
 ·subst z; rw [Q89 h] at hj; cases hj
def Qer (cap:List (Option Nat)) (ga:GAs):Prop:=∀ Γ ps Γ0 Γ1,(∀ (i:Nat) (q:PV),(J1 cap Γ)[i]?=some (some q)->Γ0[i]?=some (some q))->ga ps Γ0=some Γ1->Γ1.length=Γ0.length/\∀ (i:Nat) (q:PV),(J1 cap Γ)[i]?=some (some q)->Γ1[i]?=some (some q)
theorem Qk0 {cap:List (Option Nat)}:Qer cap Xe:=fun Γ ps Γ0 Γ1 h e=>by
 cases ps with
 | nil=>cases e; exact ⟨rfl,h⟩
 | cons _ _=>cases e
theorem Qgc {cap:List (Option Nat)} {i:Nat} (hs:Qer cap gs) (h:cap[i]?=some none:=by rfl):Qer cap (Zc (Qc i) gs):=fun Γ ps Γ0 Γ1 h0 e=>by
 cases ps with
 | nil=>cases e
 | cons p ps=>
  obtain ⟨a,b⟩:=hs Γ ps (Γ0.set i (some p)) Γ1 (fun k r hk=>by
   rw [D5 fun z=>?_]
   ·exact h0 k r hk
   ·subst z; rw [Q89 h] at hk; cases hk) e
  exact ⟨by rw [a,F2],b⟩
theorem Qjz {cap:List (Option Nat)} (hs:Qer cap gs):Q3g cap (Xd gs):=fun Γ p Γ1 e=>by
 cases p with
 | tup ps=>exact hs Γ ps _ Γ1 (fun _ _ h=>h) e
 | _=>cases e
open Classical in
def J4 (ga:GA) (mt:MT) (me:ME) (w:Wt) (Γ0:Gam):List PV->Q0->Res (List PV)
 | [],st=>if wOk w st then .ok [] st else .stuck
 | x :: xs,st=>if wOk w st then (match ga x Γ0 with
  | none=>.stuck
  | some Γ1=>(mt Γ1 st).bind fun b st1=>if b=true then (me Γ1 st1).bind fun y st2=>(J4 ga mt me w Γ0 xs st2).bind fun ys st3=>.ok (y :: ys) st3 else J4 ga mt me w Γ0 xs st1) else .stuck
def noX {α:Type}:Res α->Res α
 | .exc _ _=>.stuck
 | r=>r
def Z9 (cap:List (Option Nat)) (ga:GA) (mi:MI) (mt:MT) (me:ME):ML:=fun Γ st=>(mi Γ st).bind fun iw st1=>noX (J4 ga mt me iw.2 (J1 cap Γ) iw.1 st1)
structure SimTs (X:Cx) (ifs:List aF) (m:MT):Prop where
 run:∀ (Γ:Gam) (σ:St) (H:Hp) (ρ:Tk) (st:Q0) (P:Bool->Q0->Hp->Tk->Prop) (Q:Bool->Hp->Prop),Rel H ρ st->EnvR H ρ Γ σ->Acc X.mg E0 H ρ P (m Γ st) ->
  (∀ b st1 H1 ρ1,m Γ st=.ok b st1->Ext H ρ H1 ρ1->Rel H1 ρ1 st1->EnvR H1 ρ1 Γ σ->Q b H1)->∃ t,PTs X ifs t/\t σ H Q
def Zd:MT:=fun _ st=>.ok true st
theorem Qm7 :SimTs X [] Zd:=⟨fun Γ σ H ρ st P Q R G h k=>⟨_,Qmx,k true st H ρ rfl (Ext.refl _ _) R G⟩⟩
theorem Qm6 {m:MT} (hc:SimT X E0 c m):SimTs X [c] m:=⟨fun Γ σ H ρ st P Q R G h k=>⟨_,Qmw Qaj,hc.use' R G h fun b st1 H1 ρ1 e x1 R1 G1 p=>k b st1 H1 ρ1 e x1 R1 G1⟩⟩
theorem Qq9 {E':XK} {P:α->Q0->Hp->Tk->Prop} {r:Res α} (h:Acc mg E H ρ P (noX r)):Acc mg E' H ρ P r:=by
 cases r with
 | ok a st=>exact h
 | exc x st=>exact h.elim
 | stuck=>exact h
theorem Res.assoc {γ:Type} (r:Res α) (f:α->Q0->Res β) (g:β->Q0->Res γ):(r.bind f).bind g=r.bind fun a st=>(f a st).bind g:=by cases r <;> rfl
theorem Acc.assoc {γ:Type} {P:γ->Q0->Hp->Tk->Prop} {r:Res α} {f:α->Q0->Res β} {g:β->Q0->Res γ} (h:Acc mg E H ρ P ((r.bind f).bind g)):Acc mg E H ρ P (r.bind fun a st=>(f a st).bind g):=by
 rw [<- Res.assoc]; exact h
theorem EnvR.le {Γ':Gam} (h:EnvR H ρ Γ' σ) (hl:Γ.length=σ.length) (k:∀ (i:Nat) (q:PV),Γ[i]?=some (some q)->Γ'[i]?=some (some q)):EnvR H ρ Γ σ:=⟨hl,fun i p e=>h.2 i p (k i p e)⟩
variable {tg iter elt:aF} {ifs:List aF} {N N':List Str} {sc scE:Scope} {ga:GA} {mi:MI} {mt:MT} {me:ME}
section
variable {cap:List (Option Nat)}
def aE (X:Cx) (N':List Str) (sc:Scope) (e:aF):TE:=fun σ H Q=>∀ cl C s0 H0 ex,WE (Wz X N' sc cl C s0 H0 ex) e σ H Q
def aG (X:Cx) (N':List Str) (sc:Scope) (tg:aF):TG:=fun v σ H Q=>∀ cl C s0 H0 ex,WGx (Wz X N' sc cl C s0 H0 ex) tg v σ H Q
def aT (X:Cx) (N':List Str) (sc:Scope) (ifs:List aF):TT:=fun σ H Q=>∀ cl C s0 H0 ex,∃ t,PTs (Wz X N' sc cl C s0 H0 ex) ifs t/\t σ H Q
theorem Qgh {Γ:Gam} {σ:St} {H1:Hp} {ρ1:Tk} {st1:Q0} {J:It} {items:List PV} {w:Wt} {Q:VK} {P:List PV->Q0->Hp->Tk->Prop} (hg:∀ cl C s0 H0 ex,SimG (Wz X N' sc cl C s0 H0 ex) tg ga) (he:∀ cl C s0 H0 ex,SimE (Wz X N' sc cl C s0 H0 ex) E0 elt me) (ht:∀ cl C s0 H0 ex,SimTs (Wz X N' sc cl C s0 H0 ex) ifs mt)
  (hf:Q3g cap ga) (R1:Rel H1 ρ1 st1) (G1:EnvR H1 ρ1 Γ σ) (src:Src J items w H1 ρ1) (hlen:items.length<=sizeLine) (h:Acc X.mg E0 H1 ρ1 P (J4 ga mt me w (J1 cap Γ) items st1))
  (k:∀ ys st2 H2 ρ2 acc vs,J4 ga mt me w (J1 cap Γ) items st1=.ok ys st2->Ext H1 ρ1 H2 ρ2->Rel H2 ρ2 st2->acc∈ρ2.hid->H1 acc=none->H2 acc=some (.lst vs)->RepL H2 ρ2 ys vs->Q (.ref acc) H2):Q87 J cap (aG X N' sc tg) (aT X N' sc ifs) (aE X N' sc elt) σ H1 Q:=by
 intro acc hacc;let W:Nat->Nat->List V->St->Hp->Prop:=fun i m vs σ' H'=>m=items.length - i/\i<=items.length/\vs.length<=i/\∃ ρ' st' ys,Ext H1 ρ1 H' ρ'/\acc∈ρ'.hid/\Rel H' ρ' st'/\EnvR H' ρ' (J1 cap Γ) σ'/\H' acc=some (.lst vs)/\RepL H' ρ' ys vs /\
  J4 ga mt me w (J1 cap Γ) items st1=(J4 ga mt me w (J1 cap Γ) (items.drop i) st').bind fun zs st3=>.ok (ys ++ zs) st3
 refine ⟨W,⟨_,rfl,Nat.zero_le _,O4 _,ρ1.hide acc,st1,[],Ext.hide hacc,D3,R1.hide hacc,(G1.cap cap).hide hacc,Qz,rfl,?_⟩,?_⟩
 ·rw [List.drop_zero];cases r:J4 ga mt me w (J1 cap Γ) items st1 with
  | ok zs st3=>rfl
  | exc x st3=>rfl
  | stuck=>rfl
 rintro i m vs σ' H' ⟨hm,hi,hvl,ρ',st',ys,x,hmem,R',G',ha,ry,hq⟩;have hA:Acc X.mg E0 H1 ρ1 P ((J4 ga mt me w (J1 cap Γ) (items.drop i) st').bind fun zs st3=>.ok (ys ++ zs) st3):=by rw [<- hq]; exact h
 refine ⟨ha,?_⟩
 by_cases hlt:i < items.length
 ·right
  have hd:items.drop i=items[i] :: items.drop (i + 1):=List.drop_eq_getElem_cons hlt;rw [hd,J4] at hA hq
  by_cases hw:wOk w st'
  ·rw [bM hw] at hA hq;refine ⟨src.go H' _ st' x R' hw i hlt,by omega,fun y H2 hy=>?_⟩;obtain ⟨sm,ry2⟩:=src.yld H' _ st' x R' hw i _ (O3 hlt) y H2 hy;cases eg:ga items[i] (J1 cap Γ) with
   | none=>rw [eg] at hA; exact hA.elim
   | some Γ1=>
    rw [eg] at hA hq;have x2:Ext H' ρ' H2 ρ':=Ext.same sm;have R2:=R'.same sm;intro cl C s0 H0 ex;refine (hg cl C s0 H0 ex).run (J1 cap Γ) Γ1 σ' H2 ρ' _ y _ (G'.ext x2) ry2 eg fun σ3 G3=>?_
    intro cl C s0 H0 ex;have hA2:=Acc.later hA (x.trans x2);refine (ht cl C s0 H0 ex).run Γ1 σ3 H2 ρ' st' _ _ R2 G3 (Acc.bind (Acc.assoc hA2)) fun b st4 H4 ρ4 e4 x4 R4 G4=>?_
    simp only [e4,Res.bind] at hA hq;have G0:∀ {H'':Hp} {ρ'':Tk},EnvR H'' ρ'' Γ1 σ3->EnvR H'' ρ'' (J1 cap Γ) σ3:=fun {H'' ρ''} g=>g.le (by
     rw [<- G3.1];exact (hf Γ _ Γ1 eg).1.symm) (hf Γ _ Γ1 eg).2
    have x14:Ext H1 ρ1 H4 ρ4:=x.trans (x2.trans x4);have hm4:acc∈ρ4.hid:=x4.hidM acc hmem;have na:acc∉ρ'.tr:=R'.ap acc hmem;have ha4:H4 acc=some (.lst vs):=x4.keep acc _ (sm acc _ ha) na;have ry4:RepL H4 ρ4 ys vs:=ry.ext (x2.trans x4);cases b with
    | false=>
     rw [bN D8] at hA hq ⊢;exact ⟨_,show items.length - (i + 1) < m by omega,rfl,hlt,by omega,ρ4,st4,ys,x14,hm4,R4,G0 G4,ha4,ry4,hq⟩
    | true=>
     rw [bM rfl] at hA hq ⊢;intro cl C s0 H0 ex;have hA4:=Acc.later hA x14;refine (he cl C s0 H0 ex).use' R4 G4 (Acc.bind (Acc.assoc hA4)) fun z st5 H5 ρ5 zv e5 x5 R5 G5 r5 h5=>?_
     simp only [e5,Res.bind] at hA hq;have hm5:acc∈ρ5.hid:=x5.hidM acc hm4;have ha5:H5 acc=some (.lst vs):=x5.keep acc _ ha4 (R4.ap acc hm4);have x15:Ext H1 ρ1 H5 ρ5:=x14.trans x5;refine ⟨ha5,_,show items.length - (i + 1) < m by omega,rfl,hlt,by rw [D0]; simp; omega,ρ5,st5,ys ++ [z],x15.put0 hacc,hm5,R5.rehide hm5,(G0 G5).rehide hm5,Qz,((ry4.ext x5).append (RepL.cons r5 RepL.nil)).rehide hm5,?_⟩;refine hq.trans ?_;cases rr:J4 ga mt me w (J1 cap Γ) (items.drop (i + 1)) st5 with
     | ok zs st6=>
      show Res.ok (ys ++ z :: zs) st6=Res.ok ((ys ++ [z]) ++ zs) st6;rw [L5]; rfl
     | exc x6 st6=>rfl
     | stuck=>rfl
  ·rw [bN hw] at hA; exact hA.elim
 ·left
  have ei:i=items.length:=by omega
  subst ei;rw [List.drop_length,J4] at hA hq
  by_cases hw:wOk w st'
  ·rw [bM hw] at hA hq;refine ⟨src.stop H' _ st' x R' hw,?_⟩;have hq:J4 ga mt me w (J1 cap Γ) items st1=.ok (ys ++ []) st':=hq;rw [G9] at hq;exact k ys st' H' ρ' acc vs hq x R' hmem hacc ha ry
  ·rw [bN hw] at hA; exact hA.elim
theorem Qbg {Γ:Gam} {σ:St} {H:Hp} {ρ:Tk} {st:Q0} {Q:VK} {P:List PV->Q0->Hp->Tk->Prop} (hi:SimI X E tg iter mi) (hg:∀ cl C s0 H0 ex,SimG (Wz X N' sc cl C s0 H0 ex) tg ga) (he:∀ cl C s0 H0 ex,SimE (Wz X N' sc cl C s0 H0 ex) E0 elt me) (ht:∀ cl C s0 H0 ex,SimTs (Wz X N' sc cl C s0 H0 ex) ifs mt)
  (hf:Q3g cap ga) (R:Rel H ρ st) (G:EnvR H ρ Γ σ) (h:Acc X.mg E H ρ P (Z9 cap ga mi mt me Γ st)) (k:∀ ps st2 H2 ρ2 a vs,Z9 cap ga mi mt me Γ st=.ok ps st2->Ext H ρ H2 ρ2->Rel H2 ρ2 st2->a∈ρ2.hid->H a=none->H2 a=some (.lst vs)->RepL H2 ρ2 ps vs->Q (.ref a) H2):Q8j cap (WI X tg iter) (aG X N' sc tg) (aT X N' sc ifs) (aE X N' sc elt) σ H Q:=by
 refine hi.run Γ σ H ρ st _ _ R G h.bind fun iw st1 H1 ρ1 J eq x1 R1 G1 ok hl src h1=>?_
 refine Qgh hg he ht hf R1 G1 src hl (Qq9 (E':=E0) h1) fun ys st2 H2 ρ2 acc vs eq2 x2 R2 hm hn ha ry=>?_
 refine k ys st2 H2 ρ2 acc vs ?_ (x1.trans x2) R2 hm ?_ ha ry
 ·unfold Z9;rw [eq];show noX _=_;rw [eq2]; rfl
 cases e:H acc with
 | none=>rfl
 | some o=>
  obtain ⟨o',e'⟩:=x1.old acc o e;rw [hn] at e'; cases e'
theorem Qw0 :∀ cl C s0 H0 ex,PG (Wz X N' sc cl C s0 H0 ex) tg (aG X N' sc tg):=fun cl C s0 H0 ex pins s σ H v u Q I r h=>Qn7 pins s σ H v u Q I r (h cl C s0 H0 ex)
theorem Qw6 :∀ cl C s0 H0 ex,PE (Wz X N' sc cl C s0 H0 ex) e (aE X N' sc e):=fun cl C s0 H0 ex pins s σ H Q I h=>h cl C s0 H0 ex pins s I
theorem Qqj :∀ cl C s0 H0 ex,PTs (Wz X N' sc cl C s0 H0 ex) ifs (aT X N' sc ifs):=fun cl C s0 H0 ex pins s σ H Q I h=>by
 obtain ⟨t,a,b⟩:=h cl C s0 H0 ex;exact a pins s σ H Q I b
theorem Qmc (cap:List (Option Nat)) (N':List Str) (hcalm:X.calm=true) (hi:SimI X E tg iter mi) (hg:∀ cl C s0 H0 ex,SimG (Wz X N' sc cl C s0 H0 ex) tg ga) (he:∀ cl C s0 H0 ex,SimE (Wz X N' sc cl C s0 H0 ex) E0 elt me) (ht:∀ cl C s0 H0 ex,SimTs (Wz X N' sc cl C s0 H0 ex) ifs mt)
  (hf:Q3g cap ga) (hN:X.N=N:=by rfl) (hE:X.env.scope=scE:=by rfl) (hc:compOkC N N' sc scE cap=true:=by kernel_rfl) (hs:∀ x,av iter X.env x=pure x:=by intro _; rfl) :
  SimN X E (.ListComp elt [⟨tg,iter,ifs,0⟩] sc pos) (Z9 cap ga mi mt me):=
 ⟨fun Γ σ H ρ st P Q R G h k=>WE.of (Qiy hcalm Qsh Qw0 Qw6 Qqj hN hE hc hs) (Qbg hi hg he ht hf R G h k)⟩
end
inductive SR where
 | nx (Γ:Gam) (st:Q0) | rt (v:PV) (st:Q0) | bk (Γ:Gam) (st:Q0) | ct (Γ:Gam) (st:Q0) | exc (x:Exc) (st:Q0) | stuck
abbrev MS:=Gam->Q0->SR
variable {m1:MS}
def Res.sbind {α:Type} (r:Res α) (f:α->Q0->SR):SR:=match r with
 | .ok a st=>f a st
 | .exc x st=>.exc x st
 | .stuck=>.stuck
def AccS (mg:Str->Option aB) (E:XK) (D:Ends) (H:Hp) (ρ:Tk):SR->Prop
 | .nx Γ st=>∀ σ' H' ρ',Ext H ρ H' ρ'->Rel H' ρ' st->EnvR H' ρ' Γ σ'->D.nx σ' H'
 | .bk Γ st=>∀ σ' H' ρ',Ext H ρ H' ρ'->Rel H' ρ' st->EnvR H' ρ' Γ σ'->D.bk σ' H'
 | .ct Γ st=>∀ σ' H' ρ',Ext H ρ H' ρ'->Rel H' ρ' st->EnvR H' ρ' Γ σ'->D.ct σ' H'
 | .rt p st=>∀ v H' ρ',Ext H ρ H' ρ'->Rel H' ρ' st->Rep H' ρ' p v->D.rt v H'
 | .exc x st=>∀ C dv H' ρ',mg x.cls=some (.ref C)->Ext H ρ H' ρ'->Rel H' ρ' st->XFs H' ρ' x.fs dv->E (.ref C) dv H'
 | .stuck=>False
variable {α:Type} {mg:Str->Option aB} {D:Ends} {H1:Hp} {ρ1:Tk}
theorem AccS.later {r:SR} (h:AccS mg E D H ρ r) (x:Ext H ρ H1 ρ1):AccS mg E D H1 ρ1 r:=by
 cases r with
 | nx Γ st=>exact fun σ' H' ρ' x'=>h σ' H' ρ' (x.trans x')
 | bk Γ st=>exact fun σ' H' ρ' x'=>h σ' H' ρ' (x.trans x')
 | ct Γ st=>exact fun σ' H' ρ' x'=>h σ' H' ρ' (x.trans x')
 | rt p st=>exact fun v H' ρ' x'=>h v H' ρ' (x.trans x')
 | exc y st=>exact fun C dv H' ρ' m x'=>h C dv H' ρ' m (x.trans x')
 | stuck=>exact h
theorem AccS.bind {r:Res α} {f:α->Q0->SR} (h:AccS mg E D H ρ (r.sbind f)):Acc mg E H ρ (fun a st1 H1 ρ1=>AccS mg E D H1 ρ1 (f a st1)) r:=by
 cases r with
 | ok a st=>exact fun H' ρ' x' R'=>AccS.later (show AccS mg E D H ρ (f a st) from h) x'
 | exc e st=>exact h
 | stuck=>exact h
theorem Res.sassoc (r:Res α) (f:α->Q0->Res β) (g:β->Q0->SR):(r.bind f).sbind g=r.sbind fun a st=>(f a st).sbind g:=by cases r <;> rfl
theorem AccS.assoc {r:Res α} {f:α->Q0->Res β} {g:β->Q0->SR} (h:AccS mg E D H ρ ((r.bind f).sbind g)):AccS mg E D H ρ (r.sbind fun a st=>(f a st).sbind g):=by
 rw [<- Res.sassoc]; exact h
structure SimS (X:Cx) (E:XK) (s:aK) (m:MS):Prop where
 run:∀ (Γ:Gam) (σ:St) (H:Hp) (ρ:Tk) (st:Q0) (D:Ends),Rel H ρ st->EnvR H ρ Γ σ->AccS X.mg E D H ρ (m Γ st)->WS X s D σ H
structure SimB (X:Cx) (E:XK) (ss:List aK) (m:MS):Prop where
 run:∀ (Γ:Gam) (σ:St) (H:Hp) (ρ:Tk) (st:Q0) (D:Ends),Rel H ρ st->EnvR H ρ Γ σ->AccS X.mg E D H ρ (m Γ st)->WB X ss D σ H
variable {e:aF} {m:ME}
def Zy:MS:=fun Γ st=>.nx Γ st
def Qe (m1 m2:MS):MS:=fun Γ st=>match m1 Γ st with
 | .nx Γ1 st1=>m2 Γ1 st1
 | r=>r
theorem Qi3:SimB X E [] Zy:=⟨fun Γ σ H ρ st D R G h=>WB.of Qmz (h σ H ρ (Ext.refl _ _) R G)⟩
theorem Q09 {rest:List aK} {m2:MS} (h1:SimS X E s m1) (h2:SimB X E rest m2):SimB X E (s :: rest) (Qe m1 m2):=
 ⟨fun Γ σ H ρ st D R G h=>WB.of (Qak Qvw Q53) (h1.run Γ σ H ρ st _ R G (by
  unfold Qe at h;cases r:m1 Γ st with
  | nx Γ1 st1=>rw [r] at h; exact fun σ' H' ρ' x' R' G'=>h2.run Γ1 σ' H' ρ' st1 D R' G' (AccS.later h x')
  | bk Γ1 st1=>rw [r] at h; exact h
  | ct Γ1 st1=>rw [r] at h; exact h
  | rt p st1=>rw [r] at h; exact h
  | exc x st1=>rw [r] at h; exact h
  | stuck=>rw [r] at h; exact h))⟩
theorem xi (h1:SimS X E s m1):SimB X E [s] m1:=⟨fun Γ σ H ρ st D R G h=>WB.of (Q3z Qvw) (h1.run Γ σ H ρ st D R G h)⟩
theorem Qdh:SimS X E (.Pass pos) Zy:=⟨fun Γ σ H ρ st D R G h=>WS.of Qn1 (h σ H ρ (Ext.refl _ _) R G)⟩
def Yj (m:ME):MS:=fun Γ st=>(m Γ st).sbind fun _ st1=>.nx Γ st1
theorem Q3w (he:SimE X E e m) (hs:swapsWith e none pos.line X.env=pure false:=by rfl):SimS X E (.Expr e pos) (Yj m):=
 ⟨fun Γ σ H ρ st D R G h=>WS.of (Qdq Yr hs) (he.use R G h.bind fun p st1 H1 ρ1 v x1 R1 G1 r1 h1=>h1 σ H1 ρ1 (Ext.refl _ _) R1 G1)⟩
def Za (m:ME):MS:=fun Γ st=>(m Γ st).sbind fun p st1=>.rt p st1
theorem Q8p (he:SimE X E e m):SimS X E (.Return (some e) pos) (Za m):=
 ⟨fun Γ σ H ρ st D R G h=>WS.of (Qik Yr) (he.use R G h.bind fun p st1 H1 ρ1 v x1 R1 G1 r1 h1=>h1 v H1 ρ1 (Ext.refl _ _) R1 r1)⟩
def Jg (i:Nat) (m:ME):MS:=fun Γ st=>(m Γ st).sbind fun p st1=>.nx (Γ.set i (some p)) st1
theorem Qhk (i:Nat) {x:Str} {pos':Pos} (hN:X.N.Nodup) (he:SimE X E e m) (hi:X.N[i]?=some x:=by rfl) (hx:Loc X.env.scope x:=by first | exact Or.inl rfl | exact Or.inr rfl) (hs:swapsWith e (some (.Name x pos')) pos.line X.env=pure false:=by rfl) (hf:X.fn x=true\/X.env.scope.names.lookup x=some .local:=by first | exact .inl rfl | exact .inr rfl) :
  SimS X E (.Assign [.Name x pos'] e pos) (Jg i m):=
 ⟨fun Γ σ H ρ st D R G h=>WS.of (Qij hN hi hx Yr hs hf) (he.use R G h.bind fun p st1 H1 ρ1 v x1 R1 G1 r1 h1=>h1 _ H1 ρ1 (Ext.refl _ _) R1 (G1.set r1 i))⟩
section
variable {tg iter elt:aF} {ifs:List aF} {N N':List Str} {sc scE:Scope} {ga:GA} {mi:MI} {mt:MT} {me:ME}
theorem Qhn (cap:List (Option Nat)) (N':List Str) (i:Nat) {x:Str} {px cpos:Pos} (hnd:X.N.Nodup) (hcalm:X.calm=true) (hi:SimI X E tg iter mi) (hg:∀ cl C s0 H0 ex,SimG (Wz X N' sc cl C s0 H0 ex) tg ga) (he:∀ cl C s0 H0 ex,SimE (Wz X N' sc cl C s0 H0 ex) E0 elt me) (ht:∀ cl C s0 H0 ex,SimTs (Wz X N' sc cl C s0 H0 ex) ifs mt)
  (hf:Q3g cap ga) (hix:X.N[i]?=some x:=by rfl) (hx:Loc X.env.scope x:=by first | exact Or.inl rfl | exact Or.inr rfl) (hsw:swapsWith (.ListComp elt [⟨tg,iter,ifs,0⟩] sc cpos) (some (.Name x px)) pos.line X.env=pure true:=by rfl)
  (hN:X.N=N:=by rfl) (hE:X.env.scope=scE:=by rfl) (hc:compOkC N N' sc scE cap=true:=by kernel_rfl) (hs:∀ x,av iter X.env x=pure x:=by intro _; rfl) (hfn:X.fn x=true\/X.env.scope.names.lookup x=some .local:=by first | exact .inl rfl | exact .inr rfl) :
  SimS X E (.Assign [.Name x px] (.ListComp elt [⟨tg,iter,ifs,0⟩] sc cpos) pos) (Jg i (Ua (Z9 cap ga mi mt me))):=
 ⟨fun Γ σ H ρ st D R G h=>WS.of (Qim hnd hix hx hcalm Qsh Qw0 Qw6 Qqj hsw hN hE hc hs hfn) (Qbg hi hg he ht hf R G (AccS.bind (by unfold Jg Ua at h; exact AccS.assoc h)) fun ps st1 H1 ρ1 a vs eq x R1 hm hn ha r=>by
  obtain ⟨x2,R2,r2⟩:=Qds R x R1 hm hn ha r;simp only [Jg,Ua,eq,Res.bind,Res.sbind] at h;exact h _ _ _ x2 R2 ((G.ext x2).set r2 i))⟩
end
def Qp9 (ga:GA) (m:ME):MS:=fun Γ st=>(m Γ st).sbind fun p st1=>match ga p Γ with
 | some Γ1=>.nx Γ1 st1
 | none=>.stuck
theorem Qri (he:SimE X E e m) (hg:SimG X tg ga) (hs:swapsWithSole [tg] e pos.line X.env=pure false:=by rfl) (hw:swappedStores [tg] e X.env=pure none:=by rfl) (h1:(ao [tg] X.env).map (·.2)=[assign tg X.env]:=by rfl):SimS X E (.Assign [tg] e pos) (Qp9 ga m):=
 ⟨fun Γ σ H ρ st D R G h=>WS.of (Qin Yr Qn7 hs hw h1) (he.use R G h.bind fun p st1 H1 ρ1 v x1 R1 G1 r1 h1=>by
  cases eg:ga p Γ with
  | none=>rw [eg] at h1; exact h1.elim
  | some Γ1=>
   rw [eg] at h1;exact hg.run Γ Γ1 σ H1 ρ1 p v _ G1 r1 eg fun σ' G'=>h1 σ' H1 ρ1 (Ext.refl _ _) R1 G')⟩
def Q1k (st:Q0) (o i p:PV):Option Q0:=match o,i with
 | .ref k,.int j=>match st[k]? with
  | some (.lst xs)=>(ixN xs.length j).map fun n=>st.set k (.lst (xs.set n p))
  | _=>none
 | _,_=>none
def Q98 (mo mi m:ME):MS:=fun Γ st=>(m Γ st).sbind fun p st1=>(mo Γ st1).sbind fun o st2=>(mi Γ st2).sbind fun i st3=>match Q1k st3 o i p with
 | some st4=>.nx Γ st4
 | none=>.stuck
theorem Qmh {st':Q0} {o i:PV} {x y z:V} (R:Rel H ρ st) (ro:Rep H ρ o x) (ri:Rep H ρ i y) (rp:Rep H ρ p z) (e:Q1k st o i p=some st') :
  ∃ a vs k j,x=.ref a/\y=.int k/\H a=some (.lst vs)/\ixN vs.length k=some j/\Ext H ρ (upd H a (.lst (vs.set j z))) ρ/\Rel (upd H a (.lst (vs.set j z))) ρ st':=by
 unfold Q1k at e
 split at e
 ·rename_i k j
  split at e
  ·rename_i xs hs;cases ej:ixN xs.length j with
   | none=>rw [ej] at e; cases e
   | some n=>
    rw [ej] at e;have e:st.set k (.lst (xs.set n p))=st':=Option.some.inj e;subst e;obtain ⟨a,ea,rfl⟩:=ro;cases ri;obtain ⟨b,vs,f1,f2,f3⟩:=R.lst hs;rw [ea] at f1; cases f1;exact ⟨a,vs,j,n,rfl,rfl,f2,by rw [<- f3.length]; exact ej,Ext.put (E4 ea) f2,R.put ea f2 (f3.set rp n)⟩
  ·cases e
 ·cases e
theorem Qrf {o i:aF} {mo mi:ME} {tpos:Pos} (he:SimE X E e m) (ho:SimE X E o mo) (hi:SimE X E i mi)
  (ha:∀ v,assign (.Subscript o i tpos) X.env v=(do
   let ov <- ag [v] (aL o X.env)
   let iv <- ag [v,ov] (aL i X.env)
   standAt tpos
   ag [v,ov,iv] (setItem ov iv v)
   release [v,ov,iv] []):=by intro _; rfl)
  (hs:swapsWithSole [.Subscript o i tpos] e pos.line X.env=pure false:=by rfl) (hw:swappedStores [.Subscript o i tpos] e X.env=pure none:=by rfl) (h1:(ao [.Subscript o i tpos] X.env).map (·.2)=[assign (.Subscript o i tpos) X.env]:=by rfl) :
  SimS X E (.Assign [.Subscript o i tpos] e pos) (Q98 mo mi m):=
 ⟨fun Γ σ H ρ st D R G h=>WS.of (Qin Yr (Qsk Yr Yr Qhs ha) hs hw h1) (he.use R G h.bind fun p st1 H1 ρ1 z x1 R1 G1 r1 h1=>ho.use R1 G1 h1.bind fun ov st2 H2 ρ2 x x2 R2 G2 r2 h2=>hi.use R2 G2 h2.bind fun iv st3 H3 ρ3 y x3 R3 G3 r3 h3=>by
  cases es:Q1k st3 ov iv p with
  | none=>rw [es] at h3; exact h3.elim
  | some st4=>
   rw [es] at h3;obtain ⟨a,vs,k,j,rfl,rfl,f1,f2,x4,R4⟩:=Qmh R3 (r2.ext x3) r3 (r1.ext (x2.trans x3)) es;exact ⟨a,vs,k,j,rfl,rfl,f1,f2,h3 σ _ ρ3 x4 R4 (G3.ext x4)⟩)⟩
def Ym (mt:MT) (ma mb:MS):MS:=fun Γ st=>(mt Γ st).sbind fun b st1=>if b=true then ma Γ st1 else mb Γ st1
theorem Qqf {a b:List aK} {ma mb:MS} (hc:SimT X E c mt) (ha:SimB X E a ma) (hb:SimB X E b mb):SimS X E (.If c a b pos) (Ym mt ma mb):=
 ⟨fun Γ σ H ρ st D R G h=>WS.of (Qvx Qaj Q53 Q53) (hc.use R G h.bind fun k st1 H1 ρ1 x1 R1 G1 h1=>by
  cases k with
  | true=>rw [bM rfl] at h1 ⊢; exact ha.run Γ σ H1 ρ1 st1 D R1 G1 h1
  | false=>rw [bN D8] at h1 ⊢; exact hb.run Γ σ H1 ρ1 st1 D R1 G1 h1)⟩
open Classical in
def z8 (ga:GA) (body:MS) (w:Wt):List PV->Gam->Q0->SR
 | [],Γ,st=>if wOk w st then .nx Γ st else .stuck
 | x :: xs,Γ,st=>if wOk w st then (match ga x Γ with
  | none=>.stuck
  | some Γ1=>match body Γ1 st with
   | .nx Γ2 st2=>z8 ga body w xs Γ2 st2
   | .ct Γ2 st2=>z8 ga body w xs Γ2 st2
   | .bk Γ2 st2=>.nx Γ2 st2
   | .rt v st2=>.rt v st2
   | .exc x st2=>.exc x st2
   | .stuck=>.stuck) else .stuck
def Q1b (ga:GA) (mi:MI) (body:MS):MS:=fun Γ st=>(mi Γ st).sbind fun iw st1=>z8 ga body iw.2 iw.1 Γ st1
theorem Qrg {bd:List aK} {body:MS} (hp:PassesOwn (aJ X.prog X.w) X.A X.env X.xe) (hc:X.calm=true) (hi:SimI X E tg iter mi) (hg:SimG X tg ga) (hb:SimB X E bd body)
  (hs:∀ x,av iter X.env x=pure x:=by intro _; rfl):SimS X E (.For tg iter bd [] pos) (Q1b ga mi body):=
 ⟨fun Γ σ H ρ st D R G h=>WS.of (Qse hp hc Qsh Qn7 Q53 hs) (hi.run Γ σ H ρ st _ _ R G h.bind fun iw st1 H1 ρ1 J eq x1 R1 G1 ok hl src h1=>by
  let W:Nat->Nat->St->Hp->Prop:=fun i m σ' H'=>m=iw.1.length - i/\i<=iw.1.length/\∃ Γ' ρ' st',Ext H1 ρ1 H' ρ'/\Rel H' ρ' st'/\EnvR H' ρ' Γ' σ'/\AccS X.mg E D H' ρ' (z8 ga body iw.2 (iw.1.drop i) Γ' st')
  refine ⟨W,⟨_,rfl,Nat.zero_le _,Γ,ρ1,st1,Ext.refl _ _,R1,G1,by rw [List.drop_zero]; exact h1⟩,?_⟩;rintro i m σ' H' ⟨hm,hi',Γ',ρ',st',x,R',G',hA⟩
  by_cases hlt:i < iw.1.length
  ·right
   have hd:iw.1.drop i=iw.1[i] :: iw.1.drop (i + 1):=List.drop_eq_getElem_cons hlt;rw [hd,z8] at hA
   by_cases hw:wOk iw.2 st'
   ·rw [bM hw] at hA;refine ⟨src.go H' ρ' st' x R' hw i hlt,fun σ2 H2=>W (i + 1) (iw.1.length - (i + 1)) σ2 H2,fun σ2 H2 z=>⟨_,by omega,z⟩,fun y H2 hy=>?_⟩
    obtain ⟨sm,ry⟩:=src.yld H' ρ' st' x R' hw i _ (O3 hlt) y H2 hy;have x2:Ext H' ρ' H2 ρ':=Ext.same sm;cases eg:ga iw.1[i] Γ' with
    | none=>rw [eg] at hA; exact hA.elim
    | some Γ1=>
     rw [eg] at hA;refine hg.run Γ' Γ1 σ' H2 ρ' _ y _ (G'.ext x2) ry eg fun σ3 G3=>?_
     have hA2:=AccS.later hA x2;simp only at hA2;refine hb.run Γ1 σ3 H2 ρ' st' _ (R'.same sm) G3 ?_;have again:∀ {Γ2:Gam} {st2:Q0},AccS X.mg E D H2 ρ' (z8 ga body iw.2 (iw.1.drop (i + 1)) Γ2 st2)->∀ σ' H'' ρ'',Ext H2 ρ' H'' ρ''->Rel H'' ρ'' st2->EnvR H'' ρ'' Γ2 σ'->W (i + 1) (iw.1.length - (i + 1)) σ' H'':=fun {Γ2 st2} a σ4 H4 ρ4 x4 R4 G4=>
      ⟨rfl,hlt,Γ2,ρ4,st2,x.trans (x2.trans x4),R4,G4,AccS.later a x4⟩
     cases rb:body Γ1 st' with
     | nx Γ2 st2=>rw [rb] at hA2; exact again hA2
     | ct Γ2 st2=>rw [rb] at hA2; exact again hA2
     | bk Γ2 st2=>rw [rb] at hA2; exact hA2
     | rt v st2=>rw [rb] at hA2; exact hA2
     | exc y st2=>rw [rb] at hA2; exact hA2
     | stuck=>rw [rb] at hA2; exact hA2.elim
   ·rw [bN hw] at hA; exact hA.elim
  ·left
   have ei:i=iw.1.length:=by omega
   subst ei;rw [List.drop_length,z8] at hA
   by_cases hw:wOk iw.2 st'
   ·rw [bM hw] at hA;exact ⟨src.stop H' ρ' st' x R' hw,hA σ' H' ρ' (Ext.refl _ _) R' G'⟩
   ·rw [bN hw] at hA; exact hA.elim)⟩
def U3 (mt:MT) (body:MS):Nat->Gam->Q0->SR
 | 0,_,_=>.stuck
 | n + 1, Γ, st => (mt Γ st).sbind fun b st1 => if b = true then (match body Γ st1 with
   | .nx Γ2 st2=>U3 mt body n Γ2 st2
   | .ct Γ2 st2=>U3 mt body n Γ2 st2
   | .bk Γ2 st2=>.nx Γ2 st2
   | .rt v st2=>.rt v st2
   | .exc x st2=>.exc x st2
   | .stuck=>.stuck) else .nx Γ st1
theorem Qab (n:Nat) {bd:List aK} {body:MS} (hp:PassesOwn (aJ X.prog X.w) X.A X.env X.xe) (hc:SimT X E c mt) (hb:SimB X E bd body):SimS X E (.While c bd [] pos) (U3 mt body n):=
 ⟨fun Γ σ H ρ st D R G h=>WS.of (Qih hp Qaj Q53) (by
  let W:Nat->St->Hp->Prop:=fun m σ' H'=>∃ Γ' ρ' st',Rel H' ρ' st'/\EnvR H' ρ' Γ' σ'/\AccS X.mg E D H' ρ' (U3 mt body m Γ' st')
  refine ⟨W,⟨n,Γ,ρ,st,R,G,h⟩,?_⟩;rintro m σ' H' ⟨Γ',ρ',st',R',G',hA⟩;cases m with
  | zero=>exact hA.elim
  | succ m=>
   rw [U3] at hA;refine hc.use R' G' hA.bind fun b st1 H1 ρ1 x1 R1 G1 h1=>?_
   cases b with
   | false=>rw [bN D8] at h1 ⊢; exact h1 σ' H1 ρ1 (Ext.refl _ _) R1 G1
   | true=>
    rw [bM rfl] at h1 ⊢;refine ⟨fun σ2 H2=>W m σ2 H2,fun σ2 H2 z=>⟨m,Nat.lt_succ_self _,z⟩,hb.run Γ' σ' H1 ρ1 st1 _ R1 G1 ?_⟩
    have again:∀ {Γ2:Gam} {st2:Q0},AccS X.mg E D H1 ρ1 (U3 mt body m Γ2 st2)->∀ σ' H'' ρ'',Ext H1 ρ1 H'' ρ''->Rel H'' ρ'' st2->EnvR H'' ρ'' Γ2 σ'->W m σ' H'':=fun {Γ2 st2} a σ4 H4 ρ4 x4 R4 G4=>⟨Γ2,ρ4,st2,R4,G4,AccS.later a x4⟩
    cases rb:body Γ' st1 with
    | nx Γ2 st2=>rw [rb] at h1; exact again h1
    | ct Γ2 st2=>rw [rb] at h1; exact again h1
    | bk Γ2 st2=>rw [rb] at h1; exact h1
    | rt v st2=>rw [rb] at h1; exact h1
    | exc y st2=>rw [rb] at h1; exact h1
    | stuck=>rw [rb] at h1; exact h1.elim)⟩
def X0 (x:Str) (m:ME):MS:=fun Γ st=>(m Γ st).sbind fun _ st1=>.exc ⟨x,none⟩ st1
theorem Qhm {x:Str} {C:aA} {np cpos:Pos} (hcalm:X.calm=true) (RO:Q6e X E) (hg:Gl X x) (hm:X.mg x=some (.ref C)) (q:PySem.W.excIn X.K C Vr "ValueError.__new__" = true) (he:SimE X E e m)
  (hdb:(x == ("__debug__" : Str))=false:=by decide) (hst:aM [e] X.env=[(false,aL e X.env)]:=by rfl):SimS X E (.Raise (some (.Call (.Name x np) [e] [] cpos)) none pos) (X0 x m):=
 ⟨fun Γ σ H ρ st D R G h=>WS.of (Qfe hcalm RO hg hm q (Kn Yr Q15 (by rw [hst]; rfl)) hdb hst) (he.use R G h.bind fun p st1 H1 ρ1 v x1 R1 G1 r1 h1=>⟨F1 (show 1<=lim by decide) Qcx,h1 C none H1 ρ1 hm (Ext.refl _ _) R1 rfl⟩)⟩
def WM (X:Cx) (id:String):V->List V->Hp->VK->Prop:=fun x xs H Q=>∀ (pins:List (aA × Obj)) (s:aC) (σ:St) (v:aB) (us:List aB),Inv X pins σ H s->RelV x v->Vals xs us->aI (aJ X.prog X.w) X.A (call (.builtin id) (v :: us)) (EP X pins σ Q) X.xe s
theorem Qzm {id:String}:MtR X id (WM X id):=fun pins s σ _ _ _ v us _ I r rs h=>h pins s σ v us I r rs
theorem WM.of {id:String} {r:V->List V->Hp->VK->Prop} {x:V} {xs:List V} (h:MtR X id r) (q:r x xs H Q):WM X id x xs H Q:=fun pins s σ v us I r1 r2=>h pins s σ H x xs v us Q I r1 r2 q
abbrev MF:=Q0->PV->List PV->Res PV
structure MtS (X:Cx) (E:XK) (id:String) (o:MF):Prop where
 run:∀ (H:Hp) (ρ:Tk) (st:Q0) (p:PV) (ps:List PV) (x:V) (xs:List V) (Q:VK),Rel H ρ st->Rep H ρ p x->RepL H ρ ps xs->Acc X.mg E H ρ (QV Q) (o st p ps)->WM X id x xs H Q
variable {o:aF} {es:List aF} {mo:ME} {mr:Gam->Q0->Res (List PV)} {name:Str} {apos cpos:Pos} {T:String} {f:MF}
section
variable {id:String}
def mBM (f:MF) (mo:ME) (mr:Gam->Q0->Res (List PV)):ME:=fun Γ st=>(mo Γ st).bind fun p st1=>match U7 st1 p with
 | some _=>(mr Γ st1).bind fun ps st2=>f st2 p ps
 | none=>.stuck
theorem Qqg (pa:PlainAttrs "list") (slot:Slot "list" name id) (hty:typeOf (.builtin id)=pure (.type "method_descriptor")) (hm:MtS X E id f) (ho:SimE X E o mo) (ha:SimA X E (e :: es) mr)
  (hbase:ai o name X.env (aL o X.env)=aL o X.env:=by rfl)
  (hfew:((aS cpos (aM (e :: es) X.env)).all (fun x=>!x.1) && (backToKw cpos (keywordEach [] X.env)).all (fun x=>x.1.isSome)
   && decide ((e :: es).length + ([]:List Keyword).length + (if ([]:List Keyword).isEmpty then 0 else 1) < 30))=true:=by rfl)
  (hline:(apos.endLine == cpos.line)=true:=by rfl) (hs:aM (e :: es) X.env=(false,aL e X.env) :: aM es X.env:=by rfl) (hplain:(aS cpos (aM es X.env)).any (·.1)=false:=by rfl) :
  SimE X E (.Call (.Attribute o name apos) (e :: es) [] cpos) (mBM f mo mr):=
 ⟨fun Γ σ H ρ st Q R G h=>WE.of (Qw5 pa slot hty Qzm Yr Q0q hbase hfew hline hs hplain) (ho.use R G h.bind fun p st1 H1 ρ1 v x1 R1 G1 r1 h1=>by
  split at h1
  ·rename_i ys el;obtain ⟨a,vs,rfl,hr,_⟩:=Q25 R1 r1 el;exact ⟨.inl ⟨rfl,vs,.inl hr⟩,ha.use R1 G1 h1.bind fun ps st2 H2 ρ2 us x2 R2 G2 r2 h2=>hm.run H2 ρ2 st2 p ps _ us Q R2 (r1.ext x2) r2 h2⟩
  ·exact h1.elim)⟩
def chg (st:Q0) (p:PV) (g:List PV->Option (PV × List PV)):Res PV:=match p with
 | .ref i=>match st[i]? with
  | some (.lst xs)=>match g xs with
   | some (r,ys)=>.ok r (st.set i (.lst ys))
   | none=>.stuck
  | _=>.stuck
 | _=>.stuck
theorem Qeh {x:V} {g:List PV->Option (PV × List PV)} (R:Rel H ρ st) (rp:Rep H ρ p x) (h:Acc mg E H ρ (QV Q) (chg st p g)) :
  ∃ a xs vs r ys,x=.ref a/\H a=some (.lst vs)/\RepL H ρ xs vs/\g xs=some (r,ys)/\∀ us v,RepL H ρ ys us->Rep H ρ r v->Q v (upd H a (.lst us)):=by
 unfold chg at h
 split at h
 ·rename_i i
  split at h
  ·rename_i xs hs
   split at h
   ·rename_i r ys hg;obtain ⟨a,ea,rfl⟩:=rp;obtain ⟨b,vs,f1,f2,f3⟩:=R.lst hs;rw [ea] at f1; cases f1;refine ⟨a,xs,vs,r,ys,rfl,f2,f3,hg,fun us v ru rv=>?_⟩;have x:=Ext.put (o':=.lst us) (E4 ea) f2;exact h _ ρ x (R.put ea f2 ru) v (rv.ext x)
   ·exact h.elim
  ·exact h.elim
 ·exact h.elim
def Wk:MF:=fun st p ps=>match ps with
 | [y]=>chg st p fun xs=>if xs.length < lim then some (.non,xs ++ [y]) else none
 | _=>.stuck
theorem Qfx:MtS X E "list.append" Wk:=⟨fun H ρ st p ps x xs Q R rp rs h=>by
 unfold Wk at h
 split at h
 ·obtain ⟨v,rfl,r⟩:=Wi rs;obtain ⟨a,ys,vs,r0,zs,rfl,f1,f2,f3,k⟩:=Qeh R rp h
  split at f3
  ·rename_i hl;cases f3;exact WM.of Qfv ⟨a,vs,v,rfl,rfl,f1,by rw [<- f2.length]; exact D1 hl Qcx,k _ _ (f2.append (RepL.cons r RepL.nil)) rfl⟩
  ·cases f3
 ·exact h.elim⟩
def Wj:MF:=fun st p ps=>match ps with
 | [q]=>match yz st q with
  | some ys=>chg st p fun xs=>if xs.length + ys.length<=lim then some (.non,xs ++ ys) else none
  | none=>.stuck
 | _=>.stuck
theorem Qfw:MtS X E "list.extend" Wj:=⟨fun H ρ st p ps x xs Q R rp rs h=>by
 unfold Wj at h
 split at h
 ·obtain ⟨v,rfl,r⟩:=Wi rs
  split at h
  ·rename_i ws ew;obtain ⟨b,us,rfl,hb,rb⟩:=Q5t R r ew;obtain ⟨a,ys,vs,r0,zs,rfl,f1,f2,f3,k⟩:=Qeh R rp h
   split at f3
   ·rename_i hl;cases f3;exact WM.of Qfu ⟨a,b,vs,us,rfl,rfl,f1,hb,by rw [<- f2.length,<- rb.length]; exact X1 hl,k _ _ (f2.append rb) rfl⟩
   ·cases f3
  ·exact h.elim
 ·exact h.elim⟩
theorem Qf8 (ho:SimE X E o mo) (ha:SimA X E [e] mr) (hbase:ai o "append" X.env (aL o X.env)=aL o X.env:=by rfl)
  (hfew:((aS cpos (aM [e] X.env)).all (fun x=>!x.1) && (backToKw cpos (keywordEach [] X.env)).all (fun x=>x.1.isSome) && decide ([e].length + ([]:List Keyword).length + (if ([]:List Keyword).isEmpty then 0 else 1) < 30))=true:=by rfl)
  (hline:(apos.endLine == cpos.line)=true:=by rfl) (hs:aM [e] X.env=(false,aL e X.env) :: aM [] X.env:=by rfl):SimE X E (.Call (.Attribute o "append" apos) [e] [] cpos) (mBM Wk mo mr):=
 Qqg PySem.F.plainAttrs_list PySem.F.slot_list_append PySem.F.type_list_append Qfx ho ha hbase hfew hline hs
theorem Qf7 (ho:SimE X E o mo) (ha:SimA X E [e] mr) (hbase:ai o "extend" X.env (aL o X.env)=aL o X.env:=by rfl)
  (hfew:((aS cpos (aM [e] X.env)).all (fun x=>!x.1) && (backToKw cpos (keywordEach [] X.env)).all (fun x=>x.1.isSome) && decide ([e].length + ([]:List Keyword).length + (if ([]:List Keyword).isEmpty then 0 else 1) < 30))=true:=by rfl)
  (hline:(apos.endLine == cpos.line)=true:=by rfl) (hs:aM [e] X.env=(false,aL e X.env) :: aM [] X.env:=by rfl):SimE X E (.Call (.Attribute o "extend" apos) [e] [] cpos) (mBM Wj mo mr):=
 Qqg PySem.F.plainAttrs_list PySem.F.slot_list_extend PySem.F.type_list_extend Qfw ho ha hbase hfew hline hs
end
section
mutual
def fz (n:Nat) (st:Q0):Nat->PV->Option PV
 | 0,_=>none
 | _ + 1,.non=>some .non
 | _ + 1,.bl b=>some (.bl b)
 | _ + 1,.int i=>some (.int i)
 | _ + 1,.str x=>some (.str x)
 | k + 1,.tup xs=>(fzL n st k xs).map .tup
 | k + 1,.lst xs=>(fzL n st k xs).map .lst
 | k + 1,.fro xs=>(fzL n st k xs).map .fro
 | _ + 1,.dic=>some .dic
 | k + 1,.ref i=>if i < n then some (.ref i) else match st[i]? with
  | some (.lst xs)=>(fzL n st k xs).map .lst
  | _=>none
def fzL (n:Nat) (st:Q0):Nat->List PV->Option (List PV)
 | _,[]=>some []
 | k,x :: xs=>(fz n st k x).bind fun y=>(fzL n st k xs).map (y :: ·)
end
theorem Q29 :∀ {m k:Nat} {p:PV},Z6 m p=true->m < k->fz n st k p=some p:=by
 intro m
 induction m with
 | zero=>
  intro k p g hk;obtain ⟨k,rfl⟩:∃ j,k=j + 1:=⟨k - 1,by omega⟩;cases p with
  | tup _=>cases g
  | lst _=>cases g
  | fro _=>cases g
  | ref _=>cases g
  | dic=>cases g
  | _=>rw [fz]
 | succ m ih=>
  intro k p g hk;obtain ⟨k,rfl⟩:∃ j,k=j + 1:=⟨k - 1,by omega⟩;have hL:∀ xs:List PV,xs.all (Z6 m)=true->fzL n st k xs=some xs:=by
   intro xs
   induction xs with
   | nil=>intro _; rw [fzL]
   | cons x xs ihx=>
    intro g;rw [List.all_cons,F6] at g;rw [fzL,ih g.1 (by omega),ihx g.2]; rfl
  cases p with
  | tup xs=>rw [fz,hL xs g]; rfl
  | lst xs=>rw [fz,hL xs g]; rfl
  | fro xs=>rw [fz,hL xs g]; rfl
  | ref _=>cases g
  | dic=>cases g
  | _=>rw [fz]
section
variable {H:Hp} {ρ:Tk} {st:Q0} {tr0 rest hs:List aA}
theorem Qjx (R:Rel H ρ st) (ht:ρ.tr=tr0 ++ rest) (hh:∀ a,a∈hs->a∈ρ.hid):∀ (k:Nat) {p p':PV} {v:V},Rep H ρ p v->fz tr0.length st k p=some p'->Rep H ⟨tr0,hs⟩ p' v:=by
 have out:∀ a,a∉ρ->a∉(⟨tr0,hs⟩:Tk):=fun a n z=>by
  rcases z with z | z
  ·exact n (.inl (by rw [ht]; exact G7 _ z))
  ·exact n (.inr (hh a z))
 intro k
 induction k with
 | zero=>intro p p' v r e; rw [fz] at e; cases e
 | succ k ih=>
  have hL:∀ {ps ps':List PV} {vs:List V},RepL H ρ ps vs->fzL tr0.length st k ps=some ps'->RepL H ⟨tr0,hs⟩ ps' vs:=by
   intro ps
   induction ps with
   | nil=>intro ps' vs r e; rw [fzL] at e; cases e; exact r
   | cons x xs ihx=>
    intro ps' vs r e;obtain ⟨v,t,rfl,r1,r2⟩:=r;rw [fzL] at e;cases e1:fz tr0.length st k x with
    | none=>rw [e1] at e; cases e
    | some y=>
     rw [e1] at e;have e:(fzL tr0.length st k xs).map (y :: ·)=some ps':=e;cases e2:fzL tr0.length st k xs with
     | none=>rw [e2] at e; cases e
     | some ys=>
      rw [e2] at e;cases e;exact ⟨v,t,rfl,ih r1 e1,ihx r2 e2⟩
  intro p p' v r e;cases p with
  | non=>rw [fz] at e; cases e; exact r
  | bl b=>rw [fz] at e; cases e; exact r
  | int i=>rw [fz] at e; cases e; exact r
  | str x=>rw [fz] at e; cases e; exact r
  | tup xs=>
   rw [fz] at e;obtain ⟨a,vs,e1,ha,na,ra⟩:=r;cases e2:fzL tr0.length st k xs with
   | none=>rw [e2] at e; cases e
   | some ys=>rw [e2] at e; cases e; exact ⟨a,vs,e1,ha,out a na,hL ra e2⟩
  | lst xs=>
   rw [fz] at e;obtain ⟨a,vs,e1,ha,na,ra⟩:=r;cases e2:fzL tr0.length st k xs with
   | none=>rw [e2] at e; cases e
   | some ys=>rw [e2] at e; cases e; exact ⟨a,vs,e1,ha,out a na,hL ra e2⟩
  | fro xs=>
   rw [fz] at e;obtain ⟨a,vs,e1,ha,na,ra⟩:=r;cases e2:fzL tr0.length st k xs with
   | none=>rw [e2] at e; cases e
   | some ys=>rw [e2] at e; cases e; exact ⟨a,vs,e1,ha,out a na,hL ra e2⟩
  | dic=>
   rw [fz] at e;cases e;obtain ⟨a,e1,ha,na⟩:=r;exact ⟨a,e1,ha,out a na⟩
  | ref i=>
   rw [fz] at e;obtain ⟨a,ea,rfl⟩:=r
   by_cases hi:i < tr0.length
   ·rw [bM hi] at e;cases e;rw [ht,O9 hi] at ea;exact ⟨a,ea,rfl⟩
   ·rw [bN hi] at e
    split at e
    ·rename_i xs hs';obtain ⟨b,vs,f1,f2,f3⟩:=R.lst hs';rw [ea] at f1; cases f1;cases e2:fzL tr0.length st k xs with
     | none=>rw [e2] at e; cases e
     | some ys=>
      rw [e2] at e; cases e;refine ⟨a,vs,rfl,f2,fun z=>?_,hL f3 e2⟩;rcases z with z | z
      ·have z:a∈tr0:=z;obtain ⟨j,hj,ej⟩:=List.getElem_of_mem z;have g1:ρ.tr[j]?=some a:=by rw [ht,O9 hj,O3 hj,ej]
       have l1:=O1.mp g1;have l2:=O1.mp ea;have:=Q7n R.nd l1.1 l2.1 (l1.2.trans l2.2.symm);omega
      ·exact R.ap a (hh a z) (E4 ea)
    ·cases e
mutual
def bel (n:Nat):PV->Prop
 | .tup xs=>belL n xs
 | .lst xs=>belL n xs
 | .fro xs=>belL n xs
 | .ref i=>i < n
 | _=>True
def belL (n:Nat):List PV->Prop
 | []=>True
 | x :: xs=>bel n x/\belL n xs
end
mutual
theorem Rep.bel:∀ {p:PV} {v:V},Rep H ρ p v->bel ρ.tr.length p
 | .non,_,_=>by simp [Sm.bel]
 | .bl _,_,_=>by simp [Sm.bel]
 | .int _,_,_=>by simp [Sm.bel]
 | .str _,_,_=>by simp [Sm.bel]
 | .tup ps,_,⟨_,_,_,_,_,r⟩=>by rw [Sm.bel]; exact RepL.bel r
 | .lst ps,_,⟨_,_,_,_,_,r⟩=>by rw [Sm.bel]; exact RepL.bel r
 | .fro ps,_,⟨_,_,_,_,_,r⟩=>by rw [Sm.bel]; exact RepL.bel r
 | .ref i,_,⟨_,e,_⟩=>by rw [Sm.bel]; exact (O1.mp e).1
 | .dic,_,_=>by simp [Sm.bel]
theorem RepL.bel:∀ {ps:List PV} {vs:List V},RepL H ρ ps vs->belL ρ.tr.length ps
 | [],_,_=>by simp [belL]
 | p :: ps,_,⟨_,_,_,r1,r2⟩=>by rw [belL]; exact ⟨Rep.bel r1,RepL.bel r2⟩
end
mutual
theorem Rep.less (ht:ρ.tr=tr0 ++ rest) (hh:∀ a,a∈hs->a∈ρ.hid):∀ {p:PV} {v:V},Sm.bel tr0.length p->Rep H ρ p v->Rep H ⟨tr0,hs⟩ p v
 | .non,_,_,r=>r
 | .bl _,_,_,r=>r
 | .int _,_,_,r=>r
 | .str _,_,_,r=>r
 | .tup ps,_,b,⟨a,vs,e,ha,na,r⟩=>⟨a,vs,e,ha,fun z=>na (z.imp (fun z=>by rw [ht]; exact G7 _ z) (hh a)),RepL.less ht hh (by rw [Sm.bel] at b; exact b) r⟩
 | .lst ps,_,b,⟨a,vs,e,ha,na,r⟩=>⟨a,vs,e,ha,fun z=>na (z.imp (fun z=>by rw [ht]; exact G7 _ z) (hh a)),RepL.less ht hh (by rw [Sm.bel] at b; exact b) r⟩
 | .fro ps,_,b,⟨a,vs,e,ha,na,r⟩=>⟨a,vs,e,ha,fun z=>na (z.imp (fun z=>by rw [ht]; exact G7 _ z) (hh a)),RepL.less ht hh (by rw [Sm.bel] at b; exact b) r⟩
 | .ref i,_,b,⟨a,e,e2⟩=>⟨a,by rw [Sm.bel] at b; rw [ht,O9 b] at e; exact e,e2⟩
 | .dic,_,_,⟨a,e,ha,na⟩=>⟨a,e,ha,fun z=>na (z.imp (fun z=>by rw [ht]; exact G7 _ z) (hh a))⟩
theorem RepL.less (ht:ρ.tr=tr0 ++ rest) (hh:∀ a,a∈hs->a∈ρ.hid):∀ {ps:List PV} {vs:List V},belL tr0.length ps->RepL H ρ ps vs->RepL H ⟨tr0,hs⟩ ps vs
 | [],_,_,r=>r
 | p :: ps,_,b,⟨v,t,e,r1,r2⟩=>by
  rw [belL] at b;exact ⟨v,t,e,Rep.less ht hh b.1 r1,RepL.less ht hh b.2 r2⟩
end
end
theorem Qah {H':Hp} {ρ':Tk} {st':Q0} (R:Rel H ρ st) (x:Ext H ρ H' ρ') (R':Rel H' ρ' st') (hp:st <+: st'):Ext H ρ H' ρ/\Rel H' ρ st:=by
 obtain ⟨rest,ht⟩:=x.pre;obtain ⟨more,hm⟩:=hp;refine ⟨⟨List.prefix_refl _,fun _ h=>h,fun _ h=>.inl h,x.keep,fun _ h=>.inl h,x.old,x.frz⟩,R.len,R.nd,fun a ha=>let ⟨o,e,n⟩:=R.hd a ha; ⟨o,x.keep a o e (R.ap a ha),n⟩,R.ap,fun i a c h1 h2=>?_⟩
 have hi:i < st.length:=(O1.mp h2).1;have q:=R'.cell i a c (by rw [<- ht,O9 (O1.mp h1).1]; exact h1) (by rw [<- hm,O9 hi]; exact h2);have q0:=R.cell i a c h1 h2;cases c with
 | lst ps=>
  obtain ⟨vs,e1,e2⟩:=q;obtain ⟨us,_,f2⟩:=q0;exact ⟨vs,e1,RepL.less (ρ:=ρ') (tr0:=ρ.tr) (hs:=ρ.hid) ht.symm x.hidM f2.bel e2⟩
 | dic ps=>
  obtain ⟨vs,e1,e2⟩:=q;obtain ⟨us,_,f2⟩:=q0;exact ⟨vs,e1,e2.1,RepL.less (ρ:=ρ') (tr0:=ρ.tr) (hs:=ρ.hid) ht.symm x.hidM f2.2.bel e2.2⟩
 | dtp ps=>
  obtain ⟨vs,e1,e2⟩:=q;obtain ⟨us,_,f2⟩:=q0;exact ⟨vs,e1,e2.1,RepL.less (ρ:=ρ') (tr0:=ρ.tr) (hs:=ρ.hid) ht.symm x.hidM f2.2.bel e2.2⟩
 | frd ps=>
  obtain ⟨vs,e1,e2⟩:=q;obtain ⟨us,_,f2⟩:=q0;exact ⟨vs,e1,e2.1,RepL.less (ρ:=ρ') (tr0:=ρ.tr) (hs:=ρ.hid) ht.symm x.hidM f2.2.bel e2.2⟩
 | obj C ps=>
  obtain ⟨vs,e1,e2⟩:=q;obtain ⟨us,_,f2⟩:=q0;exact ⟨vs,e1,e2.1,RepL.less (ρ:=ρ') (tr0:=ρ.tr) (hs:=ρ.hid) ht.symm x.hidM f2.2.bel e2.2⟩
abbrev FN:=List PV->Q0->Res PV
variable {FF:FN}
open Classical in
def fin (st:Q0) (v:PV) (st':Q0):Res PV:=if st <+: st' then okO st (fz st.length st' 16 v) else .ok v st'
open Classical in
def Qgf (st:Q0) (x:Exc) (st':Q0):Res PV:=if st <+: st' then (match x.fs with
 | none=>.exc x st
 | some (n,p)=>match fz st.length st' 16 p with
  | some q=>.exc ⟨x.cls,some (n,q)⟩ st
  | none=>.stuck) else .exc x st'
def Qd (body:MS) (nl:Nat):FN:=fun ps st=>match body (ps.map some ++ List.replicate (nl - ps.length) none) st with
 | .rt v st'=>fin st v st'
 | .nx _ st'=>fin st .non st'
 | .exc x st'=>Qgf st x st'
 | _=>.stuck
theorem Qec {st':Q0} (R:Rel H ρ st) (h:Acc mg E H ρ (QV Q) (fin st p st')):∀ v H' ρ',Ext H ρ H' ρ'->Rel H' ρ' st'->Rep H' ρ' p v->Q v H':=fun v H' ρ' x R' r=>by
 unfold fin at h
 by_cases hp:st <+: st'
 ·rw [bM hp] at h;cases e:fz st.length st' 16 p with
  | none=>rw [e] at h; exact h.elim
  | some q=>
   rw [e] at h;obtain ⟨x2,R2⟩:=Qah R x R' hp;obtain ⟨rest,ht⟩:=x.pre;rw [<- R.len] at e;exact h H' ρ x2 R2 v (Qjx (tr0:=ρ.tr) (hs:=ρ.hid) R' ht.symm x.hidM 16 r e)
 ·rw [bN hp] at h;exact h H' ρ' x R' v r
def spF (mg:Str->Option aB) (n:Nat) (F:FN):Sp:=fun vs H Q E=>vs.length=n/\∃ ρ st ps,Rel H ρ st/\RepL H ρ ps vs/\Acc mg E H ρ (QV Q) (F ps st)
theorem Q7a (r:RepL H ρ ps vs):EnvR H ρ (ps.map some ++ List.replicate (N.length - ps.length) none) (L2.start N vs):=by
 have hl:=r.length;unfold L2.start;refine ⟨by simp [hl],fun i p e=>?_⟩
 by_cases hi:i < ps.length
 ·rw [O9 (by simpa using hi),E3] at e;rw [O9 (by simp; omega),E3];cases q:ps[i]? with
  | none=>rw [q] at e; cases e
  | some p'=>
   rw [q] at e;cases e;obtain ⟨v,e1,e2⟩:=r.get q;exact ⟨v,by rw [e1]; rfl,e2⟩
 ·rw [E2 (by simpa using hi),F8] at e
  split at e <;> cases e
section
variable {P:aP} {w:aN} {K:PySem.W.Frag} {mg:Str->Option aB} {base:Heap}
theorem Qty {x qual:Str} {st:aK} {f:aA} {ps:List Str} {k:Nat} {m:MS} (F:Fun K x qual st f fd) (S:FnScope N ps (Q5 st))
  (hb:∀ (cdv:aB) (A:aQ) (outer:List PySem.Env) (s:aC) (H:Hp) (E:XK),Room k (A.deeper (PyProof.Rows.envOfC qual (Q5 st) s.heap.objs.size f cdv))->SimB (cxD P w K mg base N qual (Q5 st) f cdv A outer s H E) E (Y2 st) m) :
  FnOk P w K mg base (CXD P w) (k + 1) f fd ps (spF mg ps.length (Qd m N.length)):=by
 refine Fun.okD F S (fun vs H Q E h=>h.1) fun cdv A outer s H vs Q E hr hsp=>⟨_,Q53,?_⟩
 obtain ⟨hl,ρ,st0,pvs,R,rl,hA⟩:=hsp;refine (hb cdv A outer s H E hr).run _ (L2.start N vs) H ρ st0 _ R (Q7a rl) ?_;unfold Qd at hA;cases rr:m (pvs.map some ++ List.replicate (N.length - pvs.length) none) st0 with
 | rt v st1=>rw [rr] at hA; exact Qec R hA
 | nx Γ st1=>rw [rr] at hA; exact fun σ' H' ρ' x' R' G'=>Qec R hA .non H' ρ' x' R' rfl
 | bk Γ st1=>rw [rr] at hA; exact hA.elim
 | ct Γ st1=>rw [rr] at hA; exact hA.elim
 | stuck=>rw [rr] at hA; exact hA.elim
 | exc y st1=>
  rw [rr] at hA;have hA:Acc mg E H ρ (QV Q) (Qgf st0 y st1):=hA;intro C dv H' ρ' hm x' R' hf;unfold Qgf at hA
  by_cases hp:st0 <+: st1
  ·rw [bM hp] at hA;obtain ⟨x2,R2⟩:=Qah R x' R' hp;obtain ⟨cls,fs⟩:=y;cases fs with
   | none=>exact hA C dv H' ρ hm x2 R2 hf
   | some np=>
    obtain ⟨nm,p⟩:=np;simp only at hA;cases e:fz st0.length st1 16 p with
    | none=>rw [e] at hA; exact hA.elim
    | some q=>
     rw [e] at hA;obtain ⟨rest,ht⟩:=x'.pre;rw [<- R.len] at e;obtain ⟨dx,v,e1,e2,e3,e4⟩:=hf;refine hA C dv H' ρ hm x2 R2 ⟨dx,v,e1,e2,fun z=>e3 (z.imp (fun z=>by rw [<- ht]; exact G7 _ z) (x'.hidM dx)),Qjx (tr0:=ρ.tr) (hs:=ρ.hid) R' ht.symm x'.hidM 16 e4 e⟩
  ·rw [bN hp] at hA;exact hA C dv H' ρ' hm x' R' hf
end
theorem Q44 {P:aP} {w:aN} {mg:Str->Option aB} {base:Heap} {x qual:Str} {st:aK} {f:aA} {ps:List Str} {k nl:Nat} {m:MS} (F:Fun K x qual st f fd) (S:FnScope N ps (Q5 st)) (hn:ps.length=n) (hnl:N.length=nl) (hF:FF=Qd m nl)
  (hb:∀ (cdv:aB) (A:aQ) (outer:List PySem.Env) (s:aC) (H:Hp) (E:XK),Room k (A.deeper (PyProof.Rows.envOfC qual (Q5 st) s.heap.objs.size f cdv))->SimB (cxD P w K mg base N qual (Q5 st) f cdv A outer s H E) E (Y2 st) m) :
  FnOk P w K mg base (CXD P w) (k + 1) f fd ps (spF mg n FF):=by
 subst hn; subst hnl; subst hF;exact Qty F S hb
structure DefS (P:aP) (w:aN) (K:PySem.W.Frag) (mg:Str->Option aB) (base:Heap) (k:Nat) (x:Str) (n:Nat) (F:FN):Prop where
 ex:∃ (f:aA) (fd:aO) (ps:List Str),FnOk P w K mg base (CXD P w) k f fd ps (spF mg n F)/\mg x=some (.ref f)/\PySem.W.keepIn K (.ref f)=true/\Binds K fd ps []/\ps.length=n
def Qb (n:Nat) (F:FN) (mr:Gam->Q0->Res (List PV)):ME:=fun Γ st=>(mr Γ st).bind fun ps st1=>if ps.length=n then F ps st1 else .stuck
section
variable {X:Cx} {E:XK} {k n:Nat} {x:Str} {F:FN} {p pos:Pos} {e:aF} {es:List aF} {mr:Gam->Q0->Res (List PV)}
theorem Q1m (D:DefS X.prog X.w X.K X.mg X.base k x n F) (hr:Room k X.A) (hx:Xr (CXD X.prog X.w) X E) (hg:Gl X x) (ha:SimA X E (e :: es) mr) (hdb:(x == ("__debug__" : Str))=false:=by decide)
  (he:aM (e :: es) X.env=(false,aL e X.env) :: aM es X.env:=by rfl) (hpl:(aS pos (aM es X.env)).any (·.1)=false:=by rfl):SimE X E (.Call (.Name x p) (e :: es) [] pos) (Qb n F mr):=by
 obtain ⟨f,fd,ps,hF,hm,hk,hb,hl⟩:=D.ex;exact ⟨fun Γ σ H ρ st Q R G h=>WE.of (Qne hF hr hg hm hk hb .nil hx Q0q hdb he hpl) (ha.use R G h.bind fun qs st1 H1 ρ1 vs x1 R1 G1 r1 h1=>by
  by_cases hq:qs.length=n
  ·rw [bM hq] at h1;show spF X.mg n F (vs ++ []) H1 Q E;rw [G9];exact ⟨by rw [<- r1.length]; exact hq,ρ1,st1,qs,R1,r1,h1⟩
  ·rw [bN hq] at h1; exact h1.elim)⟩
end
end
@[simp] theorem J2 (a:α) (st:Q0) (f:α->Q0->Res β):(Res.ok a st).bind f=f a st:=rfl
@[simp] theorem Quc (f:α->Q0->Res β):(Res.stuck:Res α).bind f=.stuck:=rfl
@[simp] theorem Qxt (x:Exc) (st:Q0) (f:α->Q0->Res β):(Res.exc x st:Res α).bind f=.exc x st:=rfl
@[simp] theorem Wh (a:α) (st:Q0) (f:α->Q0->SR):(Res.ok a st).sbind f=f a st:=rfl
@[simp] theorem Qqh (f:α->Q0->SR):(Res.stuck:Res α).sbind f=.stuck:=rfl
@[simp] theorem Quq (x:Exc) (st:Q0) (f:α->Q0->SR):(Res.exc x st:Res α).sbind f=.exc x st:=rfl
@[simp] theorem Qyc (i:Nat) (Γ:Gam) (st:Q0):Q2 i Γ st=(match Γ[i]? with | some (some p)=>.ok p st | _=>.stuck):=rfl
@[simp] theorem J06 (p:PV) (Γ:Gam) (st:Q0):mC p Γ st=.ok p st:=rfl
@[simp] theorem Qtg (o:OP) (a b:ME) (Γ:Gam) (st:Q0):mOp o a b Γ st=(a Γ st).bind fun x st1=>(b Γ st1).bind fun y st2=>o st2 x y:=rfl
@[simp] theorem Qzz (b:Bool) (st:Q0):asB (.bl b) st=.ok b st:=rfl
@[simp] theorem Qr4 (m:ME) (Γ:Gam) (st:Q0):toB m Γ st=(m Γ st).bind asB:=rfl
def Qmj {α:Type} (x:PV) (A B:Res α):Res α:=match x with
 | .bl true=>A
 | .bl false=>B
 | _=>.stuck
@[simp] theorem Qy0 (b:Bool) (A B:Res α):Qmj (.bl b) A B=if b=true then A else B:=by cases b <;> rfl
@[simp] theorem Quv (o o':OP) (a b c:ME) (Γ:Gam) (st:Q0):xz o o' a b c Γ st=(a Γ st).bind fun x st1=>(b Γ st1).bind fun y st2=>(o st2 x y).bind fun k st3=>Qmj k ((c Γ st3).bind fun z st4=>o' st4 y z) (.ok (.bl false) st3):=by
 unfold xz;refine congrArg _ (funext fun x=>funext fun st1=>congrArg _ (funext fun y=>funext fun st2=>congrArg _ (funext fun k=>funext fun st3=>?_)))
 cases k with
 | bl b=>cases b <;> rfl
 | _=>rfl
@[simp] theorem Qyi (a b:ME) (Γ:Gam) (st:Q0):Q72 a b Γ st=(a Γ st).bind fun x st1=>Qmj x (b Γ st1) (.ok (.bl false) st1):=by
 unfold Q72;refine congrArg _ (funext fun x=>funext fun st1=>?_);cases x with
 | bl b=>cases b <;> rfl
 | _=>rfl
@[simp] theorem Qzr (a b:ME) (Γ:Gam) (st:Q0):mOr a b Γ st=(a Γ st).bind fun x st1=>Qmj x (.ok (.bl true) st1) (b Γ st1):=by
 unfold mOr;refine congrArg _ (funext fun x=>funext fun st1=>?_);cases x with
 | bl b=>cases b <;> rfl
 | _=>rfl
@[simp] theorem Qyd (a:ME) (Γ:Gam) (st:Q0):Qth a Γ st=(a Γ st).bind fun x st1=>(match x with | .bl k=>.ok (.bl (!k)) st1 | _=>.stuck):=rfl
@[simp] theorem Qyf (a:ME) (Γ:Gam) (st:Q0):Q9a a Γ st=(a Γ st).bind fun x st1=>(match x with | .int k=>.ok (.int (-k)) st1 | _=>.stuck):=rfl
@[simp] theorem Qa9 (a b:MT) (Γ:Gam) (st:Q0):Q1j a b Γ st=(a Γ st).bind fun k st1=>if k=true then b Γ st1 else .ok false st1:=rfl
@[simp] theorem Qdd (a b:MT) (Γ:Gam) (st:Q0):Q2f a b Γ st=(a Γ st).bind fun k st1=>if k=true then .ok true st1 else b Γ st1:=rfl
@[simp] theorem Qhh (a:MT) (Γ:Gam) (st:Q0):Ur a Γ st=(a Γ st).bind fun k st1=>.ok (!k) st1:=rfl
@[simp] theorem Qye (Γ:Gam) (st:Q0):Q6 Γ st=.ok [] st:=rfl
@[simp] theorem Qjj (m:ME) (mr:ML) (Γ:Gam) (st:Q0):Q1 m mr Γ st=(m Γ st).bind fun p st1=>(mr Γ st1).bind fun ps st2=>.ok (p :: ps) st2:=rfl
@[simp] theorem Qp2 (mr:ML) (Γ:Gam) (st:Q0):Xb mr Γ st=(mr Γ st).bind fun ps st1=>if ps.length<=lim then .ok (.tup ps) st1 else .stuck:=rfl
@[simp] theorem Qyg (mr:ML) (Γ:Gam) (st:Q0):Q9b mr Γ st=(mr Γ st).bind fun ps st1=>if ps.length<=lim then .ok (.lst ps) st1 else .stuck:=rfl
@[simp] theorem Qwv (mr:ML) (Γ:Gam) (st:Q0):yy mr Γ st=(mr Γ st).bind fun ps st1=>if ps.length<=lim then .ok ps st1 else .stuck:=rfl
@[simp] theorem Qte (m:ME) (l h:Gam->Q0->Res (Option Int)) (Γ:Gam) (st:Q0):mSl m l h Γ st=(m Γ st).bind fun p st1=>(l Γ st1).bind fun lo st2=>(h Γ st2).bind fun hi st3=>oSl st3 p lo hi:=rfl
@[simp] theorem Qti (Γ:Gam) (st:Q0):Ud Γ st=.ok none st:=rfl
@[simp] theorem Qwt (m:ME) (Γ:Gam) (st:Q0):Xc m Γ st=(m Γ st).bind fun p st1=>(match p with | .int i=>.ok (some i) st1 | _=>.stuck):=rfl
@[simp] theorem Qjk (o:CF) (mr:ML) (Γ:Gam) (st:Q0):Qq o mr Γ st=(mr Γ st).bind fun ps st1=>o st1 ps:=rfl
@[simp] theorem Qyh (T:String) (m:ME) (Γ:Gam) (st:Q0):Qb4 T m Γ st=(m Γ st).bind fun p st1=>if Q1e st1 p=true then .stuck else .ok (.bl (isI T (dpv st1 p))) st1:=rfl
@[simp] theorem Qxf (st:Q0):Q1e st .non=false:=rfl
@[simp] theorem Qyk (st:Q0) (b:Bool):Q1e st (.bl b)=false:=rfl
@[simp] theorem Qxh (st:Q0) (b:Int):Q1e st (.int b)=false:=rfl
@[simp] theorem Qxd (st:Q0) (b:Str):Q1e st (.str b)=false:=rfl
@[simp] theorem Qxc (st:Q0) (b:List PV):Q1e st (.tup b)=false:=rfl
@[simp] theorem Qxg (st:Q0) (b:List PV):Q1e st (.lst b)=false:=rfl
@[simp] theorem Qxi (st:Q0) (b:List PV):Q1e st (.fro b)=false:=rfl
@[simp] theorem Qxj (st:Q0):Q1e st .dic=false:=rfl
@[simp] theorem Qxe (st:Q0) (i:Nat):Q1e st (.ref i)=(match st[i]? with | some (.frd _)=>true | some (.obj _ _)=>true | _=>false):=rfl
@[simp] theorem Qyr (st:Q0):dpv st .non=.non:=rfl
@[simp] theorem Qzy (st:Q0) (b:Bool):dpv st (.bl b)=(.bl b):=rfl
@[simp] theorem Qyt (st:Q0) (b:Int):dpv st (.int b)=(.int b):=rfl
@[simp] theorem Qyq (st:Q0) (b:Str):dpv st (.str b)=(.str b):=rfl
@[simp] theorem Qyp (st:Q0) (b:List PV):dpv st (.tup b)=(.tup b):=rfl
@[simp] theorem Qys (st:Q0) (b:List PV):dpv st (.lst b)=(.lst b):=rfl
@[simp] theorem Qyu (st:Q0) (b:List PV):dpv st (.fro b)=(.fro b):=rfl
@[simp] theorem Qzx (st:Q0):dpv st .dic=.dic:=rfl
@[simp] theorem J07 (st:Q0) (i:Nat):dpv st (.ref i)=(match st[i]? with | some (.dic _)=>.dic | some (.dtp _)=>.dic | _=>.ref i):=rfl
@[simp] theorem Qp1 (m:ML) (Γ:Gam) (st:Q0):Ua m Γ st=(m Γ st).bind fun ps st1=>.ok (.lst ps) st1:=rfl
@[simp] theorem Qp3 (m:ML) (Γ:Gam) (st:Q0):Q1z m Γ st=(m Γ st).bind fun ps st1=>.ok (.ref st1.length) (st1 ++ [.lst ps]):=rfl
@[simp] theorem Qg1 (cap:List (Option Nat)) (ga:GA) (mi:MI) (mt:MT) (me:ME) (Γ:Gam) (st:Q0):Z9 cap ga mi mt me Γ st=(mi Γ st).bind fun iw st1=>noX (J4 ga mt me iw.2 (J1 cap Γ) iw.1 st1):=rfl
@[simp] theorem Qws (Γ:Gam) (st:Q0):Zd Γ st=.ok true st:=rfl
@[simp] theorem Q7s (n:Nat) (F:FN) (mr:ML) (Γ:Gam) (st:Q0):Qb n F mr Γ st=(mr Γ st).bind fun ps st1=>if ps.length=n then F ps st1 else .stuck:=rfl
@[simp] theorem Qwu (Γ:Gam) (st:Q0):Zy Γ st=.nx Γ st:=rfl
@[simp] theorem Qb2 (a b:MS) (Γ:Gam) (st:Q0):Qe a b Γ st=(match a Γ st with | .nx Γ1 st1=>b Γ1 st1 | r=>r):=rfl
@[simp] theorem Q23 (m:ME) (Γ:Gam) (st:Q0):Yj m Γ st=(m Γ st).sbind fun _ st1=>.nx Γ st1:=rfl
@[simp] theorem Q20 (m:ME) (Γ:Gam) (st:Q0):Za m Γ st=(m Γ st).sbind fun p st1=>.rt p st1:=rfl
@[simp] theorem Qp4 (i:Nat) (m:ME) (Γ:Gam) (st:Q0):Jg i m Γ st=(m Γ st).sbind fun p st1=>.nx (Γ.set i (some p)) st1:=rfl
@[simp] theorem Qe4 (c:MT) (a b:MS) (Γ:Gam) (st:Q0):Ym c a b Γ st=(c Γ st).sbind fun k st1=>if k=true then a Γ st1 else b Γ st1:=rfl
@[simp] theorem Qp6 (ga:GA) (mi:MI) (b:MS) (Γ:Gam) (st:Q0):Q1b ga mi b Γ st=(mi Γ st).sbind fun iw st1=>z8 ga b iw.2 iw.1 Γ st1:=rfl
@[simp] theorem Qp5 (m:ME) (Γ:Gam) (st:Q0):Kc m Γ st=(m Γ st).bind fun p st1=>(match U1 st1 p with | some (xs,w)=>if xs.length<=lim then .ok (xs,w) st1 else .stuck | none=>.stuck):=rfl
@[simp] theorem qk (mr:ML) (Γ:Gam) (st:Q0):Yi mr Γ st=(mr Γ st).bind fun ps st1=>(match ps with | [.int j]=>if -(lim:Int)<=j/\j<=lim then .ok (Zu 0 j.toNat,[]) st1 else .stuck | _=>.stuck):=rfl
@[simp] theorem Qcu (mr:ML) (Γ:Gam) (st:Q0):Q22 mr Γ st=(mr Γ st).bind fun ps st1=>(match ps with | [.int i,.int j]=>if -(lim:Int)<=i/\i<=lim/\-(lim:Int)<=j/\j<=lim then .ok (Zu i (j - i).toNat,[]) st1 else .stuck | _=>.stuck):=rfl
@[simp] theorem Qyb (mr:ML) (Γ:Gam) (st:Q0):Qfz mr Γ st=(mr Γ st).bind fun ps st1=>(match ps with | [p,q]=>(match U1 st1 p,U1 st1 q with | some (xs,w),some (ys,w')=>if xs.length<=lim then .ok (Q4d xs ys,w ++ w') st1 else .stuck | _,_=>.stuck) | _=>.stuck):=rfl
@[simp] theorem Qww (mr:ML) (Γ:Gam) (st:Q0):Q7r mr Γ st=(mr Γ st).bind fun ps st1=>(match ps with | [p]=>(match U1 st1 p with | some (xs,w)=>if xs.length<=lim then .ok (Kj 0 xs,w) st1 else .stuck | none=>.stuck) | _=>.stuck):=rfl
@[simp] theorem Qtk (f:MF) (mo:ME) (mr:ML) (Γ:Gam) (st:Q0):mBM f mo mr Γ st=(mo Γ st).bind fun p st1=>(match U7 st1 p with | some _=>(mr Γ st1).bind fun ps st2=>f st2 p ps | none=>.stuck):=rfl
@[simp] theorem Qp8 (ga:GA) (m:ME) (Γ:Gam) (st:Q0):Qp9 ga m Γ st=(m Γ st).sbind fun p st1=>(match ga p Γ with | some Γ1=>.nx Γ1 st1 | none=>.stuck):=rfl
@[simp] theorem Qg0 (mo mi m:ME) (Γ:Gam) (st:Q0):Q98 mo mi m Γ st=(m Γ st).sbind fun p st1=>(mo Γ st1).sbind fun o st2=>(mi Γ st2).sbind fun i st3=>(match Q1k st3 o i p with | some st4=>.nx Γ st4 | none=>.stuck):=rfl
@[simp] theorem Qut (x:Str) (m:ME) (Γ:Gam) (st:Q0):X0 x m Γ st=(m Γ st).sbind fun _ st1=>.exc ⟨x,none⟩ st1:=rfl
@[simp] theorem Qux (i:Nat) (p:PV) (Γ:Gam):Qc i p Γ=some (Γ.set i (some p)):=rfl
@[simp] theorem Qx9 (Γ:Gam):Xe [] Γ=some Γ:=rfl
@[simp] theorem Quy (g:GA) (gs:GAs) (p:PV) (r:List PV) (Γ:Gam):Zc g gs (p :: r) Γ=(g p Γ).bind (gs r):=rfl
@[simp] theorem Qx8 (gs:GAs) (ps:List PV) (Γ:Gam):Xd gs (.tup ps) Γ=gs ps Γ:=rfl
@[simp] theorem Qzj (a:α) (st:Q0):noX (Res.ok a st)=.ok a st:=rfl
@[simp] theorem Qus :noX (Res.stuck:Res α)=.stuck:=rfl
@[simp] theorem Qav (st:Q0) (a:α):okO st (some a)=.ok a st:=rfl
@[simp] theorem Qwi (st:Q0):okO st (none:Option α)=.stuck:=rfl
@[simp] theorem J05 (g:Int->Int->PV) (st:Q0) (a b:Int):oI g st (.int a) (.int b)=.ok (g a b) st:=rfl
@[simp] theorem Qwq (st:Q0) (a b:Int):Wb st (.int a) (.int b)=.ok (.int (a + b)) st:=rfl
@[simp] theorem Qwp (st:Q0) (a b:List PV):Wb st (.tup a) (.tup b)=if a.length + b.length<=lim then .ok (.tup (a ++ b)) st else .stuck:=rfl
@[simp] theorem Qwk (st:Q0) (a b:Int):Q0u st (.int a) (.int b)=if (-(2 ^ 64) < a/\a < 2 ^ 64)\/(-(2 ^ 64) < b/\b < 2 ^ 64) then .ok (.int (a * b)) st else .stuck:=rfl
@[simp] theorem Qwj (st:Q0) (xs:List PV) (b:Int):Q0u st (.tup xs) (.int b)=if xs≠[]/\1<=b/\xs.length * b.toNat<=4096 then .ok (.tup (List.replicate b.toNat xs).flatten) st else .stuck:=rfl
@[simp] theorem Qwm (st:Q0) (a b:Int):Q5g st (.int a) (.int b)=if 0 < b then .ok (.int (a % b)) st else .stuck:=rfl
@[simp] theorem Qwn (st:Q0) (a b:Int):Qny st (.int a) (.int b)=if 0 < b/\b < 1073741824 then .ok (.int (a / b)) st else .stuck:=rfl
@[simp] theorem Qy5 (st:Q0) (a b:Int):oLt st (.int a) (.int b)=.ok (.bl (decide (a < b))) st:=rfl
@[simp] theorem Qya (st:Q0) (a b:Int):oEq st (.int a) (.int b)=.ok (.bl (a == b)) st:=rfl
@[simp] theorem Qy4 (st:Q0) (a b:Int):oNe st (.int a) (.int b)=.ok (.bl (!(a == b))) st:=rfl
@[simp] theorem Qzi (st:Q0) (a b:Bool):oEq st (.bl a) (.bl b)=.ok (.bl (a == b)) st:=rfl
@[simp] theorem Qzg (st:Q0) (a b:Bool):oNe st (.bl a) (.bl b)=.ok (.bl (!(a == b))) st:=rfl
@[simp] theorem Qy9 (st:Q0) (a b:Str):oEq st (.str a) (.str b)=.ok (.bl (a == b)) st:=rfl
@[simp] theorem Qy3 (st:Q0) (a b:Str):oNe st (.str a) (.str b)=.ok (.bl (!(a == b))) st:=rfl
@[simp] theorem Qy8 (st:Q0) (p:PV):oIs st p .non=.ok (.bl (Q61 p)) st:=rfl
@[simp] theorem Qzh (st:Q0) (a b:Bool):oIs st (.bl a) (.bl b)=.ok (.bl (a == b)) st:=rfl
@[simp] theorem Qt8 (st:Q0) (p:PV):Q2w st p .non=.ok (.bl (!Q61 p)) st:=rfl
@[simp] theorem Qur (st:Q0) (a b:Bool):Q2w st (.bl a) (.bl b)=.ok (.bl (a != b)) st:=rfl
@[simp] theorem Quw (st:Q0) (xs:List PV):yz st (.lst xs)=some xs:=rfl
@[simp] theorem Qtn (st:Q0) (xs:List PV):U7 st (.lst xs)=some xs:=rfl
@[simp] theorem Qtp (st:Q0) (xs:List PV):U7 st (.fro xs)=some xs:=rfl
@[simp] theorem Q7d (st:Q0) (xs:List PV):Kh st (.lst xs)=some xs:=rfl
@[simp] theorem Qup (st:Q0) (xs:List PV):Kh st (.fro xs)=some xs:=rfl
@[simp] theorem Qf4 (st:Q0) (xs:List PV):Kh st (.tup xs)=some xs:=rfl
@[simp] theorem Qum (st:Q0) (xs:List PV):U1 st (.lst xs)=some (xs,[]):=rfl
@[simp] theorem Qun (st:Q0) (xs:List PV):U1 st (.fro xs)=some (xs,[]):=rfl
@[simp] theorem Quk (st:Q0) (xs:List PV):U1 st (.tup xs)=some (xs,[]):=rfl
theorem Q7t {i:Nat} (h:st[i]?=some (.lst xs)):yz st (.ref i)=some xs:=by simp only [yz,h]
theorem Q2g {i:Nat} (h:st[i]?=some (.lst xs)):U1 st (.ref i)=some (xs,[(i,.lst xs)]):=by simp only [U1,h]
@[simp] theorem Qdv (st:Q0) (xs:List PV) (i:Int):oIx st (.tup xs) (.int i)=okO st (atI xs i):=rfl
@[simp] theorem Qy6 (st:Q0) (xs:List PV) (i:Int):oIx st (.lst xs) (.int i)=okO st (atI xs i):=rfl
@[simp] theorem Qy7 (st:Q0) (xs:List PV) (i:Int):oIx st (.fro xs) (.int i)=okO st (atI xs i):=rfl
@[simp] theorem qv (st:Q0) (xs:List PV) (l h:Option Int):oSl st (.tup xs) l h=.ok (.tup (cut xs l h)) st:=rfl
@[simp] theorem Qy1 (st:Q0) (xs:List PV) (l h:Option Int):oSl st (.lst xs) l h=.ok (.lst (cut xs l h)) st:=rfl
@[simp] theorem Qy2 (st:Q0) (xs:List PV) (l h:Option Int):oSl st (.fro xs) l h=.ok (.lst (cut xs l h)) st:=rfl
@[simp] theorem Qxq (st:Q0) (xs:List PV):Y1 st [.tup xs]=.ok (.int xs.length) st:=rfl
@[simp] theorem Qxr (st:Q0) (xs:List PV):Y1 st [.lst xs]=.ok (.int xs.length) st:=rfl
@[simp] theorem Qkd (st:Q0) (xs:List PV):Y1 st [.fro xs]=.ok (.int xs.length) st:=rfl
@[simp] theorem Qua (st:Q0) (xs:List PV):Kf st [.tup xs]=.ok (.tup xs) st:=rfl
@[simp] theorem Qub (st:Q0) (xs:List PV):Kf st [.lst xs]=.ok (.tup xs) st:=rfl
@[simp] theorem Q6a (g:List Bool->PV) (st:Q0) (bs:List Bool):yu g st [.lst (bs.map .bl)]=.ok (g bs) st:=by
 simp only [yu,Q7d,Option.bind_some,Qq3]
@[simp] theorem Qgx (g:List Int->Option PV) (st:Q0) (ns:List Int):U2 g st [.lst (ns.map .int)]=okO st (g ns):=by
 simp only [U2,Q7d,Option.bind_some,Q62]
@[simp] theorem Qgv (g:List Int->Option PV) (st:Q0) (ns:List Int):U2 g st [.tup (ns.map .int)]=okO st (g ns):=by
 simp only [U2,Qf4,Option.bind_some,Q62]
@[simp] theorem Qxp (st:Q0) (a b:Int):Qd7 st [.int a,.int b]=.ok (.int (if b > a then b else a)) st:=rfl
@[simp] theorem Qxn (st:Q0) (a b:Int):Qgu st [.int a,.int b]=.ok (.int (if b < a then b else a)) st:=rfl
@[simp] theorem Qv0 (st:Q0):wOk [] st=True:=by simp [wOk]
@[simp] theorem Qk1 (st:Q0) (b:Bool):fin st (.bl b) st=.ok (.bl b) st:=by simp [fin,fz]
@[simp] theorem Qpv (st:Q0) (b:Int):fin st (.int b) st=.ok (.int b) st:=by simp [fin,fz]
@[simp] theorem Qyn (st:Q0):fin st .non st=.ok .non st:=by simp [fin,fz]
@[simp] theorem Qym (st:Q0) (b:Str):fin st (.str b) st=.ok (.str b) st:=by simp [fin,fz]
theorem Zw {v:PV} (g:Z6 12 v=true):fin st v st=.ok v st:=by
 simp only [fin,List.prefix_rfl,if_true,Q29 g (by decide:12 < 16),Qav]
theorem Qge {more:Q0} {v:PV} (g:Z6 12 v=true):fin st v (st ++ more)=.ok v st:=by
 simp only [fin,List.prefix_append,if_true,Q29 g (by decide:12 < 16),Qav]
theorem Qp:lim=1000000:=rfl
theorem Yh (g f:α->PV) {w:Wt} {Γ0:Gam} (hw:wOk w st) {ys:List α} (h:∀ y∈ys,∃ Γ1,ga (g y) Γ0=some Γ1/\me Γ1 st=.ok (f y) st):J4 ga Zd me w Γ0 (ys.map g) st=.ok (ys.map f) st:=by
 induction ys with
 | nil=>simp [J4,hw]
 | cons y ys ih=>
  obtain ⟨Γ1,h1,h2⟩:=h y D3;have ih:=ih fun z hz=>h z (O6 _ hz)
  rw [G8,J4,bM hw,h1];simp [h2,ih]
theorem Xq (g f:α->PV) (t:α->Bool) {w:Wt} {Γ0:Gam} (hw:wOk w st) {ys:List α} (h:∀ y∈ys,∃ Γ1,ga (g y) Γ0=some Γ1/\mt Γ1 st=.ok (t y) st/\(t y=true->me Γ1 st=.ok (f y) st)):J4 ga mt me w Γ0 (ys.map g) st=.ok ((ys.filter t).map f) st:=by
 induction ys with
 | nil=>simp [J4,hw]
 | cons y ys ih=>
  obtain ⟨Γ1,h1,h2,h3⟩:=h y D3;have ih:=ih fun z hz=>h z (O6 _ hz)
  rw [G8,J4,bM hw,h1];simp only [h2,J2,ih];cases tx:t y with
  | true=>simp [h3 tx,tx,ih]
  | false=>simp [tx]
@[simp] theorem Qxs (g:List Bool->PV) (st:Q0) (ys:List α) (b:α->Bool):yu g st [.lst (ys.map fun y=>.bl (b y))]=.ok (g (ys.map b)) st:=by
 rw [show (ys.map fun y=>PV.bl (b y))=(ys.map b).map .bl by rw [L9]; rfl,Q6a]
@[simp] theorem Qgw (g:List Int->Option PV) (st:Q0) (ys:List α) (b:α->Int):U2 g st [.lst (ys.map fun y=>.int (b y))]=okO st (g (ys.map b)):=by
 rw [show (ys.map fun y=>PV.int (b y))=(ys.map b).map .int by rw [L9]; rfl,Qgx]
theorem qm (g:α->PV) {xs:List α} (I:Nat->Gam->Q0->Prop) {ga:GA} {body:MS} {w:Wt} (hw:∀ i Γ st,I i Γ st->wOk w st)
  (h:∀ (i:Nat) x Γ st,xs[i]?=some x->I i Γ st->∃ Γ1,ga (g x) Γ=some Γ1/\∃ Γ2 st2,body Γ1 st=.nx Γ2 st2/\I (i + 1) Γ2 st2) {Γ:Gam} {st:Q0} (h0:I 0 Γ st):∃ Γ' st',z8 ga body w (xs.map g) Γ st=.nx Γ' st'/\I xs.length Γ' st':=by
 induction xs generalizing I Γ st with
 | nil=>exact ⟨Γ,st,by simp [z8,hw 0 Γ st h0],h0⟩
 | cons x xs ih=>
  obtain ⟨Γ1,h1,Γ2,st2,e2,i2⟩:=h 0 x Γ st rfl h0;obtain ⟨Γ',st',e3,i3⟩:=ih (fun i=>I (i + 1)) (fun i Γ st z=>hw (i + 1) Γ st z) (fun i y Γ st hy z=>h (i + 1) y Γ st (by simpa using hy) z) i2
  refine ⟨Γ',st',?_,i3⟩;rw [G8,z8,bM (hw 0 Γ st h0),h1];simp only [e2];exact e3
theorem Q35 (g:α->PV) {xs:List α} (I:List α->Gam->Q0->Prop) {ga:GA} {body:MS} {w:Wt} (hw:∀ pre Γ st,I pre Γ st->wOk w st)
  (h:∀ pre x post Γ st,xs=pre ++ x :: post->I pre Γ st->∃ Γ1,ga (g x) Γ=some Γ1/\∃ Γ2 st2,body Γ1 st=.nx Γ2 st2/\I (pre ++ [x]) Γ2 st2) {Γ:Gam} {st:Q0} (h0:I [] Γ st):∃ Γ' st',z8 ga body w (xs.map g) Γ st=.nx Γ' st'/\I xs Γ' st':=by
 have key:∀ (post pre:List α) (Γ:Gam) (st:Q0),xs=pre ++ post->I pre Γ st->∃ Γ' st',z8 ga body w (post.map g) Γ st=.nx Γ' st'/\I xs Γ' st':=by
  intro post
  induction post with
  | nil=>intro pre Γ st e i; exact ⟨Γ,st,by simp [z8,hw pre Γ st i],by rw [e,G9]; exact i⟩
  | cons x post ih=>
   intro pre Γ st e i;obtain ⟨Γ1,h1,Γ2,st2,e2,i2⟩:=h pre x post Γ st e i;obtain ⟨Γ',st',e3,i3⟩:=ih (pre ++ [x]) Γ2 st2 (by rw [e]; simp) i2;refine ⟨Γ',st',?_,i3⟩;rw [G8,z8,bM (hw pre Γ st i),h1];simp only [e2];exact e3
 exact key xs [] Γ st rfl h0
theorem Q4b (f:α->PV) (g:β->PV) (xs:List α) (ys:List β):Q4d (xs.map f) (ys.map g)=(xs.zip ys).map fun z=>.tup [f z.1,g z.2]:=by
 rw [Q8f,List.zip_map,L9]; rfl
theorem Q0j {α:Type} (f:α->PV):∀ (n:Nat) (xs:List α),Kj n (xs.map f)=(xs.zipIdx n).map fun z=>.tup [.int (z.2:Nat),f z.1]
 | n,[]=>rfl
 | n,x :: xs=>by rw [G8,Kj,Q0j f (n + 1) xs]; rfl
theorem qa (f:α->PV) (xs:List α) (i:Int):atI (xs.map f) i=(atI xs i).map f:=by
 unfold atI;rw [O2];cases ixN xs.length i with
 | none=>rfl
 | some j=>simp [E3]
theorem atI_get {xs:List α} {i:Nat} {x:α} (h:xs[i]?=some x):atI xs (i:Int)=some x:=by
 have hl:=(O1.mp h).1;unfold atI ixN;rw [bM (by omega),bM (by omega)];simpa using h
theorem Xz (f:α->PV) (xs:List α) (l h:Option Int):cut (xs.map f) l h=(cut xs l h).map f:=by
 unfold cut;rw [O2,<- List.map_drop,<- List.map_take]
theorem V4 (n:Nat):Zu 0 n=(List.range n).map fun (k:Nat)=>PV.int (k:Int):=by
 unfold Zu;refine List.map_congr_left fun k _=>?_
 rw [Int.zero_add]
@[simp] theorem Qyx (st l:List α) (c:α):(st ++ c :: l)[st.length]?=some c:=by
 rw [E2 (O4 _),Nat.sub_self]; rfl
@[simp] theorem Qxy (st l:List α) (c d:α):(st ++ c :: d :: l)[st.length + 1]?=some d:=by
 rw [E2 (by omega)];rw [show st.length + 1 - st.length=1 by omega]; rfl
@[simp] theorem Qyw (st l:List α) (c d:α):(st ++ c :: l).set st.length d=st ++ d :: l:=by
 rw [List.set_append_right _ _ (O4 _),Nat.sub_self]; rfl
@[simp] theorem Qxx (st l:List α) (c c' d:α):(st ++ c :: c' :: l).set (st.length + 1) d=st ++ c :: d :: l:=by
 rw [List.set_append_right _ _ (by omega),show st.length + 1 - st.length=1 by omega]; rfl
@[simp] theorem Qyv (st:Q0) (i:Nat) (g:List PV->Option (PV × List PV)):chg st (.ref i) g=(match st[i]? with | some (.lst xs)=>(match g xs with | some (r,ys)=>.ok r (st.set i (.lst ys)) | none=>.stuck) | _=>.stuck):=rfl
@[simp] theorem Qyj (st:Q0) (i:Nat):yz st (.ref i)=(match st[i]? with | some (.lst xs)=>some xs | _=>none):=rfl
@[simp] theorem Qb5 (st:Q0) (i:Nat):U7 st (.ref i)=(match st[i]? with | some (.lst xs)=>some xs | _=>none):=rfl
@[simp] theorem Q3y (st:Q0) (i:Nat):Kh st (.ref i)=(match st[i]? with | some (.lst xs)=>some xs | _=>none):=rfl
@[simp] theorem Qm9 (st:Q0) (i:Nat):U1 st (.ref i)=(match st[i]? with | some (.lst xs)=>some (xs,[(i,.lst xs)]) | _=>none):=rfl
@[simp] theorem Qqp (st:Q0) (p y:PV):Wk st p [y]=chg st p fun xs=>if xs.length < lim then some (.non,xs ++ [y]) else none:=rfl
@[simp] theorem Qxm (st:Q0) (i:Nat):Kf st [.ref i]=(match st[i]? with | some (.lst xs)=>.ok (.tup xs) st | _=>.stuck):=by
 unfold Kf; simp only [Q3y];cases st[i]? with
 | none=>rfl
 | some c=>cases c <;> rfl
@[simp] theorem Q9u (st:Q0) (i:Nat):Y1 st [.ref i]=(match st[i]? with | some (.lst xs)=>.ok (.int xs.length) st | _=>.stuck):=by
 unfold Y1; simp only [Q3y];cases st[i]? with
 | none=>rfl
 | some c=>cases c <;> rfl
@[simp] theorem Qqn (st:Q0) (i:Nat) (j:Int):oIx st (.ref i) (.int j)=(match st[i]? with | some (.lst xs)=>okO st (atI xs j) | _=>.stuck):=by
 unfold oIx; simp only [Q3y];cases st[i]? with
 | none=>rfl
 | some c=>cases c <;> rfl
@[simp] theorem Qxz (st:Q0) (k:Nat) (j:Int) (p:PV):Q1k st (.ref k) (.int j) p=(match st[k]? with | some (.lst xs)=>(ixN xs.length j).map fun n=>st.set k (.lst (xs.set n p)) | _=>none):=rfl
theorem zc (xs:List α) (k:Nat):cut xs none (some (k:Int))=xs.take k:=by
 unfold cut;rw [HT.sIx_none,HT.sIx_nat,List.drop_zero,Nat.sub_zero];rcases Nat.le_total k xs.length with h | h
 ·rw [Nat.min_eq_left h]
 ·rw [Nat.min_eq_right h,List.take_length,List.take_of_length_le h]
theorem Q04 (xs:List α) (k:Nat):cut xs (some (k:Int)) none=xs.drop k:=by
 unfold cut;rw [HT.sIx_none,HT.sIx_nat];rcases Nat.le_total k xs.length with h | h
 ·rw [Nat.min_eq_left h,List.take_of_length_le (by rw [List.length_drop]; omega)]
 ·rw [Nat.min_eq_right h,List.drop_length,List.drop_of_length_le h]; simp
theorem getD_some {l:List α} {j:Nat} (h:j < l.length) (d:α):l[j]?=some (l.getD j d):=by
 rw [List.getD,O3 h]; rfl
def ListAt (st:Q0) (V:PV) (xs:List PV):Prop:=V=.lst xs\/V=.fro xs\/∃ i,V=.ref i/\st[i]?=some (.lst xs)
theorem ListAt.ix {V:PV} (h:ListAt st V xs) (j:Int):oIx st V (.int j)=okO st (atI xs j):=by
 rcases h with rfl | rfl | ⟨i,rfl,e⟩
 ·rfl
 ·rfl
 ·rw [Qqn,e]
theorem ListAt.len {V:PV} (h:ListAt st V xs):Y1 st [V]=.ok (.int xs.length) st:=by
 rcases h with rfl | rfl | ⟨i,rfl,e⟩
 ·rfl
 ·rfl
 ·rw [Q9u,e]
theorem ListAt.src {V:PV} (h:ListAt st V xs):∃ w,U1 st V=some (xs,w)/\wOk w st:=by
 rcases h with rfl | rfl | ⟨i,rfl,e⟩
 ·exact ⟨[],rfl,by simp⟩
 ·exact ⟨[],rfl,by simp⟩
 ·exact ⟨[(i,.lst xs)],by rw [Qm9,e],by simp [wOk,e]⟩
theorem Qgi (g:α->PV) {xs:List α} (I:Nat->List PV->Q0->Prop) {ga:GA} {me:ME} {w:Wt} {Γ0:Gam} (hw:∀ i out st,I i out st->wOk w st)
  (h:∀ (i:Nat) x out st,xs[i]?=some x->I i out st->∃ Γ1,ga (g x) Γ0=some Γ1/\∃ v st2,me Γ1 st=.ok v st2/\I (i + 1) (out ++ [v]) st2) {st:Q0} (h0:I 0 [] st):∃ out st',J4 ga Zd me w Γ0 (xs.map g) st=.ok out st'/\I xs.length out st':=by
 have key:∀ (ys:List α) (k:Nat) (pre:List PV) (st:Q0),(∀ i,ys[i]?=xs[k + i]?)->k + ys.length=xs.length->I k pre st->∃ out st',J4 ga Zd me w Γ0 (ys.map g) st=.ok out st'/\I xs.length (pre ++ out) st':=by
  intro ys
  induction ys with
  | nil=>
   intro k pre st e e2 i;refine ⟨[],st,by simp [J4,hw k pre st i],?_⟩;rw [G9,<- e2]; exact i
  | cons y ys ih=>
   intro k pre st e e2 i;have e0:xs[k]?=some y:=by have:=e 0; simpa using this.symm
   obtain ⟨Γ1,h1,v,st2,h2,i2⟩:=h k y pre st e0 i;obtain ⟨out,st',h3,i3⟩:=ih (k + 1) (pre ++ [v]) st2 (fun i=>by
    have:=e (i + 1);rw [List.getElem?_cons_succ] at this;rw [this]; congr 1; omega) (by rw [<- e2,D2]; omega) i2
   refine ⟨v :: out,st',?_,by simpa using i3⟩;rw [G8,J4,bM (hw k pre st i),h1];simp [Zd,h2,h3]
 obtain ⟨out,st',h1,h2⟩:=key xs 0 [] st (fun i=>by simp) (by simp) h0;exact ⟨out,st',h1,by simpa using h2⟩
theorem Q0d:∀ {xs:List PV},(∀ x∈xs,peq x x=true)->peqL xs xs=true
 | [],_=>rfl
 | x :: xs,h=>by
  rw [peqL,h x D3,Q0d fun y hy=>h y (O6 _ hy)]; rfl
theorem Q1r:∀ {n:Nat} {p:PV},Z6 n p=true->peq p p=true
 | n,.non,_=>rfl
 | n,.bl b,_=>by simp [peq]
 | n,.int b,_=>by simp [peq]
 | n,.str b,_=>by simp [peq]
 | n,.ref _,g=>by cases n <;> simp [Z6] at g
 | n,.dic,g=>by cases n <;> simp [Z6] at g
 | 0,.tup _,g=>by simp [Z6] at g
 | 0,.lst _,g=>by simp [Z6] at g
 | 0,.fro _,g=>by simp [Z6] at g
 | n + 1,.tup xs,g=>by
  rw [peq]; refine Q0d fun x hx=>Q1r (n:=n) ?_
  simp [Z6] at g; exact g x hx
 | n + 1,.lst xs,g=>by
  rw [peq]; refine Q0d fun x hx=>Q1r (n:=n) ?_
  simp [Z6] at g; exact g x hx
 | n + 1,.fro xs,g=>by
  rw [peq]; refine Q0d fun x hx=>Q1r (n:=n) ?_
  simp [Z6] at g; exact g x hx
variable {a b:aF} {ma mb:ME}
theorem Qkh:aW "set" = some (.type "set"):=by decide +kernel
def Q9c (ma:ME):ME:=fun Γ st=>(ma Γ st).bind fun p st1=>match (U7 st1 p).bind Xm with
 | some ns=>if ns.length<=4000 then .ok (.int (Q97 ns).length) st1 else .stuck
 | none=>.stuck
theorem Qnz (ns:List Int):(Q97 ns).length<=ns.length:=PyProof.Rows.firstMet_length_le _ _
theorem Qf6 {p p' pos':Pos} (ha:SimE X E a ma) (hc:X.calm=true) (hg:Gl X "len") (hm:X.mg "len" = none) (hg':Gl X "set") (hm':X.mg "set" = none) (hb:aW "set" = some (.type "set")) (he:aM [a] X.env=(false,aL a X.env) :: aM [] X.env:=by rfl)
  (he2:aM [.Call (.Name "set" p') [a] [] pos'] X.env=(false,aL (.Call (.Name "set" p') [a] [] pos') X.env) :: aM [] X.env:=by rfl):SimE X E (.Call (.Name "len" p) [.Call (.Name "set" p') [a] [] pos'] [] pos) (Q9c ma):=
 ⟨fun Γ σ H ρ st Q R G hq=>WE.of (Q57 Qbj hg hm PySem.boot_len (Kn (Q7i (Qgn hc) hg' hm' hb (Kn Yr Q15 he) (by decide) (by decide) he rfl) Q15 he2) (by decide) (by decide) he2 rfl) (ha.use' R G hq.bind fun q st1 H1 ρ1 v e1 x1 R1 G1 r1 h1=>by
  split at h1
  ·rename_i ns f
   split at h1
   ·rename_i hl;cases f1:U7 st1 q with
    | none=>rw [f1] at f; cases f
    | some xs=>
     rw [f1] at f;obtain ⟨c,vs,rfl,hcl,rc⟩:=Q25 R1 r1 f1;rw [Q26 f] at rc;rw [rc.toInts] at hcl;refine ⟨c,ns,rfl,.inl hcl,hl,fun l S hn=>⟨l,S,_,rfl,Qz,F1 (Qnz ns) hl,?_⟩⟩
     exact h1 _ _ (Ext.hide hn) (R1.hide hn) _ rfl
   ·exact h1.elim
  ·exact h1.elim)⟩
@[simp] theorem Qtj (ma:ME) (Γ:Gam) (st:Q0):Q9c ma Γ st=(ma Γ st).bind fun p st1=>match (U7 st1 p).bind Xm with
 | some ns=>if ns.length<=4000 then .ok (.int (Q97 ns).length) st1 else .stuck
 | none=>.stuck:=rfl
def Zz (body:MS) (nl:Nat):FN:=fun ps st=>match body (ps.map some ++ List.replicate (nl - ps.length) none) st with
 | .rt v st'=>.ok v st'
 | .nx _ st'=>.ok .non st'
 | .exc x st'=>.exc x st'
 | _=>.stuck
variable {P:aP} {K:PySem.W.Frag} {base:Heap}
section
variable {w:aN}
theorem Qpu {x qual:Str} {st:aK} {f:aA} {ps:List Str} {k:Nat} {m:MS} (F:Fun K x qual st f fd) (S:FnScope N ps (Q5 st))
  (hb:∀ (cdv:aB) (A:aQ) (outer:List PySem.Env) (s:aC) (H:Hp) (E:XK),Room k (A.deeper (PyProof.Rows.envOfC qual (Q5 st) s.heap.objs.size f cdv))->SimB (cxD P w K mg base N qual (Q5 st) f cdv A outer s H E) E (Y2 st) m) :
  FnOk P w K mg base (CXD P w) (k + 1) f fd ps (spF mg ps.length (Zz m N.length)):=by
 refine Fun.okD F S (fun vs H Q E h=>h.1) fun cdv A outer s H vs Q E hr hsp=>⟨_,Q53,?_⟩
 obtain ⟨hl,ρ,st0,pvs,R,rl,hA⟩:=hsp;refine (hb cdv A outer s H E hr).run _ (L2.start N vs) H ρ st0 _ R (Q7a rl) ?_;unfold Zz at hA;cases rr:m (pvs.map some ++ List.replicate (N.length - pvs.length) none) st0 with
 | rt v st1=>rw [rr] at hA; exact fun v H' ρ' x R' r=>hA H' ρ' x R' v r
 | nx Γ st1=>rw [rr] at hA; exact fun σ' H' ρ' x' R' G'=>hA H' ρ' x' R' .non rfl
 | bk Γ st1=>rw [rr] at hA; exact hA.elim
 | ct Γ st1=>rw [rr] at hA; exact hA.elim
 | stuck=>rw [rr] at hA; exact hA.elim
 | exc y st1=>rw [rr] at hA; exact hA
end
theorem Qbd {P:aP} {w:aN} {mg:Str->Option aB} {base:Heap} {x qual:Str} {st:aK} {f:aA} {ps:List Str} {k nl:Nat} {m:MS} {FF:FN} (F:Fun K x qual st f fd) (S:FnScope N ps (Q5 st)) (hn:ps.length=n) (hnl:N.length=nl) (hF:FF=Zz m nl)
  (hb:∀ (cdv:aB) (A:aQ) (outer:List PySem.Env) (s:aC) (H:Hp) (E:XK),Room k (A.deeper (PyProof.Rows.envOfC qual (Q5 st) s.heap.objs.size f cdv))->SimB (cxD P w K mg base N qual (Q5 st) f cdv A outer s H E) E (Y2 st) m) :
  FnOk P w K mg base (CXD P w) (k + 1) f fd ps (spF mg n FF):=by
 subst hn; subst hnl; subst hF;exact Qpu F S hb
def Q14 (w:Str):V:=if w = "make" then .int 3 else if w = "lend" then .int 4 else if w = "use" then .int 3 else .non
structure PartsOk (P:aP) (w:aN) (K:PySem.W.Frag) (mg:Str->Option aB):Prop where
 ex:∃ (a:aA) (o:Obj) (es:Array DictEntry) (ep:Nat),mg "PARTS_OF_DEED" = some (.ref a)/\K.lookup a=some o/\o.cls=.type "dict" /\ o.ExactDict/\o.data=.dict es ep/\KeysOf (Qu P w) es/\(a == au)=false/\∀ x,RelV (Q14 x) ((findBy (Qu P w).is es (.inr x)).getD .none)
def Qcv (m:ME):ME:=fun Γ st=>(m Γ st).bind fun p st1=>match p with
 | .str x=>if x = "make" then .ok (.int 3) st1 else if x = "lend" then .ok (.int 4) st1 else if x = "use" then .ok (.int 3) st1 else .ok .non st1
 | _=>.stuck
theorem Qhv {p apos cpos:Pos} (PO:PartsOk X.prog X.w X.K X.mg) (hg:Gl X "PARTS_OF_DEED") (he:SimE X E e m)
  (base:ai (.Name "PARTS_OF_DEED" p) "get" X.env (aL (.Name "PARTS_OF_DEED" p) X.env)=aL (.Name "PARTS_OF_DEED" p) X.env:=by rfl)
  (few:((aS cpos (aM [e] X.env)).all (fun x=>!x.1) && (backToKw cpos (keywordEach [] X.env)).all (fun x=>x.1.isSome)
   && decide (([e]:List aF).length + ([]:List Keyword).length + (if ([]:List Keyword).isEmpty then 0 else 1) < 30))=true:=by rfl)
  (line:(apos.endLine == cpos.line)=true:=by rfl) (trees:aS cpos (aM [e] X.env)=[(false,aL e X.env)]:=by rfl) :
  SimE X E (.Call (.Attribute (.Name "PARTS_OF_DEED" p) "get" apos) [e] [] cpos) (Qcv m):=by
 obtain ⟨a,o,es,ep,pm,pl,pt,pe,pd,pk,ps,pv'⟩:=PO.ex;refine ⟨fun Γ σ H ρ st Q R G h=>WE.of (Qan (val:=Q14) hg pm pl pt pe pd pk ps pv' Yr (by decide) base few line trees) (he.use R G h.bind fun q st1 H1 ρ1 v x1 R1 G1 r1 h1=>?_)⟩;cases q with
 | str x=>
  cases r1;have h1:Acc X.mg E H1 ρ1 (QV Q) (if x = "make" then .ok (.int 3) st1 else if x = "lend" then .ok (.int 4) st1 else if x = "use" then .ok (.int 3) st1 else .ok .non st1):=h1
  by_cases a1:x = "make"
  ·rw [bM a1] at h1;exact ⟨x,rfl,by unfold Q14; rw [bM a1]; exact now R1 h1 rfl⟩
  ·rw [bN a1] at h1
   by_cases a2:x = "lend"
   ·rw [bM a2] at h1;exact ⟨x,rfl,by unfold Q14; rw [bN a1,bM a2]; exact now R1 h1 rfl⟩
   ·rw [bN a2] at h1
    by_cases a3:x = "use"
    ·rw [bM a3] at h1;exact ⟨x,rfl,by unfold Q14; rw [bN a1,bN a2,bM a3]; exact now R1 h1 rfl⟩
    ·rw [bN a3] at h1;exact ⟨x,rfl,by unfold Q14; rw [bN a1,bN a2,bN a3]; exact now R1 h1 rfl⟩
 | _=>exact h1.elim
section
theorem Qj1 {P:aP} {w:aN} {K:PySem.W.Frag} {pd:aA} {t1 t2 t3 u1 u2 u3:Tok} {ep:Nat} (hm:mg "PARTS_OF_DEED" = some (.ref pd))
  (lk:K.lookup pd=some ⟨.type "dict",none,.dict #[⟨PyData.keyHash w.params "make",.str "make" t1,.int 3 u1⟩,⟨PyData.keyHash w.params "lend",.str "lend" t2,.int 4 u2⟩,⟨PyData.keyHash w.params "use",.str "use" t3,.int 3 u3⟩] ep,#[]⟩) (hp:(pd == au)=false):PartsOk P w K mg:=by
 refine ⟨pd,_,_,_,hm,lk,rfl,⟨rfl,rfl,rfl⟩,rfl,fun e he=>?_,hp,fun x=>?_⟩
 ·simp only [List.mem_toArray,E7,List.not_mem_nil,or_false] at he;rcases he with rfl | rfl | rfl
  ·exact ⟨.inr "make",by simp [Qu,Ki,Value.isStrOf],rfl⟩
  ·exact ⟨.inr "lend",by simp [Qu,Ki,Value.isStrOf],rfl⟩
  ·exact ⟨.inr "use",by simp [Qu,Ki,Value.isStrOf],rfl⟩
 ·unfold Q14
  by_cases e1:x = "make"
  ·rw [bM e1]; subst e1;have:findBy (Qu P w).is #[⟨PyData.keyHash w.params "make",.str "make" t1,.int 3 u1⟩,⟨PyData.keyHash w.params "lend",.str "lend" t2,.int 4 u2⟩,⟨PyData.keyHash w.params "use",.str "use" t3,.int 3 u3⟩] (.inr "make")=some (.int 3 u1):=by first | rfl | decide +kernel
   rw [this]; exact ⟨_,rfl⟩
  ·rw [bN e1]
   by_cases e2:x = "lend"
   ·rw [bM e2]; subst e2;have:findBy (Qu P w).is #[⟨PyData.keyHash w.params "make",.str "make" t1,.int 3 u1⟩,⟨PyData.keyHash w.params "lend",.str "lend" t2,.int 4 u2⟩,⟨PyData.keyHash w.params "use",.str "use" t3,.int 3 u3⟩] (.inr "lend")=some (.int 4 u2):=by first | rfl | decide +kernel
    rw [this]; exact ⟨_,rfl⟩
   ·rw [bN e2]
    by_cases e3:x = "use"
    ·rw [bM e3]; subst e3;have:findBy (Qu P w).is #[⟨PyData.keyHash w.params "make",.str "make" t1,.int 3 u1⟩,⟨PyData.keyHash w.params "lend",.str "lend" t2,.int 4 u2⟩,⟨PyData.keyHash w.params "use",.str "use" t3,.int 3 u3⟩] (.inr "use")=some (.int 3 u3):=by first | rfl | decide +kernel
     rw [this]; exact ⟨_,rfl⟩
    ·rw [bN e3];have e1':¬ (Str.ofString "make" = x):=fun z=>e1 z.symm
     have e2':¬ (Str.ofString "lend" = x):=fun z=>e2 z.symm
     have e3':¬ (Str.ofString "use" = x):=fun z=>e3 z.symm
     have:findBy (Qu P w).is #[⟨PyData.keyHash w.params "make",.str "make" t1,.int 3 u1⟩,⟨PyData.keyHash w.params "lend",.str "lend" t2,.int 4 u2⟩,⟨PyData.keyHash w.params "use",.str "use" t3,.int 3 u3⟩] (.inr x)=none:=by
      simp [findBy,Qu,Ki,Value.isStrOf,e1',e2',e3']
     rw [this]; rfl
end
def Q99 (x name:Str) (m:ME):MS:=fun Γ st=>(m Γ st).sbind fun p st1=>.exc ⟨x,some (name,p)⟩ st1
theorem Qez {x:Str} {C W f:aA} {k:Nat} {ps:List Str} {np cpos:Pos} (hcalm:X.calm=true) (RO:Q6e X E) (M:XMade X.K C W f) (GI:FnOk X.prog X.w X.K X.mg X.base CX0 k f fd ps (Q4r C name)) (hr:Room (k + 1) X.A)
  (hb:Binds X.K fd ps []) (hg:Gl X x) (hm:X.mg x=some (.ref C)) (he:SimE X E e m) (hdb:(x == ("__debug__" : Str))=false:=by decide) (hst:aM [e] X.env=[(false,aL e X.env)]:=by rfl) :
  SimS X E (.Raise (some (.Call (.Name x np) [e] [] cpos)) none pos) (Q99 x name m):=
 ⟨fun Γ σ H ρ st D R G h=>WS.of (Qfd hcalm RO M GI hr hb hg hm (Kn Yr Q15 (by rw [hst]; rfl)) hdb hst) (he.use R G h.bind fun p st1 H1 ρ1 v x1 R1 G1 r1 h1=>
  ⟨v,rfl,fun dx hn=>h1 C (some dx) _ ρ1 hm (Ext.add hn) (R1.add hn) ⟨dx,v,rfl,Qz,R1.fresh hn,r1.ext (Ext.add hn)⟩⟩)⟩
@[simp] theorem Quu (m:ME) (Γ:Gam) (st:Q0):Qcv m Γ st=(m Γ st).bind fun p st1=>(match p with
 | .str x=>if x = "make" then .ok (.int 3) st1 else if x = "lend" then .ok (.int 4) st1 else if x = "use" then .ok (.int 3) st1 else .ok .non st1
 | _=>.stuck):=rfl
@[simp] theorem Qtf (x name:Str) (m:ME) (Γ:Gam) (st:Q0):Q99 x name m Γ st=(m Γ st).sbind fun p st1=>.exc ⟨x,some (name,p)⟩ st1:=rfl
end Sm
namespace Sm
open PySem PySem.Spec PyProof.Rows L2
variable {H:Hp} {ρ:Tk}
def y6 (lo c:Int) (n:Nat):List PV:=(List.range n).map fun (k:Nat)=>PV.int (lo + (k:Int) * c)
theorem Q51 (lo c:Int) (n:Nat):(y6 lo c n).length=n:=by unfold y6; rw [O2,F4]
theorem Qbz {lo c:Int} {n:Nat}:Src (Qqa lo c n) (y6 lo c n) [] H ρ:=by
 have hl:=Q51 lo c n;refine ⟨fun H2 ρ2 st2 x R ok=>?_,fun H2 ρ2 st2 x R ok i hi=>?_,fun H2 ρ2 st2 x R ok i p hp y H3 hy=>?_⟩
 ·show n<=(y6 lo c n).length;omega
 ·show i < n;omega
 ·obtain ⟨rfl,rfl⟩:=hy;have hi:i < n:=by rw [<- hl]; exact (O1.mp hp).1
  unfold y6 at hp;rw [E3,F5 hi] at hp;cases hp;exact ⟨Same.refl _,rfl⟩
def Q21 (mr:ML):MI:=fun Γ st=>(mr Γ st).bind fun ps st1=>match ps with
 | [.int i,.int j,.int c]=>if c≠0/\-1000000<=i/\i<=1000000/\-1000000<=j/\j<=1000000/\-1000000<=c/\c<=1000000 then .ok (y6 i c (rsz i j c),[]) st1 else .stuck
 | _=>.stuck
theorem Qc8 {p q r:PV} {xs:List V} (h:RepL H ρ [p,q,r] xs):∃ v u t,xs=[v,u,t]/\Rep H ρ p v/\Rep H ρ q u/\Rep H ρ r t:=by
 obtain ⟨v,t,rfl,h1,h2⟩:=h;obtain ⟨u,t,rfl,h3,h4⟩:=xn h2;exact ⟨v,u,t,rfl,h1,h3,h4⟩
variable {X:Cx} {E:XK} {tg:aF} {a b c:aF} {mr:ML} {p pos:Pos}
theorem Qf1 (hg:Gl X "range") (hm:X.mg "range" = none) (ha:SimA X E [a,b,c] mr) (hs:aM [a,b,c] X.env=[(false,aL a X.env),(false,aL b X.env),(false,aL c X.env)]:=by rfl) (hs2:aM [b,c] X.env=[(false,aL b X.env),(false,aL c X.env)]:=by rfl):SimI X E tg (.Call (.Name "range" p) [a,b,c] [] pos) (Q21 mr):=⟨fun Γ σ H ρ st P R' R G h k=>by
 refine WI.of (Qfh hg hm Q0q hs hs2) (ha.use' R G h.bind fun ps st1 H1 ρ1 vs eq x1 R1 G1 r1 h1=>?_)
 split at h1
 ·rename_i i j c
  split at h1
  ·rename_i hj;obtain ⟨v,u,t,rfl,rv,ru,rt⟩:=Qc8 r1;cases rv; cases ru; cases rt;refine ⟨i,j,c,rfl,hj,k (y6 i c (rsz i j c),[]) st1 H1 ρ1 _ (by simp only [Q21,eq,Res.bind,bM hj]) x1 R1 G1 (Xu _) ?_ Qbz (h1 H1 ρ1 (Ext.refl _ _) R1)⟩;show (y6 i c (rsz i j c)).length<=sizeLine;rw [Q51];have:=Qi5 (a:=i) (b:=j) hj.1 (M:=2000000) (by omega) (by omega) (by omega);have q:=Qc6 i j c;exact F1 (show rsz i j c<=2000000 by unfold rsz; omega) (by decide)
  ·exact h1.elim
 ·exact h1.elim⟩
end Sm
namespace Sm
open PySem PySem.Spec L2
variable {κ:Type} {v:V} {F:FN}
def ju (f:Str) (p:PV):List (Str × PV)->List (Str × PV)
 | []=>[(f,p)]
 | (g,x) :: r=>if g=f then (g,p) :: r else (g,x) :: ju f p r
variable {H:Hp} {ρ:Tk}
theorem Q7h {fs:List (κ × PV)} {vs:List (κ × V)} {g:κ} {x:PV}:RepD H ρ ((g,x) :: fs) vs->∃ v r,vs=(g,v) :: r/\Rep H ρ x v/\RepD H ρ fs r:=fun ⟨h1,h2⟩=>by
 cases vs with
 | nil=>cases h1
 | cons a r=>
  obtain ⟨k,v⟩:=a;simp only [G8,List.cons.injEq] at h1;obtain ⟨u,t,e,r1,r2⟩:=h2;cases e;exact ⟨v,r,by rw [h1.1],r1,h1.2,r2⟩
theorem Q2m {fs:List (κ × PV)} {vs:List (κ × V)} {g:κ} {x:PV} (h:Rep H ρ x v) (r:RepD H ρ fs vs):RepD H ρ ((g,x) :: fs) ((g,v) :: vs):=
 ⟨by simp only [G8,r.1],v,_,rfl,h,r.2⟩
theorem Q7g {f:Str} {p:PV} {v:V} (h:Rep H ρ p v):∀ {fs:List (Str × PV)} {vs:List (Str × V)},RepD H ρ fs vs->RepD H ρ (ju f p fs) (y8 f v vs)
 | [],vs,r=>by
  have:vs=[]:=by have:=r.1; simpa using this
  subst this;exact Q2m h ⟨rfl,rfl⟩
 | (g,x) :: fs,vs,r=>by
  obtain ⟨u,t,rfl,r1,r2⟩:=Q7h r;rw [ju,y8]
  by_cases q:g=f
  ·rw [bM q,bM q]; exact Q2m h r2
  ·rw [bN q,bN q]; exact Q2m r1 (Q7g h r2)
theorem Q0b {f:Str}:∀ {fs:List (Str × PV)} {vs:List (Str × V)},RepD H ρ fs vs->(∀ p,fs.lookup f=some p->∃ v,vs.lookup f=some v/\Rep H ρ p v)/\(fs.lookup f=none->vs.lookup f=none)
 | [],vs,r=>by
  have:vs=[]:=by have:=r.1; simpa using this
  subst this;exact ⟨fun p e=>(by cases e),fun _=>rfl⟩
 | (g,x) :: fs,vs,r=>by
  obtain ⟨u,t,rfl,r1,r2⟩:=Q7h r;obtain ⟨i1,i2⟩:=Q0b (f:=f) r2;rw [E5,E5];cases q:f == g with
  | true=>exact ⟨fun p e=>by cases e; exact ⟨u,rfl,r1⟩,fun e=>(by cases e)⟩
  | false=>exact ⟨i1,i2⟩
def Q0w (C:aA) (st:Q0) (p:PV):Option (Nat × List (Str × PV)):=match p with
 | .ref i=>match st[i]? with
  | some (.obj C' fs)=>if C'=C then some (i,fs) else none
  | _=>none
 | _=>none
theorem Q1v {C:aA} {st:Q0} {p:PV} {i:Nat} {fs:List (Str × PV)} (R:Rel H ρ st) (r:Rep H ρ p v) (e:Q0w C st p=some (i,fs)):∃ a vs dx,p=.ref i/\v=.ref a/\ρ.tr[i]?=some a/\H a=some (.ins C dx vs)/\RepD H ρ fs vs:=by
 unfold Q0w at e
 split at e
 ·rename_i j
  split at e
  ·rename_i C' fs' z
   split at e
   ·rename_i hc;cases e;subst hc;obtain ⟨a,ea,rfl⟩:=r;obtain ⟨b,vs,dx,eb,hb,rd⟩:=R.obj z;rw [ea] at eb;cases eb;exact ⟨a,vs,dx,rfl,rfl,ea,hb,rd⟩
   ·cases e
  ·cases e
 ·cases e
variable {X:Cx} {E:XK} {o e:aF} {es:List aF} {mo m:ME} {mr:Gam->Q0->Res (List PV)} {C:aA} {f:Str} {pos pos' apos p:Pos}
def Vk (C:aA) (f:Str) (mo:ME):ME:=fun Γ st=>(mo Γ st).bind fun p st1=>match Q0w C st1 p with
 | some (_,fs)=>match fs.lookup f with
  | some q=>.ok q st1
  | none=>.stuck
 | none=>.stuck
theorem Qs1 (cl:Cls X.K C) (n:NoAttr X.K C f) (ho:SimE X E o mo) (hb:ai o f X.env (aL o X.env)=aL o X.env:=by rfl):SimE X E (.Attribute o f pos) (Vk C f mo):=
 ⟨fun Γ σ H ρ st Q R G h=>WE.of (Qss Yr hb) (ho.use R G h.bind fun p st1 H1 ρ1 v x1 R1 G1 r1 h1=>by
  split at h1
  ·rename_i i fs eo
   split at h1
   ·rename_i q el;obtain ⟨a,vs,dx,rfl,rfl,ea,ha,rd⟩:=Q1v R1 r1 eo;obtain ⟨u,eu,ru⟩:=(Q0b rd).1 q el;exact ⟨a,C,dx,vs,u,rfl,ha,cl,n,eu,now R1 h1 ru⟩
   ·exact h1.elim
  ·exact h1.elim)⟩
def jv (C:aA) (f:Str) (mo m:ME):MS:=fun Γ st=>(m Γ st).sbind fun p st1=>(mo Γ st1).sbind fun q st2=>match Q0w C st2 q with
 | some (i,fs)=>if fs.length < 1000 then .nx Γ (st2.set i (.obj C (ju f p fs))) else .stuck
 | none=>.stuck
theorem Qrh (cl:Cls X.K C) (n:NoAttr X.K C f) (he:SimE X E e m) (ho:SimE X E o mo) (hs:swapsWith e (some (.Attribute o f pos')) pos.line X.env=pure false:=by rfl):SimS X E (.Assign [.Attribute o f pos'] e pos) (jv C f mo m):=
 ⟨fun Γ σ H ρ st D R G h=>WS.of (Qsf Yr Yr hs) (he.use R G h.bind fun p st1 H1 ρ1 z x1 R1 G1 r1 h1=>ho.use R1 G1 h1.bind fun ov st2 H2 ρ2 x x2 R2 G2 r2 h2=>by
  split at h2
  ·rename_i i fs eo
   split at h2
   ·rename_i hl;obtain ⟨a,vs,dx,rfl,rfl,ea,ha,rd⟩:=Q1v R2 r2 eo;have hm:=E4 ea;have x3:Ext H2 ρ2 (upd H2 a (.ins C dx (y8 f z vs))) ρ2:=Ext.put hm ha;refine ⟨a,C,dx,vs,rfl,ha,cl,n,by rw [<- rd.length]; exact hl,h2 σ _ ρ2 x3 (R2.putC ea ha ⟨_,⟨dx,Qz⟩,?_⟩) (G2.ext x3)⟩;exact (Q7g (r1.ext x2) rd).ext x3
   ·exact h2.elim
  ·exact h2.elim)⟩
structure MethS (P:aP) (w:aN) (K:PySem.W.Frag) (mg:Str->Option aB) (base:Heap) (k:Nat) (C:aA) (x:Str) (n:Nat) (F:FN):Prop where
 ex:∃ (f:aA) (fd:aO) (ps:List Str),FnOk P w K mg base (CXD P w) k f fd ps (spF mg n F)/\Meth K C x f/\Binds K fd ps []/\ps.length=n
def jw (C:aA) (x:Str) (n:Nat) (F:FN) (mo:ME) (mr:ML):ME:=fun Γ st=>(mo Γ st).bind fun p st1=>match Q0w C st1 p with
 | some (_,fs)=>if fs.lookup x=none then (mr Γ st1).bind fun ps st2=>if ps.length + 1=n then F (p :: ps) st2 else .stuck else .stuck
 | none=>.stuck
theorem Qmk {pl:Sem Bool} {k n:Nat} {x:Str} (cl:Cls X.K C) (D:MethS X.prog X.w X.K X.mg X.base k C x n F) (hr:Room k X.A) (hx:Xr (CXD X.prog X.w) X E) (ho:SimE X E o mo) (ha:SimA X E (e :: es) mr)
  (hst:aM (e :: es) X.env=(false,aL e X.env) :: aM es X.env:=by rfl) (hpl:(aS pos (aM es X.env)).any (·.1)=false:=by rfl)
  (ht:aL (.Call (.Attribute o x apos) (e :: es) [] pos) X.env=(do
   let ov <- aL o X.env
   standAt apos.atName
   let (f,first) <- ag [ov] (getMethod ov x pl)
   callWith pos f first (aS pos (aM (e :: es) X.env)) (backToKw pos (keywordEach [] X.env))):=by rfl):SimE X E (.Call (.Attribute o x apos) (e :: es) [] pos) (jw C x n F mo mr):=by
 obtain ⟨f,fd,ps,hF,hm,hb,hl⟩:=D.ex;exact ⟨fun Γ σ H ρ st Q R G h=>WE.of (Qna Yr cl hm hF hr hb .nil hx Q0q hst hpl ht) (ho.use R G h.bind fun p st1 H1 ρ1 v x1 R1 G1 r1 h1=>by
  split at h1
  ·rename_i i fs eo
   split at h1
   ·rename_i el;obtain ⟨a,vs,dx,rfl,rfl,ea,haa,rd⟩:=Q1v R1 r1 eo;refine ⟨a,dx,vs,rfl,haa,(Q0b rd).2 el,?_⟩;refine ha.use R1 G1 h1.bind fun qs st2 H2 ρ2 us x2 R2 G2 r2 h2=>?_
    by_cases hq:qs.length + 1=n
    ·rw [bM hq] at h2;show spF X.mg n F (.ref a :: (us ++ [])) H2 Q E;rw [G9];exact ⟨by rw [D2,<- r2.length]; exact hq,ρ2,st2,_,R2,RepL.cons (r1.ext x2) r2,h2⟩
    ·rw [bN hq] at h2; exact h2.elim
   ·exact h1.elim
  ·exact h1.elim)⟩
theorem Qhw {pl:Sem Bool} {k n:Nat} {x:Str} (cl:Cls X.K C) (D:MethS X.prog X.w X.K X.mg X.base k C x n F) (hr:Room k X.A) (hx:Xr (CXD X.prog X.w) X E) (ho:SimE X E o mo)
  (ht:aL (.Call (.Attribute o x apos) [] [] pos) X.env=(do
   let ov <- aL o X.env
   standAt apos.atName
   let (f,first) <- ag [ov] (getMethod ov x pl)
   callWith pos f first (aS pos (aM [] X.env)) (backToKw pos (keywordEach [] X.env))):=by rfl):SimE X E (.Call (.Attribute o x apos) [] [] pos) (jw C x n F mo Q6):=by
 obtain ⟨f,fd,ps,hF,hm,hb,hl⟩:=D.ex;exact ⟨fun Γ σ H ρ st Q R G h=>WE.of (Qiw Yr cl hm hF hr hb .nil hx ht) (ho.use R G h.bind fun p st1 H1 ρ1 v x1 R1 G1 r1 h1=>by
  split at h1
  ·rename_i i fs eo
   split at h1
   ·rename_i el;obtain ⟨a,vs,dx,rfl,rfl,ea,haa,rd⟩:=Q1v R1 r1 eo;refine ⟨a,dx,vs,rfl,haa,(Q0b rd).2 el,?_⟩;have h1:Acc X.mg E H1 ρ1 (QV Q) (if ([]:List PV).length + 1=n then F [.ref i] st1 else .stuck):=h1
    by_cases hq:([]:List PV).length + 1=n
    ·rw [bM hq] at h1;show spF X.mg n F (.ref a :: ([] ++ [])) H1 Q E;exact ⟨hq,ρ1,st1,_,R1,RepL.cons r1 RepL.nil,h1⟩
    ·rw [bN hq] at h1; exact h1.elim
   ·exact h1.elim
  ·exact h1.elim)⟩
structure MakeS (P:aP) (w:aN) (K:PySem.W.Frag) (mg:Str->Option aB) (base:Heap) (k:Nat) (C:aA) (x:Str) (n:Nat) (F:FN):Prop where
 ex:∃ (f:aA) (fd:aO) (ps:List Str),FnOk P w K mg base (CXD P w) k f fd ps (spF mg n F)/\Mk K C f/\mg x=some (.ref C)/\Binds K fd ps []/\ps.length=n
def Qqs (C : aA) (n : Nat) (F : FN) (mr : ML) : ME := fun Γ st => (mr Γ st).bind fun ps st1 => if ps.length + 1 = n then (F (.ref st1.length :: ps) (st1 ++ [.obj C []])).bind fun v st2 => match v with
  | .non=>.ok (.ref st1.length) st2
  | _=>.stuck
 else .stuck
theorem Qmm {k n:Nat} {x:Str} (D:MakeS X.prog X.w X.K X.mg X.base k C x n F) (hr:Room (k + 1) X.A) (hx:Xr (CXD X.prog X.w) X E) (hg:Gl X x) (ha:SimA X E (e :: es) mr) (hdb:(x == ("__debug__" : Str))=false:=by decide)
  (he:aM (e :: es) X.env=(false,aL e X.env) :: aM es X.env:=by rfl) (hpl:(aS pos (aM es X.env)).any (·.1)=false:=by rfl):SimE X E (.Call (.Name x p) (e :: es) [] pos) (Qqs C n F mr):=by
 obtain ⟨f,fd,ps,hF,hm,hc,hb,hl⟩:=D.ex;exact ⟨fun Γ σ H ρ st Q R G h=>WE.of (Qnb hm hF hr hg hc hb .nil hx Q0q hdb he hpl) (ha.use R G h.bind fun qs st1 H1 ρ1 us x1 R1 G1 r1 h1=>by
  intro y dx hy hd hne
  by_cases hq:qs.length + 1=n
  ·rw [bM hq] at h1;have y1:Ext H1 ρ1 (upd H1 dx (.own y)) ρ1:=Ext.add hd;have hy':(upd H1 dx (.own y)) y=none:=by rw [Q7 (fun z=>hne z.symm)]; exact hy
   have y2:Ext (upd H1 dx (.own y)) ρ1 (upd (upd H1 dx (.own y)) y (.ins C dx [])) (ρ1.add y):=Ext.addT hy';have R2:Rel (upd (upd H1 dx (.own y)) y (.ins C dx [])) (ρ1.add y) (st1 ++ [.obj C []]):=(R1.add hd).addC hy' ⟨[],⟨dx,Qz⟩,rfl,rfl⟩;have hat:(ρ1.add y).tr[st1.length]?=some y:=by
    show (ρ1.tr ++ [y])[st1.length]?=some y;rw [<- R1.len,E2 (O4 _),Nat.sub_self]; rfl
   show spF X.mg n F (.ref y :: (us ++ [])) _ _ E;rw [G9];refine ⟨by rw [D2,<- r1.length]; exact hq,ρ1.add y,st1 ++ [.obj C []],.ref st1.length :: qs,R2,RepL.cons ⟨y,hat,rfl⟩ (r1.ext (y1.trans y2)),?_⟩;cases er:F (.ref st1.length :: qs) (st1 ++ [.obj C []]) with
   | stuck=>rw [er] at h1; exact h1.elim
   | exc z st'=>
    rw [er] at h1;exact fun C' dv H' ρ' m x' R' xf=>h1 C' dv H' ρ' m ((y1.trans y2).trans x') R' xf
   | ok v st2=>
    rw [er] at h1;intro H' ρ' x' R' w rw';rw [J2] at h1;cases v with
    | non=>
     refine ⟨rw',h1 H' ρ' ((y1.trans y2).trans x') R' _ ⟨y,?_,rfl⟩⟩;obtain ⟨t,et⟩:=x'.pre;rw [<- et,O9 (O1.mp hat).1];exact hat
    | _=>exact h1.elim
  ·rw [bN hq] at h1; exact h1.elim)⟩
@[simp] theorem Qp7 (C:aA) (f:Str) (mo:ME) (Γ:Gam) (st:Q0):Vk C f mo Γ st=(mo Γ st).bind fun p st1=>match Q0w C st1 p with
 | some (_,fs)=>match fs.lookup f with
  | some q=>.ok q st1
  | none=>.stuck
 | none=>.stuck:=rfl
@[simp] theorem Qb3 (C:aA) (f:Str) (mo m:ME) (Γ:Gam) (st:Q0):jv C f mo m Γ st=(m Γ st).sbind fun p st1=>(mo Γ st1).sbind fun q st2=>match Q0w C st2 q with
 | some (i,fs)=>if fs.length < 1000 then .nx Γ (st2.set i (.obj C (ju f p fs))) else .stuck
 | none=>.stuck:=rfl
@[simp] theorem Qji (C:aA) (x:Str) (n:Nat) (F:FN) (mo:ME) (mr:ML) (Γ:Gam) (st:Q0):jw C x n F mo mr Γ st=(mo Γ st).bind fun p st1=>match Q0w C st1 p with
 | some (_,fs)=>if fs.lookup x=none then (mr Γ st1).bind fun ps st2=>if ps.length + 1=n then F (p :: ps) st2 else .stuck else .stuck
 | none=>.stuck:=rfl
def Q8y (x:Str):V:=if x = "keep" then .int 2 else if x = "fall" then .int 2 else if x = "send" then .int 2 else if x = "come" then .int 3 else .non
structure PartsO (P:aP) (w:aN) (K:PySem.W.Frag) (mg:Str->Option aB):Prop where
 ex:∃ (a:aA) (o:Obj) (es:Array DictEntry) (ep:Nat),mg "PARTS_OF_OTHER_DEED" = some (.ref a)/\K.lookup a=some o/\o.cls=.type "dict" /\ o.ExactDict/\o.data=.dict es ep/\KeysOf (Qu P w) es/\(a == au)=false/\∀ x,RelV (Q8y x) ((findBy (Qu P w).is es (.inr x)).getD .none)
def Kx (m:ME):ME:=fun Γ st=>(m Γ st).bind fun p st1=>match p with
 | .str x=>if x = "keep" then .ok (.int 2) st1 else if x = "fall" then .ok (.int 2) st1 else if x = "send" then .ok (.int 2) st1 else if x = "come" then .ok (.int 3) st1 else .ok .non st1
 | _=>.stuck
theorem Qf5 {p apos cpos:Pos} (PO:PartsO X.prog X.w X.K X.mg) (hg:Gl X "PARTS_OF_OTHER_DEED") (he:SimE X E e m)
  (base:ai (.Name "PARTS_OF_OTHER_DEED" p) "get" X.env (aL (.Name "PARTS_OF_OTHER_DEED" p) X.env)=aL (.Name "PARTS_OF_OTHER_DEED" p) X.env:=by rfl)
  (few:((aS cpos (aM [e] X.env)).all (fun x=>!x.1) && (backToKw cpos (keywordEach [] X.env)).all (fun x=>x.1.isSome)
   && decide (([e]:List aF).length + ([]:List Keyword).length + (if ([]:List Keyword).isEmpty then 0 else 1) < 30))=true:=by rfl)
  (line:(apos.endLine == cpos.line)=true:=by rfl) (trees:aS cpos (aM [e] X.env)=[(false,aL e X.env)]:=by rfl) :
  SimE X E (.Call (.Attribute (.Name "PARTS_OF_OTHER_DEED" p) "get" apos) [e] [] cpos) (Kx m):=by
 obtain ⟨a,o,es,ep,pm,pl,pt,pe,pd,pk,ps,pv'⟩:=PO.ex;refine ⟨fun Γ σ H ρ st Q R G h=>WE.of (Qan (val:=Q8y) hg pm pl pt pe pd pk ps pv' Yr (by decide) base few line trees) (he.use R G h.bind fun q st1 H1 ρ1 v x1 R1 G1 r1 h1=>?_)⟩;cases q with
 | str x=>
  cases r1;have h1:Acc X.mg E H1 ρ1 (QV Q) (if x = "keep" then .ok (.int 2) st1 else if x = "fall" then .ok (.int 2) st1 else if x = "send" then .ok (.int 2) st1 else if x = "come" then .ok (.int 3) st1 else .ok .non st1):=h1;refine ⟨x,rfl,?_⟩;unfold Q8y
  by_cases a1:x = "keep"
  ·rw [bM a1] at h1 ⊢; exact now R1 h1 rfl
  ·rw [bN a1] at h1 ⊢
   by_cases a2:x = "fall"
   ·rw [bM a2] at h1 ⊢; exact now R1 h1 rfl
   ·rw [bN a2] at h1 ⊢
    by_cases a3:x = "send"
    ·rw [bM a3] at h1 ⊢; exact now R1 h1 rfl
    ·rw [bN a3] at h1 ⊢
     by_cases a4:x = "come"
     ·rw [bM a4] at h1 ⊢; exact now R1 h1 rfl
     ·rw [bN a4] at h1 ⊢;exact now R1 h1 rfl
 | _=>exact h1.elim
section
theorem Qfk {P:aP} {w:aN} {K:PySem.W.Frag} {mg:Str->Option aB} {pd:aA} {t1 t2 t3 t4 u1 u2 u3 u4:Tok} {ep:Nat} (hm:mg "PARTS_OF_OTHER_DEED" = some (.ref pd))
  (lk:K.lookup pd=some ⟨.type "dict",none,.dict #[⟨PyData.keyHash w.params "keep",.str "keep" t1,.int 2 u1⟩,⟨PyData.keyHash w.params "fall",.str "fall" t2,.int 2 u2⟩,⟨PyData.keyHash w.params "send",.str "send" t3,.int 2 u3⟩,⟨PyData.keyHash w.params "come",.str "come" t4,.int 3 u4⟩] ep,#[]⟩) (hp:(pd == au)=false):PartsO P w K mg:=by
 refine ⟨pd,_,_,_,hm,lk,rfl,⟨rfl,rfl,rfl⟩,rfl,fun e he=>?_,hp,fun x=>?_⟩
 ·simp only [List.mem_toArray,E7,List.not_mem_nil,or_false] at he;rcases he with rfl | rfl | rfl | rfl
  ·exact ⟨.inr "keep",by simp [Qu,Ki,Value.isStrOf],rfl⟩
  ·exact ⟨.inr "fall",by simp [Qu,Ki,Value.isStrOf],rfl⟩
  ·exact ⟨.inr "send",by simp [Qu,Ki,Value.isStrOf],rfl⟩
  ·exact ⟨.inr "come",by simp [Qu,Ki,Value.isStrOf],rfl⟩
 ·unfold Q8y
  by_cases e1:x = "keep"
  ·rw [bM e1]; subst e1;have:findBy (Qu P w).is #[⟨PyData.keyHash w.params "keep",.str "keep" t1,.int 2 u1⟩,⟨PyData.keyHash w.params "fall",.str "fall" t2,.int 2 u2⟩,⟨PyData.keyHash w.params "send",.str "send" t3,.int 2 u3⟩,⟨PyData.keyHash w.params "come",.str "come" t4,.int 3 u4⟩] (.inr "keep")=some (.int 2 u1):=by first | rfl | decide +kernel
   rw [this]; exact ⟨_,rfl⟩
  ·rw [bN e1]
   by_cases e2:x = "fall"
   ·rw [bM e2]; subst e2;have:findBy (Qu P w).is #[⟨PyData.keyHash w.params "keep",.str "keep" t1,.int 2 u1⟩,⟨PyData.keyHash w.params "fall",.str "fall" t2,.int 2 u2⟩,⟨PyData.keyHash w.params "send",.str "send" t3,.int 2 u3⟩,⟨PyData.keyHash w.params "come",.str "come" t4,.int 3 u4⟩] (.inr "fall")=some (.int 2 u2):=by first | rfl | decide +kernel
    rw [this]; exact ⟨_,rfl⟩
   ·rw [bN e2]
    by_cases e3:x = "send"
    ·rw [bM e3]; subst e3;have:findBy (Qu P w).is #[⟨PyData.keyHash w.params "keep",.str "keep" t1,.int 2 u1⟩,⟨PyData.keyHash w.params "fall",.str "fall" t2,.int 2 u2⟩,⟨PyData.keyHash w.params "send",.str "send" t3,.int 2 u3⟩,⟨PyData.keyHash w.params "come",.str "come" t4,.int 3 u4⟩] (.inr "send")=some (.int 2 u3):=by first | rfl | decide +kernel
     rw [this]; exact ⟨_,rfl⟩
    ·rw [bN e3]
     by_cases e4:x = "come"
     ·rw [bM e4]; subst e4;have:findBy (Qu P w).is #[⟨PyData.keyHash w.params "keep",.str "keep" t1,.int 2 u1⟩,⟨PyData.keyHash w.params "fall",.str "fall" t2,.int 2 u2⟩,⟨PyData.keyHash w.params "send",.str "send" t3,.int 2 u3⟩,⟨PyData.keyHash w.params "come",.str "come" t4,.int 3 u4⟩] (.inr "come")=some (.int 3 u4):=by first | rfl | decide +kernel
      rw [this]; exact ⟨_,rfl⟩
     ·rw [bN e4];have e1':¬ (Str.ofString "keep" = x):=fun z=>e1 z.symm
      have e2':¬ (Str.ofString "fall" = x):=fun z=>e2 z.symm
      have e3':¬ (Str.ofString "send" = x):=fun z=>e3 z.symm
      have e4':¬ (Str.ofString "come" = x):=fun z=>e4 z.symm
      have:findBy (Qu P w).is #[⟨PyData.keyHash w.params "keep",.str "keep" t1,.int 2 u1⟩,⟨PyData.keyHash w.params "fall",.str "fall" t2,.int 2 u2⟩,⟨PyData.keyHash w.params "send",.str "send" t3,.int 2 u3⟩,⟨PyData.keyHash w.params "come",.str "come" t4,.int 3 u4⟩] (.inr x)=none:=by
       simp [findBy,Qu,Ki,Value.isStrOf,e1',e2',e3',e4']
      rw [this]; rfl
end
def Qb0 (cn fld : Str) (i n : Nat) (F : FN) (mr : ML) : MS := fun Γ st => (mr Γ st).sbind fun ps st1 => if ps.length = n /\ i < Γ.length then (match F ps st1 with
  | .ok _ st2=>.nx Γ st2
  | .exc x st2=>if x.cls=cn then (match x.fs with | some (f,.int z)=>if f=fld then .rt (.int z) st2 else .stuck | _=>.stuck) else .stuck
  | .stuck=>.stuck) else .stuck
theorem Qdf {k n i:Nat} {g cn nm fld:Str} {CC:aA} {p cpos epos np np2 apos rpos hpos pos:Pos} {mr:ML} (D:DefS X.prog X.w X.K X.mg X.base k g n F) (hr:Room k X.A) (ha:SimA X.nox E (e :: es) mr)
  (hN:X.N.Nodup) (hcm:X.mg cn=some (.ref CC)) (hxx:PySem.W.exmOne X.K (.ref CC) (.ref CC)=some true) (hxg:XGet X.K CC fld) (hi:X.N[i]?=some nm:=by rfl) (hk:X.env.scope.names.lookup nm=some .local:=by rfl)
  (hsuite:∀ a,PSs (Us X a) [.Return (some (.Attribute (.Name nm np2) fld apos)) rpos] (Qv6 (tXF X.K fld (Qr6 i))):=by exact fun _=>Q3z (Qik (Qn9 _ (pv _))))
  (hg:Gl X g:=by rfl) (hgc:Gl X cn:=by rfl) (hex:∀ b,b∉X.ex:=by intro b z; exact absurd (show b∈([]:List aA) from z) (by simp)) (hst:X.stack=X.env :: X.outer:=by rfl) (hfr:X.env.frame=some X.env.locals:=by rfl)
  (hdb:(g == ("__debug__" : Str))=false:=by decide) (hdbc:(cn == ("__debug__" : Str))=false:=by decide) (he:aM (e :: es) X.env=(false,aL e X.env) :: aM es X.env:=by rfl) (hpl:(aS cpos (aM es X.env)).any (·.1)=false:=by rfl)
  (hsw:swapsWith (.Call (.Name g p) (e :: es) [] cpos) none epos.line X.env=pure false:=by rfl) :
  SimS X E (.Try [.Expr (.Call (.Name g p) (e :: es) [] cpos) epos] [.ExceptHandler (some (.Name cn np)) (some nm) [.Return (some (.Attribute (.Name nm np2) fld apos)) rpos] hpos] [] [] pos) (Qb0 cn fld i n F mr):=by
 obtain ⟨f,fd,ps,hF,hm,hkp,hb,hl⟩:=D.ex;exact ⟨fun Γ σ H ρ st D R G h=>WS.of (Qii hF hr hm hkp hb Q0q hN hi hk hsuite hcm hg hgc hex hst hfr hdb hdbc he hpl hsw) (ha.use R G h.bind fun qs st1 H1 ρ1 us x1 R1 G1 r1 h1=>by
  by_cases hq:qs.length=n/\i < Γ.length
  ·rw [bM hq] at h1;refine ⟨by rw [<- r1.length]; exact hq.1,ρ1,st1,qs,R1,r1,?_⟩;cases er:F qs st1 with
   | stuck=>rw [er] at h1; exact h1.elim
   | ok v st2=>
    rw [er] at h1;exact fun H' ρ' x' R' w _=>h1 σ H' ρ' x' R' (G1.ext x')
   | exc x st2=>
    rw [er] at h1;have h2:AccS X.mg E D H1 ρ1 (if x.cls=cn then (match x.fs with | some (f,.int z)=>if f=fld then .rt (.int z) st2 else .stuck | _=>.stuck) else .stuck):=h1
    clear h1
    by_cases hc:x.cls=cn
    ·rw [bM hc] at h2
     split at h2
     ·rename_i f' z ef
      split at h2
      ·rename_i hf;subst hf;intro C dv H' ρ' hm' x' R' xf;rw [hc,hcm] at hm';cases hm';rw [ef] at xf;obtain ⟨dx,v,rfl,hdx,_,rv⟩:=xf;have rv:v=.int z:=rv;subst rv;refine ⟨CC,rfl,hxx,fun a hna=>?_⟩;have hlen:i < σ.length:=by rw [<- G1.1]; exact hq.2
       refine ⟨.ref a,by rw [D7 hlen],a,CC,dx,z,[(f',.int z)],rfl,Qz,by rw [Q7 (Q9 hdx hna)]; exact hdx,by simp [List.lookup],hxg,?_⟩;exact h2 _ _ ρ' (x'.trans (Ext.add hna)) (R'.add hna) rfl
      ·exact h2.elim
     ·exact h2.elim
    ·rw [bN hc] at h2; exact h2.elim
  ·rw [bN hq] at h1; exact h1.elim)⟩
@[simp] theorem Qjh (cn fld:Str) (i n:Nat) (F:FN) (mr:ML) (Γ:Gam) (st:Q0):Qb0 cn fld i n F mr Γ st=(mr Γ st).sbind fun ps st1=>if ps.length=n/\i < Γ.length then (match F ps st1 with
  | .ok _ st2=>.nx Γ st2
  | .exc x st2=>if x.cls=cn then (match x.fs with | some (f,.int z)=>if f=fld then .rt (.int z) st2 else .stuck | _=>.stuck) else .stuck
  | .stuck=>.stuck) else .stuck:=rfl
abbrev Qa8 (X:Cx) (pins:List (aA × Obj)) (E:XK):Cx:={ X with pn:=X.pn ++ pins,xe:=fun v s'=>∃ σ1 H1 s1,Inv X pins σ1 H1 s1/\CXD X.prog X.w X.stack H1 s1 E v s' }
variable {pins pins':List (aA × Obj)} {σ:St} {s:aC}
theorem Qv2 (I:Inv X pins σ H s):Inv (Qa8 X pins E) [] σ H s:=
 ⟨⟨I.ok.mod,I.ok.kind,I.ok.glob,I.ok.blt,I.ok.above,I.ok.inj,I.ok.has,I.ok.cab,I.ok.hd,I.ok.frames,I.ok.stk,I.ok.exf,I.ok.bs,I.ok.bsz,I.ok.noex,I.ok.exfs,I.ok.funs,I.ok.frf⟩,I.os,I.bare,I.base,I.loc,I.cell,I.free,I.freeC,fun p hp=>I.pin p (by simpa using hp),I.hok,I.len⟩
theorem Q4k (I:Inv (Qa8 X pins E) pins' σ H s):Inv X pins σ H s:=
 ⟨⟨I.ok.mod,I.ok.kind,I.ok.glob,I.ok.blt,I.ok.above,I.ok.inj,I.ok.has,I.ok.cab,I.ok.hd,I.ok.frames,I.ok.stk,I.ok.exf,I.ok.bs,I.ok.bsz,I.ok.noex,I.ok.exfs,I.ok.funs,I.ok.frf⟩,I.os,I.bare,I.base,I.loc,I.cell,I.free,I.freeC,fun p hp=>I.pin p (G7 _ hp),I.hok,I.len⟩
theorem Qj0:Xr (CXD X.prog X.w) (Qa8 X pins E) E:=fun _ σ H s _ _ I h=>⟨σ,H,s,Q4k I,h⟩
end Sm
namespace Sm
open PySem PySem.Spec PyProof.Rows L2
variable {X:Cx} {E:XK}
theorem Qj5:OpR X (aa .FloorDiv) (rI (fun _ j=>0 < j/\j.natAbs.log2 < 8000) fun i j=>.int (i / j)):=opI fun i j _ _ _ _ _ hc q=>by
 have h1:(0:Int) < j:=hc.1;have h2:=hc.2;refine floordiv_int (by omega) (by rw [Int.fdiv_eq_ediv_of_nonneg i (by omega)]; exact q) (.inl (PyProof.noPylong_of_log2 ?_));omega
def Qdw:OP:=fun st p q=>match p,q with
 | .int a,.int b=>if 0 < b/\b.natAbs.log2 < 8000 then .ok (.int (a / b)) st else .stuck
 | _,_=>.stuck
theorem Qnk:OpS X E (aa .FloorDiv) Qdw:=⟨fun H ρ st p q x y Q R rp rq h=>by
 unfold Qdw at h
 split at h
 ·cases rp; cases rq
  split at h
  ·rename_i hc;exact WO.of Qj5 ⟨_,_,rfl,rfl,hc,now R h rfl⟩
  ·exact h.elim
 ·exact h.elim⟩
theorem Qft (st:Q0) (a:Int) (m:Nat) (h1:0 < m) (h2:m < 2 ^ 8000):Qdw st (.int a) (.int m)=.ok (.int (a / m)) st:=by
 show (if 0 < (m:Int)/\(m:Int).natAbs.log2 < 8000 then _ else _)=_;rw [bM ⟨by omega,by
  rw [Int.natAbs_natCast];exact (Nat.log2_lt (by omega)).mpr h2⟩]
end Sm
namespace L2
open PySem PySem.Spec PyProof.Rows PySem.W
def SzS (h:Heap) (a:aA) (n:Nat):Prop:=∃ o es ep t,h.get? a=some o/\o.ExactSet/\o.data=.set es ep t/\t.fits es.size=true/\es.size=n
def Qx3 (a:aA) (n:Nat):HO:=.ext fun h=>SzS h a n
end L2
namespace Sm
open PySem PySem.Spec L2
variable {K:PySem.W.Frag} {mg:Str->Option aB} {ps:List Str} {f C a:aA} {oc:aB} {P:aP} {fd:aO} {n:Nat} {F:FN} {ql:Str} {s:aK} {α:Type} {o:Obj}
def Qv3 (X:Cx) (CC:aA) (L:Nat) (ts:TS) (D:Ends):XK:=fun cls dv H'=>∃ C,cls=.ref C/\PySem.W.exmOne X.K cls (.ref CC)=some true/\∀ a,H' a=none->∀ σ1:St,σ1.length=L->ts { nx:=fun σ3 H3=>D.nx σ3 H3,rt:=fun _ _=>False } σ1 (upd H' a (.ext (IsXD a C dv)))
variable {X:Cx} {body:List aK} {mb:MS} {cn:Str} {CC:aA} {np hpos pos:Pos} {b₀:aK} {ts:TS} {Γ:Gam} {σ:St} {H:Hp} {ρ:Tk} {st:Q0} {D:Ends}
section
variable {suite:List aK}
theorem Qhd (hb:∀ pins E,SimB (Qa8 X pins E) E body mb) (hN:X.N.Nodup) (hsuite:∀ a,PSs (Us X a) (b₀ :: suite) ts) (hcm:X.mg cn=some (.ref CC)) (hgc:Gl X cn) (hex:∀ b,b∉X.ex) (hst:X.stack=X.env :: X.outer) (hfr:X.env.frame=some X.env.locals) (hdbc:(cn == ("__debug__" : Str))=false)
  (R:Rel H ρ st) (G:EnvR H ρ Γ σ) (h:AccS X.mg (Qv3 X CC σ.length ts D) D H ρ (mb Γ st)):WS X (.Try body [.ExceptHandler (some (.Name cn np)) none (b₀ :: suite) hpos] [] [] pos) D σ H:=fun pins s I=>by
 refine wpAny_Try_except (ae ((hb pins _).run Γ σ H ρ st D R G h [] s (Qv2 I)) (fun f s' hf=>?_) fun v s' hv=>?_)
 ·cases f with
  | next=>
   obtain ⟨σ',H',I',q⟩:=hf;exact wpAny_execs_nil ⟨σ',H',Q4k I',q⟩
  | brk=>
   obtain ⟨σ',H',I',q⟩:=hf;exact ⟨σ',H',Q4k I',q⟩
  | cont=>
   obtain ⟨σ',H',I',q⟩:=hf;exact ⟨σ',H',Q4k I',q⟩
  | ret u=>
   obtain ⟨v,σ',H',I',r,q⟩:=hf;exact ⟨v,σ',H',Q4k I',r,q⟩
 ·obtain ⟨σ1,H1,s1,I1,a,cls,a0,dv,H',B,rfl,Fl,dd,C,rfl,hok,q⟩:=hv;exact Qpr hN hex hst hfr hgc hcm hok I1 Fl dd (hsuite a) (q a Fl.new.2 σ1 (I1.len.trans I.len.symm)) hdbc
end
def Qb1 (cn:Str) (j:Nat) (mb:MS):MS:=fun Γ st=>match mb Γ st with
 | .nx Γ1 st1=>.nx Γ1 st1
 | .exc x st1=>if x.cls=cn/\j < Γ.length then .nx ((List.replicate Γ.length none).set j (some (.bl true))) st1 else .stuck
 | _=>.stuck
variable {E:XK}
theorem Qdg {j:Nat} {cn y:Str} {CC:aA} {ck:Nat} {np yp cp spos hpos pos:Pos} (hb:∀ pins E,SimB (Qa8 X pins E) E body mb)
  (hN:X.N.Nodup) (hcm:X.mg cn=some (.ref CC)) (hxx:PySem.W.exmOne X.K (.ref CC) (.ref CC)=some true)
  (hsuite:∀ a,PSs (Us X a) [.Assign [.Name y yp] (.Constant (.bool true) ck cp) spos] (Qm4 (tC (.bl true)) (Q81 j)))
  (hgc:Gl X cn:=by rfl) (hex:∀ b,b∉X.ex:=by intro b z; exact absurd (show b∈([]:List aA) from z) (by simp)) (hst:X.stack=X.env :: X.outer:=by rfl) (hfr:X.env.frame=some X.env.locals:=by rfl) (hdbc:(cn == ("__debug__" : Str))=false:=by decide) :
  SimS X E (.Try body [.ExceptHandler (some (.Name cn np)) none [.Assign [.Name y yp] (.Constant (.bool true) ck cp) spos] hpos] [] [] pos) (Qb1 cn j mb):=by
 refine ⟨fun Γ σ H ρ st D R G h=>Qhd hb hN hsuite hcm hgc hex hst hfr hdbc R G ?_⟩;unfold Qb1 at h;cases er:mb Γ st with
 | nx Γ1 st1=>rw [er] at h; exact h
 | exc x st1=>
  rw [er] at h;dsimp only at h
  split at h
  ·rename_i hc;obtain ⟨hc,hjl⟩:=hc;intro C dv H' ρ' hm' x' R' xf;rw [hc,hcm] at hm';cases hm';refine ⟨CC,rfl,hxx,fun a hna σ1 hl=>?_⟩;refine h _ _ ρ' (x'.trans (Ext.add hna)) (R'.add hna) ⟨by simp [hl,G.1],fun t p e=>?_⟩;have ht:t=j/\p=.bl true:=by
    by_cases q:j=t
    ·subst q;rw [D7 (by rw [L7]; exact hjl)] at e;cases e;exact ⟨rfl,rfl⟩
    ·rw [D5 q] at e
     by_cases q2:t < Γ.length
     ·rw [F8,bM q2] at e; cases e
     ·rw [E9 (by rw [L7]; omega)] at e; cases e
   obtain ⟨rfl,rfl⟩:=ht;exact ⟨.bl true,by rw [D7 (by rw [hl,<- G.1]; exact hjl)],rfl⟩
  ·exact h.elim
 | _=>rw [er] at h; exact h.elim
def tgN:aF->List Str
 | .Name x _=>[x]
 | .Tuple es _ _=>es.flatMap fun e=>match e with
  | .Name x _=>[x]
  | _=>[]
 | _=>[]
def Q3e (N:List Str) (tg:aF) (cap:List (Option Nat)):List Str:=tgN tg ++ cap.filterMap fun o=>o.bind (N[·]?)
theorem Qwr {l:List Str} (h:decide l.Nodup=true):l.Nodup:=of_decide_eq_true h
structure KR (b:Bool):Prop where
 h:b=true
variable {tg iter elt:aF} {ifs:List aF} {sc:Scope} {ga:GA} {mi:MI} {mt:MT} {me:ME} {px cpos:Pos}
section
variable {cap:List (Option Nat)} {i:Nat} {x:Str}
theorem Qhq (hcalm:X.calm=true) (hc:KR (compOkC X.N (Q3e X.N tg cap) sc X.env.scope cap)) (hs:∀ x,av iter X.env x=pure x) (hf:Q3g cap ga) (hi:SimI X E tg iter mi) (hg:∀ cl C s0 H0 ex,SimG (Wz X (Q3e X.N tg cap) sc cl C s0 H0 ex) tg ga) (he:∀ cl C s0 H0 ex,SimE (Wz X (Q3e X.N tg cap) sc cl C s0 H0 ex) E0 elt me) (ht:∀ cl C s0 H0 ex,SimTs (Wz X (Q3e X.N tg cap) sc cl C s0 H0 ex) ifs mt):SimN X E (.ListComp elt [⟨tg,iter,ifs,0⟩] sc pos) (Z9 cap ga mi mt me):=
 Qmc cap _ hcalm hi hg he ht hf rfl rfl hc.h hs
theorem Qf0 (hsw:swapsWith (.ListComp elt [⟨tg,iter,ifs,0⟩] sc cpos) (some (.Name x px)) pos.line X.env=pure true) (hnd:X.N.Nodup) (hcalm:X.calm=true) (hix:X.N[i]?=some x) (hx:Loc X.env.scope x) (hc:KR (compOkC X.N (Q3e X.N tg cap) sc X.env.scope cap)) (hs:∀ x,av iter X.env x=pure x) (hfn:X.fn x=true\/X.env.scope.names.lookup x=some .local) (hf:Q3g cap ga) (hi:SimI X E tg iter mi) (hg:∀ cl C s0 H0 ex,SimG (Wz X (Q3e X.N tg cap) sc cl C s0 H0 ex) tg ga) (he:∀ cl C s0 H0 ex,SimE (Wz X (Q3e X.N tg cap) sc cl C s0 H0 ex) E0 elt me) (ht:∀ cl C s0 H0 ex,SimTs (Wz X (Q3e X.N tg cap) sc cl C s0 H0 ex) ifs mt):SimS X E (.Assign [.Name x px] (.ListComp elt [⟨tg,iter,ifs,0⟩] sc cpos) pos) (Jg i (Ua (Z9 cap ga mi mt me))):=
 Qhn cap _ i hnd hcalm hi hg he ht hf hix hx hsw rfl rfl hc.h hs hfn
end
structure AtS (K:PySem.W.Frag) (mg:Str->Option aB) (name:Str) (st:aK) (ps:List Str) (f:aA) (fd:aO):Prop where
 F:Fun K name name st f fd
 m:mg name=some (.ref f)
 b:Binds K fd ps []
theorem Quf {h:Heap} {name:Str} {st:aK} {ps:List Str} {f:aA} {oc:aB} {od an:Option aA} {osl:Array (Option aB)} {kV doc pm cdv ct:aB} (X:K.In h) (G:h.Ns aR mg)
  (a:PySem.W.nsIn K aR name=some (some (.ref f))) (l:K.lookup f=some ⟨oc,od,.func (PySem.W.fnOf name name (W6 st) (Y2 st) (Q5 st) .none kV doc pm an cdv ct),osl⟩) (c:PySem.W.codeIn K cdv name=true) (k:PySem.W.keepIn K (.ref f)=true)
  (b:∀ (kV doc pm:aB) (an:Option aA) (cdv ct:aB) (us:List aB),us.length=ps.length->bindArgs (PySem.W.fnOf name name (W6 st) (Y2 st) (Q5 st) .none kV doc pm an cdv ct) ⟨us,[]⟩=pure (ps.zip us)) :
  AtS K mg name st ps f (PySem.W.fnOf name name (W6 st) (Y2 st) (Q5 st) .none kV doc pm an cdv ct):=
 have F:=Qd0 (st:=st) l c k
 ⟨F,PySem.W.mg_of X G a,F.binds b⟩
theorem AtS.def {w:aN} {base:Heap} {name:Str} {st:aK} {k:Nat} (a:AtS K mg name st ps f fd) (hn:ps.length=n) (G:FnOk P w K mg base (CXD P w) k f fd ps (spF mg n F)):DefS P w K mg base k name n F:=
 ⟨f,fd,ps,G,a.m,a.F.kp,a.b,hn⟩
def FL (K:PySem.W.Frag) (x ql:Str) (s:aK) (f:aA):Prop:=∃ (oc:aB) (od:Option aA) (kV dc pm:aB) (an:Option aA) (cd ct:aB) (sl:Array (Option aB)),K.lookup f=some ⟨oc,od,.func (PySem.W.fnOf x ql (W6 s) (Y2 s) (Q5 s) .none kV dc pm an cd ct),sl⟩/\PySem.W.codeIn K cd ql=true/\PySem.W.keepIn K (.ref f)=true
theorem FL.fn {x:Str} (h:FL K x ql s f):∃ fd,Fun K x ql s f fd:=let ⟨_,_,_,_,_,_,_,_,_,l,c,k⟩:=h; ⟨_,Qd0 l c k⟩
def FA (K:PySem.W.Frag) (x:Str) (s:aK) (f:aA):Prop:=PySem.W.nsIn K aR x=some (some (.ref f))/\FL K x x s f
theorem FA.mk {x:Str} {od an:Option aA} {sl:Array (Option aB)} {kV dc pm cd ct:aB} (a:PySem.W.nsIn K aR x=some (some (.ref f))) (l:K.lookup f=some ⟨oc,od,.func (PySem.W.fnOf x x (W6 s) (Y2 s) (Q5 s) .none kV dc pm an cd ct),sl⟩) (c:PySem.W.codeIn K cd x=true) (k:PySem.W.keepIn K (.ref f)=true):FA K x s f:=⟨a,_,_,_,_,_,_,_,_,_,l,c,k⟩
def FM (K:PySem.W.Frag) (C:aA) (x ql:Str) (s:aK) (f:aA):Prop:=PySem.W.findIn K (.ref C) x=some (some (.ref f))/\PySem.W.isFn K (.ref f)=true/\FL K x ql s f
theorem ln1 {l:List α} (h:l.length=1):∃ a,l=[a]:=match l,h with | [_],_=>⟨_,rfl⟩
theorem ln2 {l:List α} (h:l.length=2):∃ a b,l=[a,b]:=match l,h with | [_,_],_=>⟨_,_,rfl⟩
theorem ln3 {l:List α} (h:l.length=3):∃ a b c,l=[a,b,c]:=match l,h with | [_,_,_],_=>⟨_,_,_,rfl⟩
theorem ln4 {l:List α} (h:l.length=4):∃ a b c d,l=[a,b,c,d]:=match l,h with | [_,_,_,_],_=>⟨_,_,_,_,rfl⟩
theorem ln5 {l:List α} (h:l.length=5):∃ a b c d e,l=[a,b,c,d,e]:=match l,h with | [_,_,_,_,_],_=>⟨_,_,_,_,_,rfl⟩
theorem ln6 {l:List α} (h:l.length=6):∃ a b c d e f,l=[a,b,c,d,e,f]:=match l,h with | [_,_,_,_,_,_],_=>⟨_,_,_,_,_,_,rfl⟩
theorem ln7 {l:List α} (h:l.length=7):∃ a b c d e f g,l=[a,b,c,d,e,f,g]:=match l,h with | [_,_,_,_,_,_,_],_=>⟨_,_,_,_,_,_,_,rfl⟩
theorem FL.bd {x:Str} {ps:List Str} (h:FL K x ql s f)
  (b:∀ (kV doc pm:aB) (an:Option aA) (cdv ct:aB) (us:List aB),us.length=ps.length->bindArgs (PySem.W.fnOf x ql (W6 s) (Y2 s) (Q5 s) .none kV doc pm an cdv ct) ⟨us,[]⟩=pure (ps.zip us)):∃ fd,Fun K x ql s f fd/\Binds K fd ps []:=
 let ⟨_,F⟩:=h.fn
 ⟨_,F,F.binds b⟩
theorem Yn {h:Heap} {name:Str} {st:aK} (ps:List Str) (X:K.In h) (G:h.Ns aR mg) (a:FA K name st f)
  (b:∀ (kV doc pm:aB) (an:Option aA) (cdv ct:aB) (us:List aB),us.length=ps.length->bindArgs (PySem.W.fnOf name name (W6 st) (Y2 st) (Q5 st) .none kV doc pm an cdv ct) ⟨us,[]⟩=pure (ps.zip us):=by
   intro _ _ _ _ _ _ us hl
   first | (obtain ⟨_,rfl⟩:=ln1 hl; rfl) | (obtain ⟨_,_,rfl⟩:=ln2 hl; rfl) | (obtain ⟨_,_,_,rfl⟩:=ln3 hl; rfl) | (obtain ⟨_,_,_,_,rfl⟩:=ln4 hl; rfl) | (obtain ⟨_,_,_,_,_,rfl⟩:=ln5 hl; rfl) | (obtain ⟨_,_,_,_,_,_,rfl⟩:=ln6 hl; rfl) | (obtain ⟨_,_,_,_,_,_,_,rfl⟩:=ln7 hl; rfl)):∃ fd,AtS K mg name st ps f fd:=
 let ⟨a,l⟩:=a
 let ⟨_,F,B⟩:=l.bd b
 ⟨_,F,PySem.W.mg_of X G a,B⟩
theorem FM.at {x:Str} (h:FM K C x ql s f) (ps:List Str)
  (b:∀ (kV doc pm:aB) (an:Option aA) (cdv ct:aB) (us:List aB),us.length=ps.length->bindArgs (PySem.W.fnOf x ql (W6 s) (Y2 s) (Q5 s) .none kV doc pm an cdv ct) ⟨us,[]⟩=pure (ps.zip us):=by
   intro _ _ _ _ _ _ us hl
   first | (obtain ⟨_,rfl⟩:=ln1 hl; rfl) | (obtain ⟨_,_,rfl⟩:=ln2 hl; rfl) | (obtain ⟨_,_,_,rfl⟩:=ln3 hl; rfl)):∃ fd,Fun K x ql s f fd/\Binds K fd ps []:=h.2.2.bd b
theorem FM.mk {x:Str} {od an:Option aA} {sl:Array (Option aB)} {kV dc pm cd ct:aB} (a:PySem.W.findIn K (.ref C) x=some (some (.ref f))) (e:PySem.W.isFn K (.ref f)=true) (l:K.lookup f=some ⟨oc,od,.func (PySem.W.fnOf x ql (W6 s) (Y2 s) (Q5 s) .none kV dc pm an cd ct),sl⟩) (c:PySem.W.codeIn K cd ql=true) (k:PySem.W.keepIn K (.ref f)=true):FM K C x ql s f:=⟨a,e,_,_,_,_,_,_,_,_,_,l,c,k⟩
theorem AtS.d {name:Str} {st:aK} {k:Nat} (a:AtS K mg name st ps f fd) (P:aP) (w:aN) (base:Heap) (hn:ps.length=n) (G:FnOk P w K mg base (CXD P w) k f fd ps (spF mg n F)):DefS P w K mg base k name n F:=a.def hn G
def noL (K:PySem.W.Frag):Bool:=K.all fun p=>match p.2.data with
 | .seq _ _=>(match p.2.cls with
  | .type n=>!(n == ("list" : Str))
  | _=>true)
 | _=>true
theorem Qcw (h:K.lookup a=some o):(a,o)∈K:=by
 induction K with
 | nil=>cases h
 | cons p K ih=>
  obtain ⟨b,u⟩:=p;rw [E5] at h;cases e:a == b with
  | true=>
   rw [e] at h;have:a=b:=by simpa using e
   subst this;cases h;exact D3
  | false=>
   rw [e] at h;exact O6 _ (ih h)
theorem Qt9 {its:Array aB} (hL:noL K=true) (h:K.lookup a=some o) (hc:o.cls=.type "list") (hd:o.data=.seq its n):False:=by
 have:=F0.mp hL _ (Qcw h);simp [hc,hd] at this
theorem Q7f {H:Hp} {ρ:Tk}:∀ ns:List Int,RepL H ρ (ns.map .int) (ns.map V.int)
 | []=>rfl
 | n :: ns=>⟨_,_,rfl,rfl,Q7f ns⟩
theorem Qmr (H:Hp):Rel H Tk.nil []:=⟨rfl,List.nodup_nil,fun a h=>(by cases h),fun a h=>(by cases h),fun i a c h=>(by simp [Tk.nil] at h)⟩
def Q8q (K:PySem.W.Frag):Sp:=fun vs H Q _=>∃ (a:aA) (ns:List Int),vs=[.ref a]/\SqL K H a (ns.map V.int)/\ns.length<=63/\∀ H',Q (.bl true) H'
theorem Qpd {w:aN} {base:Heap} {CX:CXT} {k:Nat} {FL:FN} (hL:noL K=true) (F:FnOk P w K mg base CX k f fd ps (spF mg 1 FL)) (hlaw:∀ ns:List Int,ns.length<=63->∃ st',FL [.fro (ns.map .int)] []=.ok (.bl true) st'):FnOk P w K mg base CX k f fd ps (Q8q K):=F.imp fun vs H Q E ⟨a,ns,e,hS,hl,hQ⟩=>by
 subst e;obtain ⟨st',hF⟩:=hlaw ns hl;have hR:Rd H a (.lst (ns.map V.int)):=by
  rcases hS with h | ⟨o,its,n,h1,h2,h3,h4,_⟩
  ·exact h
  ·exact (Qt9 hL h1 h2 h4).elim
 refine ⟨rfl,Tk.nil,[],[.fro (ns.map .int)],Qmr H,⟨_,_,rfl,⟨a,_,rfl,hR,Tk.not_nil a,Q7f ns⟩,rfl⟩,?_⟩;rw [hF];intro H' ρ' x R v r;have e:v=.bl true:=r;subst e;exact hQ H'
theorem Qk5 {w:aN} {s:aC} {e:aB} {s':aC} (h:CXD P w [] H s (fun _ _ _=>False) e s'):False:=by
 obtain ⟨_,_,_,_,_,_,_,_,_,z⟩:=h;exact z
theorem walkS {l:PySem.W.OpenLaw} {k:Nat} {q:aP} {loose:List Str} {XP:(Str->Option aB)->Heap->Prop} {YP:aN->Heap->Prop} {d:DefRec} {K:Params->PySem.W.Frag} (hn:l.most=some 63) (hr:Room k callerA) (hdf:d.params.defaults=[])
  (hY:∀ (w:aN) (h:Heap),YP w h->(K w.params).In h)
  (F:∀ (w:aN) (mg:Str->Option aB) (fa:aA) (h:Heap),(K w.params).In h->h.Ns aR mg->mg d.name=some (.ref fa) ->
   ∃ fd:aO,(∀ (s:aC) (u:aB),BindsTo s fd ⟨[u],[]⟩ [("script",u)])/\∀ base:Heap,(K w.params).In base->base.Ns aR mg->FnOk l.prog w (K w.params) mg base (CXD l.prog w) k fa fd ["script"] (Q8q (K w.params))) :
  PySem.W.WalkO q loose XP YP l.row.toRowW d [] (fun f vs=>PySem.call f vs):=
 L2.walk_of (n:=63) (k:=k) (x := "script") (CX:=fun w=>CXD l.prog w) (sp:=fun w=>Q8q (K w.params)) hn (by decide) hdf hr hY F (fun _ _ a ns hl _ hS=>⟨a,ns,rfl,hS,hl,fun _=>rfl⟩) fun _ _ _ _ _ z=>Qk5 z
end Sm
namespace Lw
open PySem PySem.Spec L2 Sm
variable {f C:aA} {fd:aO} {b a:Int} {α:Type} {n j g Lr nl L l:Nat} {tb:List (List Int)} {st S S1 S2:Q0} {hs:List Int} {ls:List Nat} {xs ps:List PV} {p v:PV} {Γ:Gam} {r:SR} {m mo:ME} {F:FN} {mr:ML} {ga:GA} {mi:MI} {c:MT}
def top (i:Nat):aK:=PySem.Challenge.pw_lendwharf_k80_whole_steps_carried_out.main.body.getD i (.Pass ⟨0,0,0,0⟩)
abbrev Q8t:aK:=top 0
abbrev Q0z:aK:=top 10
abbrev zn:aK:=top 11
abbrev Q4y:aK:=top 14
abbrev Q10:aK:=top 15
abbrev Qc4:aK:=top 16
abbrev Q11:aK:=top 17
abbrev Q4u:aK:=top 18
abbrev Wv:aK:=top 20
abbrev K6:aK:=top 21
abbrev zm:aK:=top 22
abbrev Q4x:aK:=top 23
abbrev Ww:aK:=top 26
abbrev Q2j:aK:=top 27
abbrev Wu:aK:=top 28
abbrev qb:aK:=top 29
abbrev Q4v:aK:=top 30
abbrev Qc3:aK:=top 31
abbrev xj:aK:=top 34
abbrev U4:aK:=top 35
abbrev K4:aK:=top 36
abbrev Q12:aK:=top 37
abbrev K5:aK:=top 38
abbrev Ut:aK:=top 39
abbrev jb:aK:=top 40
abbrev Uu:aK:=top 41
abbrev Ui:aK:=top 42
abbrev zq:aK:=top 43
abbrev qc:aK:=top 44
abbrev j9:aK:=top 45
abbrev j8:aK:=top 46
abbrev zk:aK:=top 47
abbrev Q2i:aK:=top 48
abbrev Q8s:aK:=top 49
abbrev Xh:aK:=X4 (top 51) 0
abbrev zy:aK:=X4 (top 51) 1
abbrev zz:aK:=X4 (top 51) 2
abbrev xm:aK:=X4 (top 51) 3
abbrev y0:aK:=X4 (top 51) 4
abbrev y3:aK:=X4 (top 51) 5
abbrev qg:aK:=X4 (top 51) 6
abbrev y4:aK:=X4 (top 51) 7
abbrev je:aK:=X4 (top 51) 8
abbrev qf:aK:=X4 (top 51) 9
abbrev zx:aK:=X4 (top 51) 10
abbrev K7:aK:=top 54
abbrev Uh:aK:=top 55
abbrev ja:aK:=top 56
abbrev K8:aK:=top 57
abbrev xk:aK:=top 58
abbrev Q4w:aK:=top 59
abbrev zu:aK:=top 61
abbrev zr:aK:=top 62
abbrev jd:aK:=top 63
abbrev qd:aK:=top 64
abbrev zw:aK:=top 65
abbrev qe:aK:=top 66
abbrev Xg:aK:=top 67
abbrev jc:aK:=top 68
abbrev Q1n:aK:=top 69
structure Txt (mg:Str->Option aB):Prop where
 b_all:mg "all" = none
 b_any:mg "any" = none
 b_bool:mg "bool" = none
 b_enumerate:mg "enumerate" = none
 b_int:mg "int" = none
 b_isinstance:mg "isinstance" = none
 b_len:mg "len" = none
 b_max:mg "max" = none
 b_min:mg "min" = none
 b_range:mg "range" = none
 b_set:mg "set" = none
 b_str:mg "str" = none
 b_sum:mg "sum" = none
 b_tuple:mg "tuple" = none
 b_zip:mg "zip" = none
 c_MOST_HOUSES:∃ t,mg "MOST_HOUSES" = some (.int 8 t)
 c_MOST_STEPS:∃ t,mg "MOST_STEPS" = some (.int 300 t)
structure ClsT (K:PySem.W.Frag) (C:aA):Prop where
 cl:Cls K C
 n_number:NoAttr K C "number"
 n_now:NoAttr K C "now"
 n_kept:NoAttr K C "kept"
def Qq1:aK->List aK
 | .ClassDef _ _ _ b _ _ _ _ _ _ _=>b
 | _=>[]
abbrev Q7e:aK:=(Qq1 (top 8)).getD 0 (.Pass ⟨0,0,0,0⟩)
structure ShortOk (K:PySem.W.Frag) (mg:Str->Option aB) (c0 cs fI:aA):Prop where
 m0:mg "WharfError" = some (.ref c0)
 ms:mg "Short" = some (.ref cs)
 M:XMade K cs c0 fI
 L:XCall K c0
 S:XSet K cs c0 "had"
structure ShortS (P:aP) (w:aN) (K:PySem.W.Frag) (mg:Str->Option aB) (base:Heap):Prop where
 ex:∃ (C W f:aA) (fd:aO),XMade K C W f/\FnOk P w K mg base CX0 1 f fd ["self", "had"] (Q4r C "had")/\Binds K fd ["self", "had"] []/\mg "Short" = some (.ref C)
local macro_rules|`(tactic|fail "m")=>do let a:=(("zj Km Q2h Qhx Q09 xi Q1m Qvi Q8p Qvh Qrd Qmg Qgc Qgb Qk0 Qjz Qi3 Qs3 Qf8 Qi1 Qhy Qs2 Qf7 Qs1 Qmn Qs0 Qf6 Qrz Qmm Qmk Qhw Qry Qrx Qrw Qrv Qvg Qhv Qf5 Qhu Qc2 Qru Qrt Qrs Qrr Qhr Qmf Qme Qf3 Qf2 Qf1 Qrq Qrp Qrk Qmb Qma Qri Q3w Qrh Qrg Qqf Qdh Qhm Qez Qrf Qdg Qdf Qab Qhj Qrc Qbw Qm7 Qm6 Qra Qm5 Qvf Qr9".splitOn " ").map λn=>Lean.mkIdent (.mkSimple n)).toArray;`(tactic|with_reducible first $[|apply $a]* | refine Qhz (T := "tuple") (o:=Kf) ?_ ?_ ?_ ?_ ?_ ?_ ?_ ?_ ?_ | apply Qi0 | apply Qhq | apply SimW.t)
local macro_rules|`(tactic|fail "o")=>do let a:=(("Qu7 Qu6 Qu5 Qu4 Qu3 Qu2 Qk6 Qsz Qsy Qnk Qwc Qwb Qwa Qj4 Qw9 Qw8 Qsx Qsw Qw7 Qj3 Qsv".splitOn " ").map λn=>Lean.mkIdent (.mkSimple n)).toArray;`(tactic|first | (with_reducible first $[|apply $a]*))
local macro_rules | `(tactic| fail "r")=>`(tactic| first | rfl | assumption | decide | exact .inl rfl | exact .inr rfl | exact .inr (.inl rfl) | exact .inr (.inr rfl) | exact fun _=>rfl | exact fun _ _=>rfl | exact fun _ _ _=>rfl | exact ⟨by kernel_rfl⟩ | exact Qci _ | exact Room.mono ‹_› (by decide) | exact Q1s | exact Qng | exact PassesOwn.leaving | exact FnScope.nd ‹_› | exact Qwr (by kernel_rfl) | exact room_u1 ‹_› | exact Room.units ‹_› | exact Qic | with_unfolding_all rfl)
local macro_rules | `(tactic| fail "s")=>`(tactic| first | (with_reducible first | exact PySem.boot_len | exact Qkn | exact Qkm | exact Qgy | exact Qkk | exact Qkj | exact Qki | exact Qkh | exact Qkg | exact Qkf | exact Qd8) | rfl | (fail "m" <;> fail "s") | (fail "o" <;> fail "r") | ((first | apply Qf0 | apply ss_compTA | apply Qhk) <;> fail "s") | fail "r" | (intro _ _ _ _ _; fail "s"))
local macro_rules | `(tactic| fail "k")=>`(tactic| (refine Q44 ‹_› ‹_› rfl rfl rfl ?_; fail "j"))
local macro_rules | `(tactic| fail "K")=>`(tactic| (refine Qbd ‹_› ‹_› rfl rfl rfl ?_; fail "j"))
local macro_rules | `(tactic| fail "j")=>`(tactic| (intros; rcases ‹Txt _› with ⟨_,_,_,_,_,_,_,_,_,_,_,_,_,_,_,⟨_,_⟩,⟨_,_⟩⟩; (try cases ‹ClsT _ _›); show SimB _ _ (_ :: _) _; fail "s"))
local macro_rules | `(tactic| fail "c")=>`(tactic| exact ⟨rfl,rfl,rfl,by decide +kernel,rfl,by decide +kernel,by decide +kernel⟩)
variable {P:aP} {K:PySem.W.Frag} {mg:Str->Option aB} {base:Heap}
section
variable {w:aN}
theorem Qs4:FnScope ["self", "had"] ["self", "had"] (Q5 Q7e):=⟨rfl,rfl,rfl,by decide +kernel,rfl,by decide +kernel,by decide +kernel⟩
theorem Qnu {c0 cs:aA} (F:Fun K "__init__" "Short.__init__" Q7e f fd) (O:ShortOk K mg c0 cs f):FnOk P w K mg base CX0 1 f fd ["self", "had"] (Q4r cs "had"):=by
 refine F.ok Qs4 (fun vs H Q E h=>?_) (fun cdv A outer s H vs Q E hr h=>?_)
 ·obtain ⟨x,v,rfl,_⟩:=h;rfl
 ·obtain ⟨x,v,rfl,hx,kk⟩:=h;refine ⟨_,Qak (Qdq (Qis O.M O.L (by rfl) O.m0 (Kn (pv 0) (Kn Qiu Q15))))
   (Q3z (Qn0 (fun b z=>absurd (show b∈([]:List aA) from z) (by simp)) O.S (pv 0) (pv 1))),?_⟩
  exact ⟨_,rfl,x,_,rfl,hx,_,rfl,_,rfl,x,rfl,hx,kk⟩
end
section
variable {w:aN}
def Qgz:MS:=Zy
def Qet:MT:=(toB (mC (.bl true)))
def Qe2:MS:=(U3 Qet Qgz 100000)
def Qa4:FN:=Qd Qe2 1
theorem Qi2:FnScope ["k"] ["k"] (Q5 Q8t):=⟨rfl,rfl,rfl,by decide +kernel,rfl,by decide +kernel,by decide +kernel⟩
theorem Qj8 (F:Fun K "_wall" "_wall" Q8t f fd) (T:Txt mg)   : FnOk P w K mg base (CXD P w) 1 f fd ["k"] (spF mg 1 Qa4):=by
 refine Q44 (k:=0) (m:=Qe2) F Qi2 rfl rfl rfl fun cdv A outer s H E hr=>?_
 exact (xi (Qab 100000 PassesOwn.leaving (Qbw Qi1) (xi Qdh)))
def Q18:MS:=(Za (Q72 (Qb4 "int" (Q2 0)) (Qth (Qb4 "bool" (Q2 0)))))
def W2:FN:=Qd Q18 1
theorem Qar (F:Fun K "is_whole" "is_whole" Q0z f fd) (T:Txt mg)   : FnOk P w K mg base (CXD P w) 1 f fd ["thing"] (spF mg 1 W2):=by
 have:FnScope ["thing"] ["thing"] (Q5 Q0z):=by fail "c"
 delta W2 Q18
 fail "k"
def yh:MS:=(Za (Q72 (Qb 1 W2 (Q1 (Q2 0) Q6)) (xz (oI fun a b=>.bl (decide (a<=b))) (oI fun a b=>.bl (decide (a<=b))) (Q2 1) (Q2 0) (Q2 2))))
def Vt:FN:=Qd yh 3
theorem Q6q (F:Fun K "is_between" "is_between" zn f fd) (T:Txt mg)  (D_is_whole:DefS P w K mg base 1 "is_whole" 1 W2):FnOk P w K mg base (CXD P w) 2 f fd ["thing", "least", "most"] (spF mg 3 Vt):=by
 have:FnScope ["thing", "least", "most"] ["thing", "least", "most"] (Q5 zn):=by fail "c"
 delta Vt yh
 fail "k"
def yt:ME:=(Q72 (Qb 1 W2 (Q1 (Q2 0) Q6)) (mOp (oI fun a b=>.bl (decide (b<=a))) (Q2 0) (mC (.int 0))))
def Q5r : MS := (Qe (Ym (Q2f (Ur (toB (Qb4 "tuple" (Q2 0)))) (toB (mOp oNe (Qq Y1 (Q1 (Q2 0) Q6)) (mOp Wb (Q2 1) (mC (.int 1)))))) (Za (mC (.bl false))) Zy)
  (Za (Qq (yu fun ns=>.bl (ns.all id)) (Q1 (Ua (Z9 [none] (Qc 0) (Kc (Q2 0)) Zd yt)) Q6))))
def zi:FN:=Qd Q5r 2
theorem Qfr (F:Fun K "is_row" "is_row" Q4y f fd) (T:Txt mg)  (D_is_whole:DefS P w K mg base 1 "is_whole" 1 W2):FnOk P w K mg base (CXD P w) 2 f fd ["thing", "n"] (spF mg 2 zi):=by
 have:FnScope ["thing", "n"] ["thing", "n"] (Q5 Q4y):=by fail "c"
 delta zi Q5r yt
 fail "k"
def Ky:ME:=(Qb 2 zi (Q1 (Q2 0) (Q1 (Qq Y1 (Q1 (Q2 1) Q6)) Q6)))
def Q19 : MS := (Qe (Ym (Q2f (Ur (toB (Qb4 "tuple" (Q2 0)))) (Ur (toB (xz (oI fun a b => .bl (decide (a <= b))) (oI fun a b => .bl (decide (a <= b))) (mC (.int 1)) (Qq Y1 (Q1 (Q2 0) Q6)) (mC (.int 8)))))) (Za (mC (.bl false))) Zy)
  (Za (Qq (yu fun ns=>.bl (ns.all id)) (Q1 (Ua (Z9 [none,some 0] (Qc 0) (Kc (Q2 0)) Zd Ky)) Q6))))
def Xt:FN:=Qd Q19 1
theorem Qas (F:Fun K "is_table" "is_table" Q10 f fd) (T:Txt mg)  (D_is_row:DefS P w K mg base 2 "is_row" 2 zi):FnOk P w K mg base (CXD P w) 3 f fd ["thing"] (spF mg 1 Xt):=by
 have:FnScope ["thing"] ["thing"] (Q5 Q10):=by fail "c"
 delta Xt Q19 Ky
 fail "k"
def Qct : MS := (Qe (Jg 1 (mOp Q0u (Xb (Q1 (mC (.int 0)) Q6)) (mOp Wb (Q2 0) (mC (.int 1)))))
  (Za (mOp Q0u (Xb (Q1 (Q2 1) Q6)) (Q2 0))))
def Q1h:FN:=Qd Qct 2
theorem Qnw (F:Fun K "bare" "bare" Qc4 f fd) (T:Txt mg)   : FnOk P w K mg base (CXD P w) 1 f fd ["n"] (spF mg 1 Q1h):=by
 have:FnScope ["n", "row"] ["n"] (Q5 Qc4):=by fail "c"
 delta Q1h Qct
 fail "k"
def Q1a:MS:=(Za (Qb 3 Vt (Q1 (Q2 1) (Q1 (mC (.int 0)) (Q1 (mOp (oI fun a b=>.int (a - b)) (Qq Y1 (Q1 (Q2 0) Q6)) (mC (.int 1))) Q6)))))
def Z7:FN:=Qd Q1a 2
theorem Qat (F:Fun K "is_house" "is_house" Q11 f fd) (T:Txt mg)  (D_is_between:DefS P w K mg base 2 "is_between" 3 Vt):FnOk P w K mg base (CXD P w) 3 f fd ["table", "thing"] (spF mg 2 Z7):=by
 have:FnScope ["table", "thing"] ["table", "thing"] (Q5 Q11):=by fail "c"
 delta Z7 Q1a
 fail "k"
def yq:ME:=(mOp oIx (Q2 0) (Q2 1))
def Q5m : MS := (Qe (Ym (Ur (toB (Qb 2 Z7 (Q1 (Q2 0) (Q1 (Q2 1) Q6))))) (X0 "NoHouse" (mC (.str "no house of this table"))) Zy)
  (Qe (Jg 2 (Qq (U2 fun ns=>some (.int ns.sum)) (Q1 (Ua (Z9 [none,some 1] (Qc 0) (Kc (Q2 0)) Zd yq)) Q6)))
  (Qe (Jg 3 (mOp oIx (Q2 0) (Q2 1)))
  (Qe (Jg 4 (mOp (oI fun a b=>.int (a - b)) (Qq (U2 fun ns=>some (.int ns.sum)) (Q1 (Q2 3) Q6)) (mOp oIx (Q2 3) (Q2 1))))
  (Za (mOp (oI fun a b=>.int (a - b)) (Q2 2) (Q2 4)))))))
def Ve:FN:=Qd Q5m 5
theorem Q7m (F:Fun K "rights" "rights" Q4u f fd) (T:Txt mg) (C_NoHouse:∃ C,mg "NoHouse" = some (.ref C)/\PySem.W.excIn K C Vr "ValueError.__new__" = true) (D_is_house:DefS P w K mg base 3 "is_house" 2 Z7):FnOk P w K mg base (CXD P w) 4 f fd ["table", "house"] (spF mg 2 Ve):=by
 obtain ⟨_,_,_⟩:=C_NoHouse;have:FnScope ["table", "house", "gained", "own", "spent"] ["table", "house"] (Q5 Q4u):=by fail "c"
 delta Ve Q5m yq
 fail "k"
def Wx:MS:=(Ym (toB (mOp oNe (Qq Y1 (Q1 (Q2 0) Q6)) (Qq Y1 (Q1 (Q2 1) Q6)))) (X0 "NoTable" (mC (.str "the tables have unlike numbers of houses"))) Zy)
def J0:FN:=Qd Wx 2
theorem yc (F:Fun K "need_as_many_houses" "need_as_many_houses" Wv f fd) (T:Txt mg) (C_NoTable:∃ C,mg "NoTable" = some (.ref C)/\PySem.W.excIn K C Vr "ValueError.__new__" = true)  : FnOk P w K mg base (CXD P w) 1 f fd ["one", "other"] (spF mg 2 J0):=by
 obtain ⟨_,_,_⟩:=C_NoTable;have:FnScope ["one", "other"] ["one", "other"] (Q5 Wv):=by fail "c"
 delta J0 Wx
 fail "k"
def V9:ME:=(mOp (oI fun a b=>.bl (decide (a<=b))) (Q2 0) (Q2 1))
def Kb:MS:=(Za (Qq (yu fun ns=>.bl (ns.all id)) (Q1 (Ua (Z9 [none,none] (Xd (Zc (Qc 0) (Zc (Qc 1) Xe))) (Qfz (Q1 (Q2 0) (Q1 (Q2 1) Q6))) Zd V9)) Q6)))
def Yv:FN:=Qd Kb 2
theorem Q2s (F:Fun K "is_row_within" "is_row_within" K6 f fd) (T:Txt mg)   : FnOk P w K mg base (CXD P w) 1 f fd ["one", "other"] (spF mg 2 Yv):=by
 have:FnScope ["one", "other"] ["one", "other"] (Q5 K6):=by fail "c"
 delta Yv Kb V9
 fail "k"
def X5:ME:=(Qq Qd7 (Q1 (Q2 0) (Q1 (Q2 1) Q6)))
def yg:MS:=(Za (Qq Kf (Q1 (Ua (Z9 [none,none] (Xd (Zc (Qc 0) (Zc (Qc 1) Xe))) (Qfz (Q1 (Q2 0) (Q1 (Q2 1) Q6))) Zd X5)) Q6)))
def Vs:FN:=Qd yg 2
theorem Q6p (F:Fun K "joined_row" "joined_row" zm f fd) (T:Txt mg)   : FnOk P w K mg base (CXD P w) 1 f fd ["one", "other"] (spF mg 2 Vs):=by
 have:FnScope ["one", "other"] ["one", "other"] (Q5 zm):=by fail "c"
 delta Vs yg X5
 fail "k"
def yr:ME:=(Qb 2 Vs (Q1 (Q2 0) (Q1 (Q2 1) Q6)))
def Q5q : MS := (Qe (Yj (Qb 2 J0 (Q1 (Q2 0) (Q1 (Q2 1) Q6))))
  (Za (Qq Kf (Q1 (Ua (Z9 [none,none] (Xd (Zc (Qc 0) (Zc (Qc 1) Xe))) (Qfz (Q1 (Q2 0) (Q1 (Q2 1) Q6))) Zd yr)) Q6))))
def K2:FN:=Qd Q5q 2
theorem Qfq (F:Fun K "joined" "joined" Q4x f fd) (T:Txt mg)  (D_need_as_many_houses:DefS P w K mg base 1 "need_as_many_houses" 2 J0) (D_joined_row:DefS P w K mg base 1 "joined_row" 2 Vs):FnOk P w K mg base (CXD P w) 2 f fd ["one", "other"] (spF mg 2 K2):=by
 have:FnScope ["one", "other"] ["one", "other"] (Q5 Q4x):=by fail "c"
 delta K2 Q5q yr
 fail "k"
def Yc:ME:=(Qb 1 W2 (Q1 (Q2 0) Q6))
def Wy : MS := (Qe (Ym (Q2f (Ur (toB (Qb4 "tuple" (Q2 0)))) (Q2f (toB (mOp oEq (Qq Y1 (Q1 (Q2 0) Q6)) (mC (.int 0)))) (Ur (toB (Qb4 "str" (mOp oIx (Q2 0) (mC (.int 0)))))))) (Za (mC (.bl false))) Zy)
  (Za (Qq (yu fun ns=>.bl (ns.all id)) (Q1 (Ua (Z9 [none] (Qc 0) (Kc (mSl (Q2 0) (Xc (mC (.int 1))) Ud)) Zd Yc)) Q6))))
def Qa:FN:=Qd Wy 1
theorem yd (F:Fun K "is_text_and_numbers" "is_text_and_numbers" Ww f fd) (T:Txt mg)  (D_is_whole:DefS P w K mg base 1 "is_whole" 1 W2):FnOk P w K mg base (CXD P w) 2 f fd ["thing"] (spF mg 1 Qa):=by
 have:FnScope ["thing"] ["thing"] (Q5 Ww):=by fail "c"
 delta Qa Wy Yc
 fail "k"
def Vj:MS:=(Za (Q72 (Qb 1 Qa (Q1 (Q2 0) Q6)) (Q72 (mOp oEq (Qq Y1 (Q1 (Q2 0) Q6)) (Qcv (mOp oIx (Q2 0) (mC (.int 0))))) (mOp (oI fun a b=>.bl (decide (b<=a))) (mOp oIx (Q2 0) (Q9a (mC (.int 1)))) (mC (.int 1))))))
def Y5:FN:=Qd Vj 1
theorem Qcf (F:Fun K "is_deed" "is_deed" Q2j f fd) (T:Txt mg) (PK:PartsOk P w K mg)  (D_is_text_and_numbers:DefS P w K mg base 2 "is_text_and_numbers" 1 Qa):FnOk P w K mg base (CXD P w) 3 f fd ["thing"] (spF mg 1 Y5):=by
 have:FnScope ["thing"] ["thing"] (Q5 Q2j):=by fail "c"
 delta Y5 Vj
 fail "k"
def Zt:ME:=(Qb 2 Z7 (Q1 (Q2 1) (Q1 (Q2 0) Q6)))
def Y3 : MS := (Qe (Jg 2 (mSl (Q2 1) (Xc (mC (.int 1))) (Xc (Q9a (mC (.int 1))))))
  (Qe (Ym (Ur (toB (Qq (yu fun ns=>.bl (ns.all id)) (Q1 (Ua (Z9 [none,some 0] (Qc 0) (Kc (Q2 2)) Zd Zt)) Q6)))) (X0 "NoHouse" (mC (.str "no house of this table"))) Zy)
  (Ym (Q1j (toB (mOp oEq (mOp oIx (Q2 1) (mC (.int 0))) (mC (.str "lend")))) (toB (mOp oEq (mOp oIx (Q2 2) (mC (.int 0))) (mOp oIx (Q2 2) (mC (.int 1)))))) (X0 "NoHouse" (mC (.str "a house lends nothing to itself"))) Zy)))
def Qk:FN:=Qd Y3 3
theorem y9 (F:Fun K "need_houses_of_deed" "need_houses_of_deed" Wu f fd) (T:Txt mg) (C_NoHouse:∃ C,mg "NoHouse" = some (.ref C)/\PySem.W.excIn K C Vr "ValueError.__new__" = true) (D_is_house:DefS P w K mg base 3 "is_house" 2 Z7):FnOk P w K mg base (CXD P w) 4 f fd ["table", "deed"] (spF mg 2 Qk):=by
 obtain ⟨_,_,_⟩:=C_NoHouse;have:FnScope ["table", "deed", "houses"] ["table", "deed"] (Q5 Wu):=by fail "c"
 delta Qk Y3 Zt
 fail "k"
def Vb : MS := (Qe (Ym (toB (mOp oEq (mOp oIx (Q2 1) (mC (.int 0))) (mC (.str "make")))) (Za (mOp oIx (Q2 1) (mC (.int 1)))) Zy)
  (Qe (Ym (toB (mOp oEq (mOp oIx (Q2 1) (mC (.int 0))) (mC (.str "lend")))) (Za (mOp oIx (Q2 1) (mC (.int 2)))) Zy)
  (Za (Qq Y1 (Q1 (Q2 0) Q6)))))
def Ya:FN:=Qd Vb 2
theorem Q3j (F:Fun K "place_in_row" "place_in_row" qb f fd) (T:Txt mg)   : FnOk P w K mg base (CXD P w) 1 f fd ["table", "deed"] (spF mg 2 Ya):=by
 have:FnScope ["table", "deed"] ["table", "deed"] (Q5 qb):=by fail "c"
 delta Ya Vb
 fail "k"
def Q5n : MS := (Qe (Jg 4 (mOp oIx (Q2 0) (Q2 1)))
  (Qe (Jg 5 (mOp Wb (mOp Wb (mSl (Q2 4) Ud (Xc (Q2 2))) (Xb (Q1 (mOp Wb (mOp oIx (Q2 4) (Q2 2)) (Q2 3)) Q6))) (mSl (Q2 4) (Xc (mOp Wb (Q2 2) (mC (.int 1)))) Ud)))
  (Za (mOp Wb (mOp Wb (mSl (Q2 0) Ud (Xc (Q2 1))) (Xb (Q1 (Q2 5) Q6))) (mSl (Q2 0) (Xc (mOp Wb (Q2 1) (mC (.int 1)))) Ud)))))
def Vf:FN:=Qd Q5n 6
theorem Qfn (F:Fun K "raised" "raised" Q4v f fd) (T:Txt mg)   : FnOk P w K mg base (CXD P w) 1 f fd ["table", "house", "place", "k"] (spF mg 4 Vf):=by
 have:FnScope ["table", "house", "place", "k", "row", "higher"] ["table", "house", "place", "k"] (Q5 Q4v):=by fail "c"
 delta Vf Q5n
 fail "k"
def Q5s : MS := (Qe (Ym (Ur (toB (Qb 1 Y5 (Q1 (Q2 1) Q6)))) (X0 "NoDeed" (mC (.str "neither a making nor a lending nor a using of one right or more"))) Zy)
  (Qe (Yj (Qb 2 Qk (Q1 (Q2 0) (Q1 (Q2 1) Q6))))
  (Qe (Jg 2 (mOp oIx (Q2 1) (mC (.int 1))))
  (Qe (Jg 3 (mOp oIx (Q2 1) (Q9a (mC (.int 1)))))
  (Qe (Ym (toB (mOp oNe (mOp oIx (Q2 1) (mC (.int 0))) (mC (.str "make")))) (Qe (Jg 4 (Qb 2 Ve (Q1 (Q2 0) (Q1 (Q2 2) Q6))))
  (Ym (toB (mOp oLt (Q2 4) (Q2 3))) (Q99 "Short" "had" (Q2 4)) Zy)) Zy)
  (Za (Qb 4 Vf (Q1 (Q2 0) (Q1 (Q2 2) (Q1 (Qb 2 Ya (Q1 (Q2 0) (Q1 (Q2 1) Q6))) (Q1 (Q2 3) Q6)))))))))))
def Kg:FN:=Qd Q5s 5
theorem Qnv (F:Fun K "done" "done" Qc3 f fd) (T:Txt mg) (O_Short:ShortS P w K mg base) (C_NoDeed:∃ C,mg "NoDeed" = some (.ref C)/\PySem.W.excIn K C Vr "ValueError.__new__" = true) (D_is_deed:DefS P w K mg base 3 "is_deed" 1 Y5) (D_need_houses_of_deed:DefS P w K mg base 4 "need_houses_of_deed" 2 Qk) (D_rights_tables:DefS P w K mg base 4 "rights_tables" 2 Ve) (D_raised:DefS P w K mg base 1 "raised" 4 Vf) (D_place_in_row:DefS P w K mg base 1 "place_in_row" 2 Ya):FnOk P w K mg base (CXD P w) 5 f fd ["table", "deed"] (spF mg 2 Kg):=by
 obtain ⟨cShort,wShort,fShort,fdShort,MShort,IShort,bShort,mShort⟩:=O_Short.ex;obtain ⟨_,_,_⟩:=C_NoDeed;have:FnScope ["table", "deed", "house", "k", "had"] ["table", "deed"] (Q5 Qc3):=by fail "c"
 delta Kg Q5s
 fail "k"
def xx:MS:=(Za (mOp (oI fun a b=>.bl (decide (b < a))) (mOp oIx (mOp oIx (Q2 0) (Q2 1)) (Q2 1)) (mC (.int 0))))
def W8:FN:=Qd xx 2
theorem Q90 (F:Fun K "made_some" "made_some" xj f fd) (T:Txt mg)   : FnOk P w K mg base (CXD P w) 1 f fd ["table", "house"] (spF mg 2 W8):=by
 have:FnScope ["table", "house"] ["table", "house"] (Q5 xj):=by fail "c"
 delta W8 xx
 fail "k"
def U6 : MS := (Qe (Jg 2 (mOp oIx (Q2 0) (Q2 1)))
  (Za (mOp (oI fun a b=>.bl (decide (b < a))) (Qq (U2 fun ns=>some (.int ns.sum)) (Q1 (Q2 2) Q6)) (mOp oIx (Q2 2) (Q2 1)))))
def Je:FN:=Qd U6 3
theorem xr (F:Fun K "lent_or_used_some" "lent_or_used_some" U4 f fd) (T:Txt mg)   : FnOk P w K mg base (CXD P w) 1 f fd ["table", "house"] (spF mg 2 Je):=by
 have:FnScope ["table", "house", "row"] ["table", "house"] (Q5 U4):=by fail "c"
 delta Je U6
 fail "k"
def V6:ME:=(mOp (oI fun a b=>.bl (decide (b < a))) (mOp oIx (mOp oIx (Q2 2) (Q2 0)) (Q2 1)) (mC (.int 0)))
def V1:MT:=(toB (mOp oNe (Q2 0) (Q2 1)))
def Ka:MS:=(Za (Qq (yu fun ns=>.bl (ns.any id)) (Q1 (Ua (Z9 [none,some 1,some 0] (Qc 0) (Kc (Q2 2)) V1 V6)) Q6)))
def Yu:FN:=Qd Ka 3
theorem Q2q (F:Fun K "was_lent_some" "was_lent_some" K4 f fd) (T:Txt mg)   : FnOk P w K mg base (CXD P w) 1 f fd ["table", "house", "lenders"] (spF mg 3 Yu):=by
 have:FnScope ["table", "house", "lenders"] ["table", "house", "lenders"] (Q5 K4):=by fail "c"
 delta Yu Ka V1 V6
 fail "k"
def yi:MS:=(Za (mOr (Qb 2 W8 (Q1 (Q2 0) (Q1 (Q2 1) Q6))) (Qb 3 Yu (Q1 (Q2 0) (Q1 (Q2 1) (Q1 (Q2 2) Q6))))))
def Wd:FN:=Qd yi 3
theorem Qau (F:Fun K "has_root" "has_root" Q12 f fd) (T:Txt mg)  (D_made_some:DefS P w K mg base 1 "made_some" 2 W8) (D_was_lent_some:DefS P w K mg base 1 "was_lent_some" 3 Yu):FnOk P w K mg base (CXD P w) 2 f fd ["table", "house", "ahead"] (spF mg 3 Wd):=by
 have:FnScope ["table", "house", "ahead"] ["table", "house", "ahead"] (Q5 Q12):=by fail "c"
 delta Wd yi
 fail "k"
def V8:ME:=(Q2 0)
def Yw:MT:=(toB (mOp (oIn true) (Q2 0) (Q2 1)))
def V7:ME:=(Q2 0)
def V3:MT:=(toB (Qb 3 Wd (Q1 (Q2 1) (Q1 (Q2 0) (Q1 (Q2 2) Q6)))))
def Yy : MS := (Qe (Jg 3 (Ua (Z9 [none, some 1] (Qc 0) (Yi (Q1 (Qq Y1 (Q1 (Q2 0) Q6)) Q6)) Yw V8)))
  (Qe (Jg 4 (Ua (Z9 [none,some 0,some 1] (Qc 0) (Kc (Q2 3)) V3 V7)))
  (Qe (Yj (mBM Wj (Q2 1) (Q1 (Q2 4) Q6)))
  (Jg 2 (mOp (oI fun a b=>.bl (decide (b < a))) (Qq Y1 (Q1 (Q2 4) Q6)) (mC (.int 0)))))))
def Zv:MT:=(toB (Q2 2))
def Wm : MS := (Qe (Jg 1 (Q1z (yy Q6)))
  (Qe (Jg 2 (mC (.bl true)))
  (Qe (U3 Zv Yy 100000)
  (Za (Q2 1)))))
def Ye:FN:=Qd Wm 5
theorem Q2r (F:Fun K "rooted_houses" "rooted_houses" K5 f fd) (T:Txt mg)  (D_has_root:DefS P w K mg base 2 "has_root" 3 Wd):FnOk P w K mg base (CXD P w) 3 f fd ["table"] (spF mg 1 Ye):=by
 have:FnScope ["table", "roots", "grows", "others", "found"] ["table"] (Q5 K5):=by fail "c"
 delta Ye Wm Zv Yy V3 V7 Yw V8
 fail "k"
def W5:ME:=(Q2 0)
def Yf:MT:=(toB (mOp (oIn true) (Q2 0) (Q2 1)))
def W4:ME:=(Qb 2 Je (Q1 (Q2 1) (Q1 (Q2 0) Q6)))
def V5 : MS := (Qe (Jg 1 (Qb 1 Ye (Q1 (Q2 0) Q6)))
  (Qe (Jg 2 (Ua (Z9 [none,some 1] (Qc 0) (Yi (Q1 (Qq Y1 (Q1 (Q2 0) Q6)) Q6)) Yf W5)))
  (Qe (Ym (toB (Qq (yu fun ns=>.bl (ns.any id)) (Q1 (Ua (Z9 [none,some 0] (Qc 0) (Kc (Q2 2)) Zd W4)) Q6))) (Za (Q2 2)) Zy)
  (Za (Q9b Q6)))))
def Jf:FN:=Qd V5 3
theorem Q16 (F:Fun K "rootless_houses" "rootless_houses" Ut f fd) (T:Txt mg)  (D_rooted_houses:DefS P w K mg base 3 "rooted_houses" 1 Ye) (D_lent_or_used_some:DefS P w K mg base 1 "lent_or_used_some" 2 Je):FnOk P w K mg base (CXD P w) 4 f fd ["table"] (spF mg 1 Jf):=by
 have:FnScope ["table", "roots", "others"] ["table"] (Q5 Ut):=by fail "c"
 delta Jf V5 W4 Yf W5
 fail "k"
def J5:MS:=(Ym (toB (mOp oLt (Qb 2 Ve (Q1 (Q2 0) (Q1 (Q2 1) Q6))) (mC (.int 0)))) (Za (Xb (Q1 (mC (.str "short")) (Q1 (Q2 1) Q6)))) Zy)
def W1 : MS := (Qe (Q1b (Qc 1) (Yi (Q1 (Qq Y1 (Q1 (Q2 0) Q6)) Q6)) J5)
  (Qe (Jg 2 (Qb 1 Jf (Q1 (Q2 0) Q6)))
  (Qe (Ym (toB (mOp (oI fun a b=>.bl (decide (b < a))) (Qq Y1 (Q1 (Q2 2) Q6)) (mC (.int 0)))) (Za (Xb (Q1 (mC (.str "rootless")) (Q1 (Q2 2) Q6)))) Zy)
  (Za (Xb (Q1 (mC (.str "comes")) (Q1 (Qb 1 Ye (Q1 (Q2 0) Q6)) Q6)))))))
def Qw:FN:=Qd W1 3
theorem Q5b (F:Fun K "comes_about" "comes_about" jb f fd) (T:Txt mg)  (D_rights_tables:DefS P w K mg base 4 "rights_tables" 2 Ve) (D_rootless_houses:DefS P w K mg base 4 "rootless_houses" 1 Jf) (D_rooted_houses:DefS P w K mg base 3 "rooted_houses" 1 Ye):FnOk P w K mg base (CXD P w) 5 f fd ["table"] (spF mg 1 Qw):=by
 have:FnScope ["table", "house", "rootless"] ["table"] (Q5 jb):=by fail "c"
 delta Qw W1 J5
 fail "k"
def Uy:MS:=(Za (Q72 (Qb 1 Xt (Q1 (Q2 0) Q6)) (mOp oEq (mOp oIx (Qb 1 Qw (Q1 (Q2 0) Q6)) (mC (.int 0))) (mC (.str "comes")))))
def Yd:FN:=Qd Uy 1
theorem Q17 (F:Fun K "does_come_about" "does_come_about" Uu f fd) (T:Txt mg)  (D_is_table:DefS P w K mg base 3 "is_table" 1 Xt) (D_comes_about:DefS P w K mg base 5 "comes_about" 1 Qw):FnOk P w K mg base (CXD P w) 6 f fd ["thing"] (spF mg 1 Yd):=by
 have:FnScope ["thing"] ["thing"] (Q5 Uu):=by fail "c"
 delta Yd Uy
 fail "k"
def Wc:MS:=(Ym (Ur (toB (Qb 1 Yd (Q1 (Q2 0) Q6)))) (X0 "NoTable" (mC (.str "no table that comes about"))) Zy)
def Qm:FN:=Qd Wc 1
theorem Q0t (F:Fun K "need_comes_about" "need_comes_about" Ui f fd) (T:Txt mg) (C_NoTable:∃ C,mg "NoTable" = some (.ref C)/\PySem.W.excIn K C Vr "ValueError.__new__" = true) (D_does_come_about:DefS P w K mg base 6 "does_come_about" 1 Yd):FnOk P w K mg base (CXD P w) 7 f fd ["thing"] (spF mg 1 Qm):=by
 obtain ⟨_,_,_⟩:=C_NoTable;have:FnScope ["thing"] ["thing"] (Q5 Ui):=by fail "c"
 delta Qm Wc
 fail "k"
def X6:ME:=(Qb 2 Z7 (Q1 (Q2 1) (Q1 (Q2 0) Q6)))
def yj:MS:=(Za (Qq (yu fun ns=>.bl (ns.all id)) (Q1 (Ua (Z9 [none,some 0] (Qc 0) (Kc (Q2 1)) Zd X6)) Q6)))
def Vu:FN:=Qd yj 2
theorem Q6r (F:Fun K "are_houses" "are_houses" zq f fd) (T:Txt mg)  (D_is_house:DefS P w K mg base 3 "is_house" 2 Z7):FnOk P w K mg base (CXD P w) 4 f fd ["table", "houses"] (spF mg 2 Vu):=by
 have:FnScope ["table", "houses"] ["table", "houses"] (Q5 zq):=by fail "c"
 delta Vu yj X6
 fail "k"
def Vq:ME:=(Q2 0)
def Vh:MT:=(toB (mOp (oIn true) (Q2 0) (Q2 1)))
def Vp:ME:=(Qb 2 Je (Q1 (Q2 1) (Q1 (Q2 0) Q6)))
def Vn:ME:=(Qb 3 Wd (Q1 (Q2 2) (Q1 (Q2 1) (Q1 (mSl (Q2 3) Ud (Xc (Q2 0))) Q6))))
def W7 : MS := (Qe (Ym (Q2f (Ur (toB (Qb 2 Vu (Q1 (Q2 0) (Q1 (Q2 1) Q6))))) (toB (mOp oNe (Q9c (Q2 1)) (Qq Y1 (Q1 (Q2 1) Q6))))) (Za (mC (.bl false))) Zy)
  (Qe (Jg 2 (Ua (Z9 [none,some 1] (Qc 0) (Yi (Q1 (Qq Y1 (Q1 (Q2 0) Q6)) Q6)) Vh Vq)))
  (Qe (Ym (toB (Qq (yu fun ns=>.bl (ns.any id)) (Q1 (Ua (Z9 [none,some 0] (Qc 0) (Kc (Q2 2)) Zd Vp)) Q6))) (Za (mC (.bl false))) Zy)
  (Za (Qq (yu fun ns=>.bl (ns.all id)) (Q1 (Ua (Z9 [none,none,some 0,some 1] (Xd (Zc (Qc 0) (Zc (Qc 1) Xe))) (Q7r (Q1 (Q2 1) Q6)) Zd Vn)) Q6))))))
def Zx:FN:=Qd W7 3
theorem Q3k (F:Fun K "is_root_list" "is_root_list" qc f fd) (T:Txt mg)  (D_are_houses:DefS P w K mg base 4 "are_houses" 2 Vu) (D_lent_or_used_some:DefS P w K mg base 1 "lent_or_used_some" 2 Je) (D_has_root:DefS P w K mg base 2 "has_root" 3 Wd):FnOk P w K mg base (CXD P w) 5 f fd ["table", "houses"] (spF mg 2 Zx):=by
 have:FnScope ["table", "houses", "idle"] ["table", "houses"] (Q5 qc):=by fail "c"
 delta Zx W7 Vn Vp Vh Vq
 fail "k"
def Ue:ME:=(Xb (Q1 (Q2 1) (Q1 (Q2 0) Q6)))
def Wg:MT:=(Q1j (toB (mOp oNe (Q2 0) (Q2 1))) (toB (mOp (oI fun a b=>.bl (decide (b < a))) (mOp oIx (Q2 2) (Q2 0)) (mC (.int 0)))))
def Yt:MS:=(Ym (toB (Qb 2 W8 (Q1 (Q2 0) (Q1 (Q2 2) Q6)))) (Yj (mBM Wj (Q2 1) (Q1 (Ua (Z9 [none,some 2,some 3] (Qc 0) (Yi (Q1 (Qq Y1 (Q1 (Q2 3) Q6)) Q6)) Wg Ue)) Q6))) Zy)
def jh : MS := (Qe (Jg 1 (Q1z (yy Q6)))
  (Qe (Q1b (Xd (Zc (Qc 2) (Zc (Qc 3) Xe))) (Q7r (Q1 (Q2 0) Q6)) Yt)
  (Za (Q2 1))))
def Wr:FN:=Qd jh 4
theorem Q59 (F:Fun K "open_places" "open_places" j9 f fd) (T:Txt mg)  (D_made_some:DefS P w K mg base 1 "made_some" 2 W8):FnOk P w K mg base (CXD P w) 2 f fd ["rest"] (spF mg 1 Wr):=by
 have:FnScope ["rest", "places", "house", "row"] ["rest"] (Q5 j9):=by fail "c"
 delta Wr jh Yt Wg Ue
 fail "k"
def Xw : MS := (Qe (Jg 3 (Qb 4 Vf (Q1 (Qb 4 Vf (Q1 (Q2 0) (Q1 (Q2 1) (Q1 (Q2 1) (Q1 (Q9a (mC (.int 1))) Q6))))) (Q1 (Q2 1) (Q1 (Q2 2) (Q1 (Q9a (mC (.int 1))) Q6))))))
  (Qe (Ym (toB (mOp oEq (Q2 2) (Qq Y1 (Q1 (Q2 0) Q6)))) (Za (Q2 3)) Zy)
  (Za (Qb 4 Vf (Q1 (Q2 3) (Q1 (Q2 2) (Q1 (Q2 2) (Q1 (mC (.int 1)) Q6))))))))
def Y9:FN:=Qd Xw 4
theorem Q58 (F:Fun K "rest_behind" "rest_behind" j8 f fd) (T:Txt mg)  (D_raised:DefS P w K mg base 1 "raised" 4 Vf):FnOk P w K mg base (CXD P w) 2 f fd ["rest", "house", "place"] (spF mg 3 Y9):=by
 have:FnScope ["rest", "house", "place", "behind"] ["rest", "house", "place"] (Q5 j8):=by fail "c"
 delta Y9 Xw
 fail "k"
def Vc:MS:=(Ym (toB (mOp oEq (Qq Y1 (Q1 (Qb 1 Jf (Q1 (Qb 3 Y9 (Q1 (Q2 0) (Q1 (Q2 1) (Q1 (Q2 2) Q6)))) Q6)) Q6)) (mC (.int 0)))) (Za (Xb (Q1 (Q2 1) (Q1 (Q2 2) Q6)))) Zy)
def Kp : MS := (Qe (Q1b (Xd (Zc (Qc 1) (Zc (Qc 2) Xe))) (Kc (Qb 1 Wr (Q1 (Q2 0) Q6))) Vc)
  (Za (mC .non)))
def Yz:FN:=Qd Kp 3
theorem Q6n (F:Fun K "next_place" "next_place" zk f fd) (T:Txt mg)  (D_open_places:DefS P w K mg base 2 "open_places" 1 Wr) (D_rootless_houses:DefS P w K mg base 4 "rootless_houses" 1 Jf) (D_rest_behind:DefS P w K mg base 2 "rest_behind" 3 Y9):FnOk P w K mg base (CXD P w) 5 f fd ["rest"] (spF mg 1 Yz):=by
 have:FnScope ["rest", "house", "place"] ["rest"] (Q5 zk):=by fail "c"
 delta Yz Kp Vc
 fail "k"
def Q0f : MS := (Qe (Ym (toB (mOp oEq (Q2 2) (Qq Y1 (Q1 (Q2 0) Q6)))) (Za (Xb (Q1 (mC (.str "use")) (Q1 (Q2 1) (Q1 (mC (.int 1)) Q6))))) Zy)
  (Za (Xb (Q1 (mC (.str "lend")) (Q1 (Q2 1) (Q1 (Q2 2) (Q1 (mC (.int 1)) Q6)))))))
def Xs:FN:=Qd Q0f 3
theorem Qce (F:Fun K "step_at" "step_at" Q2i f fd) (T:Txt mg)   : FnOk P w K mg base (CXD P w) 1 f fd ["rest", "house", "place"] (spF mg 3 Xs):=by
 have:FnScope ["rest", "house", "place"] ["rest", "house", "place"] (Q5 Q2i):=by fail "c"
 delta Xs Q0f
 fail "k"
def Q37:ME:=(Qq (U2 fun ns=>some (.int ns.sum)) (Q1 (Q2 0) Q6))
def zh:MS:=(Yj (mBM Wj (Q2 1) (Q1 (mOp Q0u (Q9b (Q1 (Xb (Q1 (mC (.str "make")) (Q1 (Q2 2) (Q1 (mC (.int 1)) Q6)))) Q6)) (mOp oIx (Q2 3) (Q2 2))) Q6)))
def zg : MS := (Qe (Yj (mBM Wk (Q2 1) (Q1 (Qb 3 Xs (Q1 (Q2 4) (Q1 (mOp oIx (Q2 5) (mC (.int 0))) (Q1 (mOp oIx (Q2 5) (mC (.int 1))) Q6)))) Q6)))
  (Qe (Jg 4 (Qb 3 Y9 (Q1 (Q2 4) (Q1 (mOp oIx (Q2 5) (mC (.int 0))) (Q1 (mOp oIx (Q2 5) (mC (.int 1))) Q6)))))
  (Jg 5 (Qb 1 Yz (Q1 (Q2 4) Q6)))))
def Xf:MT:=(toB (mOp Q2w (Q2 5) (mC .non)))
def Q42 : MS := (Qe (Yj (Qb 1 Qm (Q1 (Q2 0) Q6)))
  (Qe (Ym (toB (mOp (oI fun a b=>.bl (decide (b < a))) (Qq (U2 fun ns=>some (.int ns.sum)) (Q1 (Ua (Z9 [none] (Qc 0) (Kc (Q2 0)) Zd Q37)) Q6)) (mC (.int 300)))) (X0 "TooMany" (mC (.str "more steps than are told"))) Zy)
  (Qe (Jg 1 (Q1z (yy Q6)))
  (Qe (Q1b (Xd (Zc (Qc 2) (Zc (Qc 3) Xe))) (Q7r (Q1 (Q2 0) Q6)) zh)
  (Qe (Jg 4 (Q2 0))
  (Qe (Jg 5 (Qb 1 Yz (Q1 (Q2 4) Q6)))
  (Qe (U3 Xf zg 100000)
  (Za (Q2 1)))))))))
def Ug:FN:=Zz Q42 6
theorem Qj7 (F:Fun K "steps" "steps" Q8s f fd) (T:Txt mg) (C_TooMany:∃ C,mg "TooMany" = some (.ref C)/\PySem.W.excIn K C Vr "ValueError.__new__" = true) (D_need_comes_about:DefS P w K mg base 7 "need_comes_about" 1 Qm) (D_next_place:DefS P w K mg base 5 "next_place" 1 Yz) (D_step_at:DefS P w K mg base 1 "step_at" 3 Xs) (D_rest_behind:DefS P w K mg base 2 "rest_behind" 3 Y9):FnOk P w K mg base (CXD P w) 8 f fd ["table"] (spF mg 1 Ug):=by
 obtain ⟨_,_,_⟩:=C_TooMany;have:FnScope ["table", "told", "house", "row", "rest", "at"] ["table"] (Q5 Q8s):=by fail "c"
 delta Ug Q42 Xf zg zh Q37
 fail "K"
def Xk (C : aA) : MS := (Qe (Yj (Qb 1 Qm (Q1 (Q2 2) Q6)))
  (Qe (Ym (Ur (toB (Qb 2 Z7 (Q1 (Q2 2) (Q1 (Q2 1) Q6))))) (X0 "NoHouse" (mC (.str "no house of this table"))) Zy)
  (Qe (jv C "number" (Q2 0) (Q2 1))
  (Qe (jv C "now" (Q2 0) (Q2 2))
  (jv C "kept" (Q2 0) (Q2 2))))))
def Y6 (C:aA):FN:=Zz (Xk C) 3
theorem Q1u (F:Fun K "__init__" "House.__init__" Xh f fd) (T:Txt mg) (TC:ClsT K C) (C_NoHouse:∃ C,mg "NoHouse" = some (.ref C)/\PySem.W.excIn K C Vr "ValueError.__new__" = true) (D_need_comes_about:DefS P w K mg base 7 "need_comes_about" 1 Qm) (D_is_house:DefS P w K mg base 3 "is_house" 2 Z7):FnOk P w K mg base (CXD P w) 8 f fd ["self", "number", "table"] (spF mg 3 (Y6 C)):=by
 obtain ⟨_,_,_⟩:=C_NoHouse;have:FnScope ["self", "number", "table"] ["self", "number", "table"] (Q5 Xh):=by fail "c"
 delta Y6 Xk
 fail "K"
def Ks (C:aA):MS:=(jv C "now" (Q2 0) (Qb 2 Kg (Q1 (Vk C "now" (Q2 0)) (Q1 (Xb (Q1 (mC (.str "make")) (Q1 (Vk C "number" (Q2 0)) (Q1 (Q2 1) Q6)))) Q6))))
def Vw (C:aA):FN:=Zz (Ks C) 2
theorem Q6w (F:Fun K "make" "House.make" zy f fd) (T:Txt mg) (TC:ClsT K C)  (D_done:DefS P w K mg base 5 "done" 2 Kg):FnOk P w K mg base (CXD P w) 6 f fd ["self", "k"] (spF mg 2 (Vw C)):=by
 have:FnScope ["self", "k"] ["self", "k"] (Q5 zy):=by fail "c"
 delta Vw Ks
 fail "K"
def Kt (C:aA):MS:=(jv C "now" (Q2 0) (Qb 2 Kg (Q1 (Vk C "now" (Q2 0)) (Q1 (Xb (Q1 (mC (.str "lend")) (Q1 (Vk C "number" (Q2 0)) (Q1 (Q2 1) (Q1 (Q2 2) Q6))))) Q6))))
def Vx (C:aA):FN:=Zz (Kt C) 3
theorem Q6x (F:Fun K "lend" "House.lend" zz f fd) (T:Txt mg) (TC:ClsT K C)  (D_done:DefS P w K mg base 5 "done" 2 Kg):FnOk P w K mg base (CXD P w) 6 f fd ["self", "to", "k"] (spF mg 3 (Vx C)):=by
 have:FnScope ["self", "to", "k"] ["self", "to", "k"] (Q5 zz):=by fail "c"
 delta Vx Kt
 fail "K"
def qy (C:aA):MS:=(jv C "now" (Q2 0) (Qb 2 Kg (Q1 (Vk C "now" (Q2 0)) (Q1 (Xb (Q1 (mC (.str "use")) (Q1 (Vk C "number" (Q2 0)) (Q1 (Q2 1) Q6)))) Q6))))
def Um (C:aA):FN:=Zz (qy C) 2
theorem Q92 (F:Fun K "use" "House.use" xm f fd) (T:Txt mg) (TC:ClsT K C)  (D_done:DefS P w K mg base 5 "done" 2 Kg):FnOk P w K mg base (CXD P w) 6 f fd ["self", "k"] (spF mg 2 (Um C)):=by
 have:FnScope ["self", "k"] ["self", "k"] (Q5 xm):=by fail "c"
 delta Um qy
 fail "K"
def Ku (C:aA):MS:=(jv C "kept" (Q2 0) (Vk C "now" (Q2 0)))
def Vy (C:aA):FN:=Zz (Ku C) 1
theorem Q6y (F:Fun K "keep" "House.keep" y0 f fd) (T:Txt mg) (TC:ClsT K C)   : FnOk P w K mg base (CXD P w) 1 f fd ["self"] (spF mg 1 (Vy C)):=by
 have:FnScope ["self"] ["self"] (Q5 y0):=by fail "c"
 delta Vy Ku
 fail "K"
def Kv (C:aA):MS:=(jv C "now" (Q2 0) (Vk C "kept" (Q2 0)))
def Vz (C:aA):FN:=Zz (Kv C) 1
theorem Q6z (F:Fun K "fall" "House.fall" y3 f fd) (T:Txt mg) (TC:ClsT K C)   : FnOk P w K mg base (CXD P w) 1 f fd ["self"] (spF mg 1 (Vz C)):=by
 have:FnScope ["self"] ["self"] (Q5 y3):=by fail "c"
 delta Vz Kv
 fail "K"
def Uz (C:aA):MS:=(Za (Vk C "kept" (Q2 0)))
def Yq (C:aA):FN:=Qd (Uz C) 1
theorem Q3q (F:Fun K "letter" "House.letter" qg f fd) (T:Txt mg) (TC:ClsT K C)   : FnOk P w K mg base (CXD P w) 1 f fd ["self"] (spF mg 1 (Yq C)):=by
 have:FnScope ["self"] ["self"] (Q5 qg):=by fail "c"
 delta Yq Uz
 fail "k"
def Kw (C : aA) : MS := (Qe (Yj (Qb 2 J0 (Q1 (Vk C "now" (Q2 0)) (Q1 (Q2 1) Q6))))
  (Qe (Ym (Ur (toB (Qb 2 Yv (Q1 (mOp oIx (Q2 1) (Vk C "number" (Q2 0))) (Q1 (mOp oIx (Vk C "now" (Q2 0)) (Vk C "number" (Q2 0))) Q6))))) (X0 "NoLetter" (mC (.str "it tells more of this house than the house did"))) Zy)
  (jv C "now" (Q2 0) (Qb 2 K2 (Q1 (Vk C "now" (Q2 0)) (Q1 (Q2 1) Q6))))))
def U0 (C:aA):FN:=Zz (Kw C) 2
theorem Q70 (F:Fun K "come" "House.come" y4 f fd) (T:Txt mg) (TC:ClsT K C) (C_NoLetter:∃ C,mg "NoLetter" = some (.ref C)/\PySem.W.excIn K C Vr "ValueError.__new__" = true) (D_need_as_many_houses:DefS P w K mg base 1 "need_as_many_houses" 2 J0) (D_is_row_within:DefS P w K mg base 1 "is_row_within" 2 Yv) (D_joined:DefS P w K mg base 2 "joined" 2 K2):FnOk P w K mg base (CXD P w) 3 f fd ["self", "table"] (spF mg 2 (U0 C)):=by
 obtain ⟨_,_,_⟩:=C_NoLetter;have:FnScope ["self", "table"] ["self", "table"] (Q5 y4):=by fail "c"
 delta U0 Kw
 fail "K"
def Xx (C:aA):MS:=(Za (Vk C "now" (Q2 0)))
def Ws (C:aA):FN:=Qd (Xx C) 1
theorem Q5e (F:Fun K "table" "House.table" je f fd) (T:Txt mg) (TC:ClsT K C)   : FnOk P w K mg base (CXD P w) 1 f fd ["self"] (spF mg 1 (Ws C)):=by
 have:FnScope ["self"] ["self"] (Q5 je):=by fail "c"
 delta Ws Xx
 fail "k"
def xy (C:aA):MS:=(Za (Qb 2 Ve (Q1 (Vk C "now" (Q2 0)) (Q1 (Vk C "number" (Q2 0)) Q6))))
def qu (C:aA):FN:=Qd (xy C) 1
theorem Q3p (F:Fun K "rights" "House.rights" qf f fd) (T:Txt mg) (TC:ClsT K C)  (D_rights_tables:DefS P w K mg base 4 "rights_tables" 2 Ve):FnOk P w K mg base (CXD P w) 5 f fd ["self"] (spF mg 1 (qu C)):=by
 have:FnScope ["self"] ["self"] (Q5 qf):=by fail "c"
 delta qu xy
 fail "k"
def Q1y (C:aA):MS:=(Yj (Qb 1 Qa4 (Q1 (mC (.int 0)) Q6)))
def Q2e (C:aA):FN:=Qd (Q1y C) 1
theorem Q6j:FnScope ["self"] ["self"] (Q5 zx):=⟨rfl,rfl,rfl,by decide +kernel,rfl,by decide +kernel,by decide +kernel⟩
theorem Q6v (F:Fun K "used" "House.used" zx f fd) (T:Txt mg) (TC:ClsT K C)  (D__wall:DefS P w K mg base 1 "_wall" 1 Qa4):FnOk P w K mg base (CXD P w) 2 f fd ["self"] (spF mg 1 (Q2e C)):=by
 refine Q44 (k:=1) (m:=(Q1y C)) F Q6j rfl rfl rfl fun cdv A outer s H E hr=>?_
 exact (xi (Q3w (Q1m D__wall (hr.mono (by decide)) Q1s rfl (Km Qhx Q2h))))
def Zf:MS:=(Za (Q72 (Qb 1 Qa (Q1 (Q2 0) Q6)) (mOp oEq (Qq Y1 (Q1 (Q2 0) Q6)) (Kx (mOp oIx (Q2 0) (mC (.int 0)))))))
def Qn:FN:=Qd Zf 1
theorem Q2t (F:Fun K "is_other_deed" "is_other_deed" K7 f fd) (T:Txt mg) (PO:PartsO P w K mg)  (D_is_text_and_numbers:DefS P w K mg base 2 "is_text_and_numbers" 1 Qa):FnOk P w K mg base (CXD P w) 3 f fd ["thing"] (spF mg 1 Qn):=by
 have:FnScope ["thing"] ["thing"] (Q5 K7):=by fail "c"
 delta Qn Zf
 fail "k"
def Zs:MS:=(Ym (toB (Qb 1 Y5 (Q1 (Q2 2) Q6))) (Yj (Qb 2 Qk (Q1 (Q2 0) (Q1 (Q2 2) Q6)))) (Ym (Ur (toB (Qb 1 Qn (Q1 (Q2 2) Q6)))) (X0 "NoDeed" (mC (.str "a deed of no kind that runs have"))) (Ym (Ur (toB (Qb 2 Z7 (Q1 (Q2 0) (Q1 (mOp oIx (Q2 2) (Q9a (mC (.int 1)))) Q6))))) (X0 "NoHouse" (mC (.str "no house of this run"))) (Ym (Q1j (toB (mOp oEq (mOp oIx (Q2 2) (mC (.int 0))) (mC (.str "come")))) (Ur (toB (xz (oI fun a b=>.bl (decide (a<=b))) oLt (mC (.int 0)) (mOp oIx (Q2 2) (mC (.int 1))) (Qq Y1 (Q1 (Q2 1) Q6)))))) (X0 "NoLetter" (mC (.str "no letter of this number is put by so far"))) Zy))))
def Qt:FN:=Qd Zs 3
theorem Q0s (F:Fun K "need_deed_of_run" "need_deed_of_run" Uh f fd) (T:Txt mg) (C_NoDeed:∃ C,mg "NoDeed" = some (.ref C)/\PySem.W.excIn K C Vr "ValueError.__new__" = true) (C_NoHouse:∃ C,mg "NoHouse" = some (.ref C)/\PySem.W.excIn K C Vr "ValueError.__new__" = true) (C_NoLetter:∃ C,mg "NoLetter" = some (.ref C)/\PySem.W.excIn K C Vr "ValueError.__new__" = true) (D_is_deed:DefS P w K mg base 3 "is_deed" 1 Y5) (D_need_houses_of_deed:DefS P w K mg base 4 "need_houses_of_deed" 2 Qk) (D_is_other_deed:DefS P w K mg base 3 "is_other_deed" 1 Qn) (D_is_house:DefS P w K mg base 3 "is_house" 2 Z7):FnOk P w K mg base (CXD P w) 5 f fd ["table", "letters", "deed"] (spF mg 3 Qt):=by
 obtain ⟨_,_,_⟩:=C_NoDeed;obtain ⟨_,_,_⟩:=C_NoHouse;obtain ⟨_,_,_⟩:=C_NoLetter;have:FnScope ["table", "letters", "deed"] ["table", "letters", "deed"] (Q5 Uh):=by fail "c"
 delta Qt Zs
 fail "k"
def ji (C : aA) : MS := (Qe (Jg 2 (mOp oIx (Q2 0) (mOp oIx (Q2 1) (mC (.int 1)))))
  (Ym (toB (mOp oEq (mOp oIx (Q2 1) (mC (.int 0))) (mC (.str "make")))) (Yj (jw C "make" 2 (Vw C) (Q2 2) (Q1 (mOp oIx (Q2 1) (mC (.int 2))) Q6))) (Ym (toB (mOp oEq (mOp oIx (Q2 1) (mC (.int 0))) (mC (.str "lend")))) (Yj (jw C "lend" 3 (Vx C) (Q2 2) (Q1 (mOp oIx (Q2 1) (mC (.int 2))) (Q1 (mOp oIx (Q2 1) (mC (.int 3))) Q6)))) (Yj (jw C "use" 2 (Um C) (Q2 2) (Q1 (mOp oIx (Q2 1) (mC (.int 2))) Q6))))))
def Yk (C:aA):FN:=Zz (ji C) 3
theorem Q5a (F:Fun K "do_own_deed" "do_own_deed" ja f fd) (T:Txt mg) (TC:ClsT K C)   (D_House_make:MethS P w K mg base 6 C "make" 2 (Vw C)) (D_House_lend:MethS P w K mg base 6 C "lend" 3 (Vx C)) (D_House_use:MethS P w K mg base 6 C "use" 2 (Um C)):FnOk P w K mg base (CXD P w) 7 f fd ["houses", "deed"] (spF mg 2 (Yk C)):=by
 have:FnScope ["houses", "deed", "house"] ["houses", "deed"] (Q5 ja):=by fail "c"
 delta Yk ji
 fail "K"
def Ys (C : aA) : MS := (Qe (Jg 3 (mOp oIx (Q2 0) (mOp oIx (Q2 2) (Q9a (mC (.int 1))))))
  (Ym (toB (mOp oEq (mOp oIx (Q2 2) (mC (.int 0))) (mC (.str "keep")))) (Yj (jw C "keep" 1 (Vy C) (Q2 3) Q6)) (Ym (toB (mOp oEq (mOp oIx (Q2 2) (mC (.int 0))) (mC (.str "fall")))) (Yj (jw C "fall" 1 (Vz C) (Q2 3) Q6)) (Ym (toB (mOp oEq (mOp oIx (Q2 2) (mC (.int 0))) (mC (.str "send")))) (Yj (mBM Wk (Q2 1) (Q1 (jw C "letter" 1 (Yq C) (Q2 3) Q6) Q6))) (Yj (jw C "come" 2 (U0 C) (Q2 3) (Q1 (mOp oIx (Q2 1) (mOp oIx (Q2 2) (mC (.int 1)))) Q6)))))))
def Wq (C:aA):FN:=Zz (Ys C) 4
theorem Q2u (F:Fun K "do_other_deed" "do_other_deed" K8 f fd) (T:Txt mg) (TC:ClsT K C)   (D_House_keep:MethS P w K mg base 1 C "keep" 1 (Vy C)) (D_House_fall:MethS P w K mg base 1 C "fall" 1 (Vz C)) (D_House_letter:MethS P w K mg base 1 C "letter" 1 (Yq C)) (D_House_come:MethS P w K mg base 3 C "come" 2 (U0 C)):FnOk P w K mg base (CXD P w) 4 f fd ["houses", "letters", "deed"] (spF mg 3 (Wq C)):=by
 have:FnScope ["houses", "letters", "deed", "house"] ["houses", "letters", "deed"] (Q5 K8):=by fail "c"
 delta Wq Ys
 fail "K"
def K1 (C : aA) : MS := (Qe (Ym (toB (Qb 1 Qn (Q1 (Q2 2) Q6))) (Qe (Yj (Qb 3 (Wq C) (Q1 (Q2 0) (Q1 (Q2 1) (Q1 (Q2 2) Q6)))))
  (Za (mC (.str "done")))) Zy)
  (Qe (Qb0 "Short" "had" 3 2 (Yk C) (Q1 (Q2 0) (Q1 (Q2 2) Q6)))
  (Za (mC (.str "done")))))
def j7 (C:aA):FN:=Zz (K1 C) 4
theorem sc_answer_to:FnScope ["houses", "letters", "deed", "refusal"] ["houses", "letters", "deed"] (Q5 xk):=⟨rfl,rfl,rfl,by decide +kernel,rfl,by decide +kernel,by decide +kernel⟩
theorem Q91 (F:Fun K "answer_to" "answer_to" xk f fd) (T:Txt mg) (TC:ClsT K C) (Sx:∃ C,mg "Short" = some (.ref C)/\PySem.W.exmOne K (.ref C) (.ref C)=some true/\XGet K C "had")  (D_is_other_deed:DefS P w K mg base 3 "is_other_deed" 1 Qn) (D_do_other_deed:DefS P w K mg base 4 "do_other_deed" 3 (Wq C)) (D_do_own_deed:DefS P w K mg base 7 "do_own_deed" 2 (Yk C)):FnOk P w K mg base (CXD P w) 8 f fd ["houses", "letters", "deed"] (spF mg 3 (j7 C)):=by
 obtain ⟨cS,mS,xS,gS⟩:=Sx;refine Qbd (k:=7) (m:=(K1 C)) F sc_answer_to rfl rfl rfl fun cdv A outer s H E hr=>?_
 exact (Q09 (Qqf (Qbw (Q1m D_is_other_deed (hr.mono (by decide)) Q1s rfl (Km (zj 2) Q2h))) (Q09 (Q3w (Q1m D_do_other_deed (hr.mono (by decide)) Q1s rfl (Km (zj 0) (Km (zj 1) (Km (zj 2) Q2h)))))
  (xi (Q8p Qc2))) Qi3)
  (Q09 (Qdf D_do_own_deed (hr.mono (by decide)) (Km (zj 0) (Km (zj 2) Q2h)) sc_answer_to.nd mS xS gS)
  (xi (Q8p Qc2))))
def qt (C:aA):ME:=(Qqs C 3 (Y6 C) (Q1 (Q2 0) (Q1 (Q2 1) Q6)))
def yw (C : aA) : MS := (Qe (Yj (Qb 3 Qt (Q1 (Q2 0) (Q1 (Q2 3) (Q1 (Q2 5) Q6)))))
  (Yj (mBM Wk (Q2 4) (Q1 (Qb 3 (j7 C) (Q1 (Q2 2) (Q1 (Q2 3) (Q1 (Q2 5) Q6)))) Q6))))
def Q1g (C:aA):ME:=(jw C "table" 1 (Ws C) (Q2 0) Q6)
def Q5p (C : aA) : MS := (Qe (Yj (Qb 1 Qm (Q1 (Q2 0) Q6)))
  (Qe (Jg 2 (Ua (Z9 [none,some 0] (Qc 0) (Yi (Q1 (Qq Y1 (Q1 (Q2 0) Q6)) Q6)) Zd (qt C))))
  (Qe (Jg 3 (Q1z (yy Q6)))
  (Qe (Jg 4 (Q1z (yy Q6)))
  (Qe (Q1b (Qc 5) (Kc (Q2 1)) (yw C))
  (Za (Xb (Q1 (Q2 4) (Q1 (Q1z (Z9 [none] (Qc 0) (Kc (Q2 2)) Zd (Q1g C))) Q6)))))))))
def Q07 (C:aA):FN:=Zz (Q5p C) 6
theorem Qfp (F:Fun K "played" "played" Q4w f fd) (T:Txt mg) (TC:ClsT K C)  (D_need_comes_about:DefS P w K mg base 7 "need_comes_about" 1 Qm) (D_need_deed_of_run:DefS P w K mg base 5 "need_deed_of_run" 3 Qt) (D_answer_to:DefS P w K mg base 8 "answer_to" 3 (j7 C)) (M_House:MakeS P w K mg base 8 C "House" 3 (Y6 C)) (D_House_table:MethS P w K mg base 1 C "table" 1 (Ws C)):FnOk P w K mg base (CXD P w) 10 f fd ["table", "deeds"] (spF mg 2 (Q07 C)):=by
 have:FnScope ["table", "deeds", "houses", "letters", "answers", "deed"] ["table", "deeds"] (Q5 Q4w):=by fail "c"
 delta Q07 Q5p Q1g yw qt
 fail "K"
def Kr : MS := (Qe (Ym (toB (mOp oLt (Q2 1) (Qq Y1 (Q1 (Q2 0) Q6)))) (Za (mOp oIx (Q2 0) (Q2 1))) Zy)
  (Za (mC (.int 0))))
def Wf:FN:=Qd Kr 2
theorem Q6t (F:Fun K "_law_acell" "_law_acell" zu f fd) (T:Txt mg)   : FnOk P w K mg base (CXD P w) 1 f fd ["script", "k"] (spF mg 2 Wf):=by
 have:FnScope ["script", "k"] ["script", "k"] (Q5 zu):=by fail "c"
 delta Wf Kr
 fail "k"
def X9 : MS := (Qe (Jg 4 (mOp Wb (mOp Q0u (Q2 4) (Q2 3)) (Q2 5)))
  (Jg 5 (mOp Q5g (mOp Wb (mOp Wb (mOp Q0u (Q2 5) (Q2 5)) (mOp Q0u (mC (.int 40692)) (Q2 1))) (Q2 6)) (Q2 3))))
def Kq : MS := (Qe (Jg 2 (Qb 2 Wf (Q1 (Q2 0) (Q1 (Q2 1) Q6))))
  (Qe (Ym (toB (mOp oEq (mOp Q5g (Q2 2) (mC (.int 2))) (mC (.int 0)))) (Za (Q1z (yy (Q1 (mOp Qny (Q2 2) (mC (.int 2))) Q6)))) Zy)
  (Qe (Jg 3 (mC (.int 2305843009213693951)))
  (Qe (Jg 4 (mC (.int 0)))
  (Qe (Jg 5 (mOp Q5g (mOp Wb (mOp Wb (mOp Q0u (mOp Q5g (Q2 2) (Q2 3)) (mC (.int 48271))) (mOp Q0u (mC (.int 69621)) (Q2 1))) (mC (.int 11))) (Q2 3)))
  (Qe (Q1b (Qc 6) (Yi (Q1 (mC (.int 5)) Q6)) X9)
  (Za (Q1z (yy (Q1 (Q2 4) Q6))))))))))
def We:FN:=Zz Kq 7
theorem Q6s (F:Fun K "_law_atape" "_law_atape" zr f fd) (T:Txt mg)  (D__law_acell:DefS P w K mg base 1 "_law_acell" 2 Wf):FnOk P w K mg base (CXD P w) 2 f fd ["script", "k"] (spF mg 2 We):=by
 have:FnScope ["script", "k", "cell", "p", "number", "last", "turn"] ["script", "k"] (Q5 zr):=by fail "c"
 delta We Kq X9
 fail "K"
def jk : MS := (Qe (Jg 2 (mOp Q5g (mOp oIx (Q2 0) (mC (.int 0))) (Q2 1)))
  (Qe (Q98 (Q2 0) (mC (.int 0)) (mOp Qdw (mOp oIx (Q2 0) (mC (.int 0))) (Q2 1)))
  (Za (Q2 2))))
def Qg:FN:=Qd jk 3
theorem Q5d (F:Fun K "_law_adigit" "_law_adigit" jd f fd) (T:Txt mg)   : FnOk P w K mg base (CXD P w) 1 f fd ["tape", "many"] (spF mg 2 Qg):=by
 have:FnScope ["tape", "many", "found"] ["tape", "many"] (Q5 jd):=by fail "c"
 delta Qg jk
 fail "k"
def Xp:ME:=(mOp oIx (mOp oIx (Q2 2) (Q2 0)) (Q2 1))
def Xn:ME:=(Q2 0)
def qi : MS := (Qe (Jg 2 (Qq (U2 fun ns => some (.int ns.sum)) (Q1 (Ua (Z9 [none, some 1, some 0] (Qc 0) (Yi (Q1 (Qq Y1 (Q1 (Q2 0) Q6)) Q6)) Zd Xp)) Q6)))
  (Za (mOp Wb (mOp (oI fun a b=>.int (a - b)) (Q2 2) (Qq (U2 fun ns=>some (.int ns.sum)) (Q1 (Ua (Z9 [none] (Qc 0) (Kc (mOp oIx (Q2 0) (Q2 1))) Zd Xn)) Q6))) (mOp oIx (mOp oIx (Q2 0) (Q2 1)) (Q2 1)))))
def Yb:FN:=Qd qi 3
theorem Q3m (F:Fun K "_law_arights" "_law_arights" qd f fd) (T:Txt mg)   : FnOk P w K mg base (CXD P w) 1 f fd ["table", "i"] (spF mg 2 Yb):=by
 have:FnScope ["table", "i", "lent"] ["table", "i"] (Q5 qd):=by fail "c"
 delta Yb qi Xn Xp
 fail "k"
def X7:ME:=(Qq Kf (Q1 (mOp Q0u (Q9b (Q1 (mC (.int 0)) Q6)) (mOp Wb (Q2 1) (mC (.int 1)))) Q6))
def yk:MS:=(Za (Qq Kf (Q1 (Ua (Z9 [none,some 0] (Qc 0) (Yi (Q1 (Q2 0) Q6)) Zd X7)) Q6)))
def Xa:FN:=Qd yk 1
theorem Q6u (F:Fun K "_law_abare" "_law_abare" zw f fd) (T:Txt mg)   : FnOk P w K mg base (CXD P w) 1 f fd ["size"] (spF mg 1 Xa):=by
 have:FnScope ["size"] ["size"] (Q5 zw):=by fail "c"
 delta Xa yk X7
 fail "k"
def qj : MS := (Qe (Jg 4 (mOp Wb (mOp Wb (mSl (mOp oIx (Q2 0) (Q2 1)) Ud (Xc (Q2 2))) (Xb (Q1 (mOp Wb (mOp oIx (mOp oIx (Q2 0) (Q2 1)) (Q2 2)) (Q2 3)) Q6))) (mSl (mOp oIx (Q2 0) (Q2 1)) (Xc (mOp Wb (Q2 2) (mC (.int 1)))) Ud)))
  (Za (mOp Wb (mOp Wb (mSl (Q2 0) Ud (Xc (Q2 1))) (Xb (Q1 (Q2 4) Q6))) (mSl (Q2 0) (Xc (mOp Wb (Q2 1) (mC (.int 1)))) Ud))))
def Ze:FN:=Qd qj 5
theorem Q3n (F:Fun K "_law_araised" "_law_araised" qe f fd) (T:Txt mg)   : FnOk P w K mg base (CXD P w) 1 f fd ["table", "i", "at", "k"] (spF mg 4 Ze):=by
 have:FnScope ["table", "i", "at", "k", "row"] ["table", "i", "at", "k"] (Q5 qe):=by fail "c"
 delta Ze qj
 fail "k"
def Xj:MS:=(Qe (Jg 1 (mC (.bl false))) (Qe (Qb1 "NoTable" 1 (Yj (Qb 1 Ug (Q1 (Q2 0) Q6)))) (Za (Q2 1))))
def Vv:FN:=Qd Xj 2
theorem sc__law_ano_steps:FnScope ["table", "found"] ["table"] (Q5 Xg):=⟨rfl,rfl,rfl,by decide +kernel,rfl,by decide +kernel,by decide +kernel⟩
theorem Q1t (F:Fun K "_law_ano_steps" "_law_ano_steps" Xg f fd) (T:Txt mg) (Tx:∃ C,mg "NoTable" = some (.ref C)/\PySem.W.exmOne K (.ref C) (.ref C)=some true) (D_steps:DefS P w K mg base 8 "steps" 1 Ug):FnOk P w K mg base (CXD P w) 9 f fd ["table"] (spF mg 1 Vv):=by
 refine Q44 (k:=8) (m:=Xj) F sc__law_ano_steps rfl rfl rfl fun cdv A outer s H E hr=>?_
 exact (Q09 (Qhk 1 sc__law_ano_steps.nd Qi1) (Q09 (Qdg (j:=1) (fun _ _=>xi (Q3w (Q1m D_steps (hr.mono (by decide)) Qj0 rfl (Km (zj 0) Q2h)))) sc__law_ano_steps.nd Tx.choose_spec.1 Tx.choose_spec.2 (fun _=>Q3z (Qij sc__law_ano_steps.nd rfl (Or.inl rfl) Qqm))) (xi (Q8p (zj 1)))))
def Uf : MS := (Qe (Jg 4 (Qb 2 Qg (Q1 (Q2 0) (Q1 (Q2 1) Q6))))
  (Qe (Jg 5 (Qb 2 Qg (Q1 (Q2 0) (Q1 (mC (.int 4)) Q6))))
  (Qe (Jg 6 (Qb 2 Yb (Q1 (Q2 2) (Q1 (Q2 4) Q6))))
  (Ym (Q2f (toB (mOp oEq (Q2 5) (mC (.int 0)))) (toB (mOp oEq (Q2 6) (mC (.int 0))))) (Jg 2 (Qb 4 Ze (Q1 (Q2 2) (Q1 (Q2 4) (Q1 (Q2 4) (Q1 (mOp Wb (mC (.int 1)) (Qb 2 Qg (Q1 (Q2 0) (Q1 (mC (.int 6)) Q6)))) Q6)))))) (Ym (Q1j (toB (mOp oLt (Q2 5) (mC (.int 3)))) (toB (mOp (oI fun a b=>.bl (decide (b < a))) (Q2 1) (mC (.int 1))))) (Jg 2 (Qb 4 Ze (Q1 (Q2 2) (Q1 (Q2 4) (Q1 (mOp Q5g (mOp Wb (mOp Wb (Q2 4) (mC (.int 1))) (Qb 2 Qg (Q1 (Q2 0) (Q1 (mOp (oI fun a b=>.int (a - b)) (Q2 1) (mC (.int 1))) Q6)))) (Q2 1)) (Q1 (mOp Wb (mC (.int 1)) (Qb 2 Qg (Q1 (Q2 0) (Q1 (Q2 6) Q6)))) Q6)))))) (Jg 2 (Qb 4 Ze (Q1 (Q2 2) (Q1 (Q2 4) (Q1 (Q2 1) (Q1 (mOp Wb (mC (.int 1)) (Qb 2 Qg (Q1 (Q2 0) (Q1 (Q2 6) Q6)))) Q6)))))))))))
def jj : MS := (Qe (Jg 1 (mOp Wb (mC (.int 1)) (Qb 2 Qg (Q1 (Q2 0) (Q1 (mC (.int 8)) Q6)))))
  (Qe (Jg 2 (Qb 1 Xa (Q1 (Q2 1) Q6)))
  (Qe (Q1b (Qc 3) (Yi (Q1 (Qb 2 Qg (Q1 (Q2 0) (Q1 (mC (.int 13)) Q6))) Q6)) Uf)
  (Za (Q2 2)))))
def Uc:FN:=Qd jj 7
theorem Q5c (F:Fun K "_law_asmall" "_law_asmall" jc f fd) (T:Txt mg)  (D__law_adigit:DefS P w K mg base 1 "_law_adigit" 2 Qg) (D__law_abare:DefS P w K mg base 1 "_law_abare" 1 Xa) (D__law_arights:DefS P w K mg base 1 "_law_arights" 2 Yb) (D__law_araised:DefS P w K mg base 1 "_law_araised" 4 Ze):FnOk P w K mg base (CXD P w) 2 f fd ["tape"] (spF mg 1 Uc):=by
 have:FnScope ["tape", "size", "table", "turn", "i", "way", "have"] ["tape"] (Q5 jc):=by fail "c"
 delta Uc jj Uf
 fail "k"
def Q48 (C : aA) : MS := (Qe (Yj (mBM Wk (Q2 8) (Q1 (Q2 10) Q6)))
  (Ym (toB (mOp oEq (mOp oIx (Q2 10) (mC (.int 0))) (mC (.str "lend")))) (Qe (Yj (mBM Wj (Q2 8) (Q1 (Q9b (Q1 (Xb (Q1 (mC (.str "keep")) (Q1 (mOp oIx (Q2 10) (mC (.int 1))) Q6))) (Q1 (Xb (Q1 (mC (.str "send")) (Q1 (mOp oIx (Q2 10) (mC (.int 1))) Q6))) (Q1 (Xb (Q1 (mC (.str "come")) (Q1 (Q2 9) (Q1 (mOp oIx (Q2 10) (mC (.int 2))) Q6)))) Q6)))) Q6)))
  (Jg 9 (mOp Wb (Q2 9) (mC (.int 1))))) Zy))
def Q9n (C:aA):ME:=(Q2 0)
def Q8i (C:aA):MT:=(toB (mOp oNe (Q2 0) (mC (.str "done"))))
def Q9w (C:aA):MS:=(Jg 5 (Qb 2 K2 (Q1 (Q2 5) (Q1 (Q2 13) Q6))))
def Q49 (C : aA) : MS := (Qe (Jg 8 (Q1z (yy Q6)))
  (Qe (Jg 9 (mC (.int 0)))
  (Qe (Q1b (Qc 10) (Kc (mSl (Q2 6) (Xc (Q2 7)) (Xc (mOp Wb (Q2 7) (mC (.int 60)))))) (Q48 C))
  (Qe (Qp9 (Xd (Zc (Qc 11) (Zc (Qc 12) Xe))) (Qb 2 (Q07 C) (Q1 (Q2 5) (Q1 (Q2 8) Q6))))
  (Qe (Ym (toB (mOp oNe (Ua (Z9 [none] (Qc 0) (Kc (Q2 11)) (Q8i C) (Q9n C))) (Q9b Q6))) (Za (mC (.bl false))) Zy)
  (Q1b (Qc 13) (Kc (Q2 12)) (Q9w C)))))))
def Q47 (C : aA) : MS := (Qe (Jg 15 (Qb 4 Ze (Q1 (Q2 2) (Q1 (Q2 14) (Q1 (Q2 3) (Q1 (mOp Wb (Qb 2 Yb (Q1 (Q2 2) (Q1 (Q2 14) Q6))) (mC (.int 1))) Q6))))))
  (Ym (Q2f (toB (mOp oNe (Qb 1 Qw (Q1 (Q2 15) Q6)) (Xb (Q1 (mC (.str "short")) (Q1 (Q2 14) Q6))))) (Ur (toB (Qb 1 Vv (Q1 (Q2 15) Q6))))) (Za (mC (.bl false))) Zy))
def Q4a (C : aA) : MS := (Qe (Jg 2 (Qb 1 Uc (Q1 (Qb 2 We (Q1 (Q2 0) (Q1 (Q2 1) Q6))) Q6)))
  (Qe (Jg 3 (Qq Y1 (Q1 (Q2 2) Q6)))
  (Qe (Jg 4 (Qb 1 Qw (Q1 (Q2 2) Q6)))
  (Qe (Ym (Q2f (toB (mOp oNe (mOp oIx (Q2 4) (mC (.int 0))) (mC (.str "comes")))) (toB (mOp Q2w (Qb 2 Zx (Q1 (Q2 2) (Q1 (mOp oIx (Q2 4) (mC (.int 1))) Q6))) (mC (.bl true))))) (Za (mC (.bl false))) Zy)
  (Qe (Jg 5 (Qb 1 Q1h (Q1 (Q2 3) Q6)))
  (Qe (Jg 6 (Qb 1 Ug (Q1 (Q2 2) Q6)))
  (Qe (Q1b (Qc 7) (Q21 (Q1 (mC (.int 0)) (Q1 (Qq Y1 (Q1 (Q2 6) Q6)) (Q1 (mC (.int 60)) Q6)))) (Q49 C))
  (Qe (Ym (toB (mOp oNe (Q2 5) (Q2 2))) (Za (mC (.bl false))) Zy)
  (Q1b (Qc 14) (Yi (Q1 (Q2 3) Q6)) (Q47 C))))))))))
def Qjg (C : aA) : MS := (Qe (Q1b (Qc 1) (Q22 (Q1 (mC (.int 0)) (Q1 (Qq Qd7 (Q1 (mC (.int 1)) (Q1 (Qq Qgu (Q1 (mC (.int 4)) (Q1 (Qq Y1 (Q1 (Q2 0) Q6)) Q6))) Q6))) Q6))) (Q4a C))
  (Za (mC (.bl true))))
def Qku (C:aA):FN:=Qd (Qjg C) 16
theorem Qt7 (F:Fun K "law" "law" Q1n f fd) (T:Txt mg) (TC:ClsT K C)  (D__law_asmall:DefS P w K mg base 2 "_law_asmall" 1 Uc) (D__law_atape:DefS P w K mg base 2 "_law_atape" 2 We) (D_comes_about:DefS P w K mg base 5 "comes_about" 1 Qw) (D_is_root_list:DefS P w K mg base 5 "is_root_list" 2 Zx) (D_bare:DefS P w K mg base 1 "bare" 1 Q1h) (D_steps:DefS P w K mg base 8 "steps" 1 Ug) (D_played:DefS P w K mg base 10 "played" 2 (Q07 C)) (D_joined:DefS P w K mg base 2 "joined" 2 K2) (D__law_araised:DefS P w K mg base 1 "_law_araised" 4 Ze) (D__law_arights:DefS P w K mg base 1 "_law_arights" 2 Yb) (D__law_ano_steps:DefS P w K mg base 9 "_law_ano_steps" 1 Vv):FnOk P w K mg base (CXD P w) 11 f fd ["script"] (spF mg 1 (Qku C)):=by
 have:FnScope ["script", "place", "table", "size", "told", "joint", "deeds", "number", "row", "letters", "deed", "answers", "tables", "one", "i", "more"] ["script"] (Q5 Q1n):=by fail "c"
 delta Qku Qjg Q4a Q47 Q49 Q9w Q8i Q9n Q48
 fail "k"
end
theorem Q9m (a:Int) (h:0 < b):0<=a % b/\a % b < b:=⟨Int.emod_nonneg a (by omega),Int.emod_lt_of_pos a h⟩
def Qh (r:List Int):PV:=.tup (r.map .int)
def Q3 (tb:List (List Int)):PV:=.tup (tb.map Qh)
theorem Q6d (xs:List α) (p:α->Bool):(xs.map p).all id=xs.all p:=by
 rw [List.all_map]; rfl
structure Wt' (n:Nat) (tb:List (List Int)):Prop where
 len:tb.length=n
 row:∀ r∈tb,r.length=n + 1
 nn:∀ r∈tb,∀ x∈r,(0:Int)<=x
 n1:1<=n
 n8:n<=8
def J3 (n:Nat) (f:Nat->Int):Int:=((List.range n).map f).sum
theorem Qx (n:Nat) (f:Nat->Int):J3 (n + 1) f=J3 n f + f n:=by
 unfold J3;rw [List.range_succ,G6,List.sum_append];simp
theorem Qi {f g:Nat->Int} (h:∀ i,i < n->f i=g i):J3 n f=J3 n g:=by
 induction n with
 | zero=>rfl
 | succ n ih=>rw [Qx,Qx,ih fun i hi=>h i (by omega),h n (by omega)]
theorem U8 (n:Nat) (f g:Nat->Int):J3 n (fun i=>f i + g i)=J3 n f + J3 n g:=by
 induction n with
 | zero=>rfl
 | succ n ih=>rw [Qx,Qx,Qx,ih]; omega
theorem Uq (n:Nat) (f g:Nat->Int):J3 n (fun i=>f i - g i)=J3 n f - J3 n g:=by
 induction n with
 | zero=>rfl
 | succ n ih=>rw [Qx,Qx,Qx,ih]; omega
theorem Vg (n:Nat):J3 n (fun _=>0)=0:=by
 induction n with
 | zero=>rfl
 | succ n ih=>rw [Qx,ih]; rfl
theorem Qeu (n m:Nat) (f:Nat->Nat->Int):J3 n (fun i=>J3 m (f i))=J3 m (fun j=>J3 n fun i=>f i j):=by
 induction n with
 | zero=>exact (Vg m).symm
 | succ n ih=>
  rw [Qx,ih,<- U8];exact Qi fun i _=>(Qx _ _).symm
theorem xb {f:Nat->Int} (h:∀ i,i < n->0<=f i):0<=J3 n f:=by
 induction n with
 | zero=>exact Int.le_refl _
 | succ n ih=>rw [Qx]; have:=ih fun i hi=>h i (by omega); have:=h n (by omega); omega
theorem Q5k {β:Type} (l:List α) (d:α) (f:α->β):l.map f=(List.range l.length).map fun i=>f (l.getD i d):=by
 refine List.ext_getElem? fun i=>?_
 rw [E3,E3]
 by_cases hi:i < l.length
 ·rw [F5 hi,getD_some hi d]; rfl
 ·rw [E9 (by omega),E9 (by rw [F4]; omega)]; rfl
theorem Q4e {β:Type} (l:List α) (d:α) (f:α × Nat->β):l.zipIdx.map f=(List.range l.length).map fun i=>f (l.getD i d,i):=by
 refine List.ext_getElem? fun i=>?_
 rw [E3,E3,List.getElem?_zipIdx]
 by_cases hi:i < l.length
 ·rw [F5 hi,getD_some hi d]; simp
 ·rw [E9 (by omega),E9 (by rw [F4]; omega)]; rfl
theorem Q4m (r:List Int):r.sum=J3 r.length fun j=>r.getD j 0:=by
 have:=Q5k r 0 id;rw [List.map_id] at this;rw [J3]
 conv=>lhs; rw [this]
 rfl
def ent (tb:List (List Int)) (i j:Nat):Int:=(tb.getD i []).getD j 0
def Sz (n:Nat) (tb:List (List Int)):Prop:=tb.length=n/\∀ r∈tb,r.length=n + 1
theorem Wt'.sz (w:Wt' n tb):Sz n tb:=⟨w.len,w.row⟩
theorem Sz.row {i:Nat} (z:Sz n tb) (hi:i < n):tb[i]?=some (tb.getD i [])/\(tb.getD i []).length=n + 1:=by
 have e:=getD_some (show i < tb.length by rw [z.1]; exact hi) [];exact ⟨e,z.2 _ (E4 e)⟩
theorem Sz.cell {i:Nat} (z:Sz n tb) (hi:i < n) (hj:j<=n):(tb.getD i [])[j]?=some (ent tb i j):=getD_some (by rw [(z.row hi).2]; omega) 0
theorem Qdc {t1 t2:List (List Int)} (z1:Sz n t1) (z2:Sz n t2) (h:∀ i j,i < n->j<=n->ent t1 i j=ent t2 i j):t1=t2:=by
 refine List.ext_getElem? fun i=>?_
 by_cases hi:i < n
 ·rw [(z1.row hi).1,(z2.row hi).1];congr 1;refine List.ext_getElem? fun j=>?_
  by_cases hj:j<=n
  ·rw [z1.cell hi hj,z2.cell hi hj,h i j hi hj]
  ·rw [E9 (by rw [(z1.row hi).2]; omega),E9 (by rw [(z2.row hi).2]; omega)]
 ·rw [E9 (by rw [z1.1]; omega),E9 (by rw [z2.1]; omega)]
theorem Wt'.ent_nn {i:Nat} (w:Wt' n tb) (hi:i < n) (hj:j<=n):0<=ent tb i j:=w.nn _ (E4 (w.sz.row hi).1) _ (E4 (w.sz.cell hi hj))
theorem Wt'.of_ent (z:Sz n tb) (h1:1<=n) (h8:n<=8) (h:∀ i j,i < n->j<=n->0<=ent tb i j):Wt' n tb:=by
 refine ⟨z.1,z.2,fun r hr x hx=>?_,h1,h8⟩;obtain ⟨i,hi,e⟩:=List.mem_iff_getElem.mp hr;obtain ⟨j,hj,e2⟩:=List.mem_iff_getElem.mp hx;have hl:=z.2 r hr;have:=h i j (by rw [<- z.1]; exact hi) (by omega);have e3:tb.getD i []=r:=by rw [List.getD,O3 hi,e]; rfl
 have e4:r.getD j 0=x:=by rw [List.getD,O3 hj,e2]; rfl
 unfold ent at this;rw [e3,e4] at this;exact this
theorem yn (i:Int) (st:Q0):W2 [.int i] st=.ok (.bl true) st:=by
 simp [W2,Qd,Q18,isI,tyN]
theorem Q75 (a b c:Int) (st:Q0):Vt [.int a,.int b,.int c] st=.ok (.bl (decide (b<=a) && decide (a<=c))) st:=by
 by_cases h:b<=a <;> simp [Vt,Qd,yh,yn,h]
theorem qz {V:PV} (hV:Y1 st [V]=.ok (.int n) st) (i:Int):Z7 [V,.int i] st=.ok (.bl (decide (0<=i) && decide (i < n))) st:=by
 have e:decide (i<=(n:Int) - 1)=decide (i < (n:Int)):=by
  rw [decide_eq_decide]; omega
 simp [Z7,Qd,Q1a,hV,Q75,e]
theorem Q9g {V:PV} {i:Nat} (hV:Y1 st [V]=.ok (.int n) st) (hi:i < n):Z7 [V,.int i] st=.ok (.bl true) st:=by
 rw [qz hV];simp; omega
def Qs (k:Nat):PV:=.int (k:Int)
theorem Qpt {r:Nat} (hr:n<=r) (h:S[r]?=some (.lst (hs.map .int))):fz n S 16 (.ref r)=some (.lst (hs.map .int)):=by
 have hg:Z6 12 (.lst (hs.map .int))=true:=by simp [Z6]
 have:=Q29 (n:=n) (st:=S) (k:=16) hg (by decide);rw [fz,bN (by omega),h];simpa [fz] using this
def Q8 (tb:List (List Int)) (h:Nat):Int:=J3 tb.length (fun o=>ent tb o h) - ((tb.getD h []).sum - ent tb h h)
theorem Wa {h:Nat} (z:Sz n tb) (hh:h < n):Q8 tb h=J3 n (fun o=>ent tb o h) - (J3 n (fun j=>ent tb h j) + ent tb h n - ent tb h h):=by
 unfold Q8;rw [z.1,Q4m (tb.getD h []),(z.row hh).2,Qx];rfl
theorem Q0a {h:Nat} (z:Sz n tb) (hn:n<=100) (hh:h < n) (st:Q0):Ve [Q3 tb,.int h] st=.ok (.int (Q8 tb h)) st:=by
 have hH:=Q9g (V:=Q3 tb) (n:=n) (i:=h) (st:=st) (by simp [Q3,z.1]) hh;have hc:J4 (Qc 0) Zd yq [] (J1 [none,some 1] [some (Q3 tb),some (.int h),none,none,none]) (tb.map Qh) st=.ok (tb.map fun r=>.int (r.getD h 0)) st:=by
  refine Yh _ _ (by simp) fun r hr=>⟨_,rfl,?_⟩
  have e:=atI_get (getD_some (show h < r.length by rw [z.2 r hr]; omega) 0);simp [J1,yq,Qh,qa,e]
 have e1:=atI_get (z.row hh).1;have e2:=atI_get (z.cell hh (O7 hh));have hs:(tb.map fun r=>r.getD h 0).sum=J3 n fun o=>ent tb o h:=by
  rw [Q5k tb [] fun r=>r.getD h 0,z.1]; rfl
 have hl:tb.length<=1000000:=by rw [z.1]; omega
 unfold Q8;rw [z.1,<- hs];obtain ⟨r,hr⟩:∃ r,tb.getD h []=r:=⟨_,rfl⟩;obtain ⟨x,hx⟩:∃ x,ent tb h h=x:=⟨_,rfl⟩;rw [hr] at e1 e2 ⊢;rw [hx] at e2 ⊢;obtain ⟨q,hq⟩:∃ q,(tb.map fun r=>r.getD h 0)=q:=⟨_,rfl⟩;have hq2:(tb.map fun r=>PV.int (r.getD h 0))=q.map .int:=by rw [<- hq,L9]; rfl
 rw [hq2] at hc;rw [hq];unfold Q3 at hH hc ⊢;simp [Ve,Qd,Q5m,hH,hc,hl,Qp,qa,e1,Qh,e2]
theorem Kz {i:Nat} (z:Sz n tb) (hi:i < n) (hj:j<=n) (st:Q0):oIx st (Q3 tb) (.int i)=.ok (Qh (tb.getD i [])) st/\oIx st (Qh (tb.getD i [])) (.int j)=.ok (.int (ent tb i j)) st:=by
 constructor
 ·unfold Q3; rw [Qdv,qa,atI_get (z.row hi).1]; rfl
 ·unfold Qh; rw [Qdv,qa,atI_get (z.cell hi hj)]; rfl
def Ux (tb:List (List Int)) (h:Nat):Bool:=decide (0 < ent tb h h)
theorem Qe1 {h:Nat} (z:Sz n tb) (hh:h < n) (st:Q0):W8 [Q3 tb,.int h] st=.ok (.bl (Ux tb h)) st:=by
 obtain ⟨c1,c2⟩:=Kz z hh (O7 hh) st;unfold Ux;generalize ent tb h h=x at *;generalize tb.getD h []=r at *;simp [W8,Qd,xx,c1,c2]
def Y0 (tb:List (List Int)) (h:Nat):Bool:=decide (ent tb h h < (tb.getD h []).sum)
theorem Qej {h:Nat} (z:Sz n tb) (hh:h < n) (st:Q0):Je [Q3 tb,.int h] st=.ok (.bl (Y0 tb h)) st:=by
 obtain ⟨c1,c2⟩:=Kz z hh (O7 hh) st;unfold Y0;generalize ent tb h h=x at *;generalize tb.getD h []=r at *;have c3:U2 (fun ns=>some (.int ns.sum)) st [Qh r]=.ok (.int r.sum) st:=by unfold Qh; rw [Qgv]; rfl
 simp [Je,Qd,U6,c1,c2,c3]
def Q7w (tb:List (List Int)) (h:Nat) (ls:List Nat):Bool:=ls.any fun o=>decide (o≠h) && decide (0 < ent tb o h)
theorem Q9z (xs:List α) (p:α->Bool):(xs.map p).any id=xs.any p:=by
 rw [List.any_map]; rfl
theorem Qpa {h:Nat} (z:Sz n tb) (hh:h < n) (hl:∀ o∈ls,o < n) (hll:ls.length<=1000) {V:PV} (hV:ListAt st V (ls.map Qs)):Yu [Q3 tb,.int h,V] st=.ok (.bl (Q7w tb h ls)) st:=by
 obtain ⟨w,hsrc,hw⟩:=hV.src;have hc:J4 (Qc 0) V1 V6 w (J1 [none,some 1,some 0] [some (Q3 tb),some (.int h),some V]) (ls.map Qs) st=.ok ((ls.filter fun o=>decide (o≠h)).map fun o=>.bl (decide (0 < ent tb o h))) st:=by
  refine Xq _ _ _ hw fun o ho=>⟨_,rfl,?_,fun ht=>?_⟩
  ·simp [J1,V1,Qs]
   by_cases e:o=h
   ·simp [e]
   ·have:¬ ((o:Int)=h):=by omega
    simp [e,this]
  ·obtain ⟨c1,c2⟩:=Kz z (hl o ho) (O7 hh) st;generalize ent tb o h=x at *;generalize tb.getD o []=r at *;simp [J1,V6,Qs,c1,c2]
 have hll':(ls.map Qs).length<=1000000:=by rw [O2]; omega
 have hlf:Q7w tb h ls=((ls.filter fun o=>decide (o≠h)).map fun o=>decide (0 < ent tb o h)).any id:=by
  rw [Q9z,List.any_filter]; rfl
 rw [hlf];generalize ls.map Qs=ov at *;generalize ls.filter (fun o=>decide (o≠h))=fs at *
 simp [Yu,Qd,Ka,hsrc,hll',Qp,hc,-List.any_map]
def Uv (tb:List (List Int)) (h:Nat) (ls:List Nat):Bool:=Ux tb h || Q7w tb h ls
theorem Qdj {h:Nat} (z:Sz n tb) (hh:h < n) (hl:∀ o∈ls,o < n) (hll:ls.length<=1000) {V:PV} (hV:ListAt st V (ls.map Qs)):Wd [Q3 tb,.int h,V] st=.ok (.bl (Uv tb h ls)) st:=by
 have h1:=Qe1 z hh st;have h2:=Qpa z hh hl hll hV;unfold Uv;cases hm:Ux tb h with
 | true=>rw [hm] at h1; simp [Wd,Qd,yi,h1]
 | false=>rw [hm] at h1; simp [Wd,Qd,yi,h1,h2]
theorem Qg8 (hn:tb.length=n) (hl:hs.length<=1000) {V:PV} (hV:ListAt st V (hs.map .int)):Vu [Q3 tb,V] st=.ok (.bl (hs.all fun (h:Int)=>decide (0<=h) && decide (h < n))) st:=by
 obtain ⟨w,hsrc,hw⟩:=hV.src;have hc:J4 (Qc 0) Zd X6 w (J1 [none,some 0] [some (Q3 tb),some V]) (hs.map .int) st=.ok (hs.map fun (h:Int)=>.bl (decide (0<=h) && decide (h < n))) st:=by
  refine Yh _ _ hw fun h hh=>⟨_,rfl,?_⟩
  have:=qz (V:=Q3 tb) (n:=n) (st:=st) (by simp [Q3,hn]) h;simp [J1,X6,this]
 have hl':hs.length<=1000000:=by omega
 simp [Vu,Qd,yj,hsrc,hl',Qp,hc,Q6d,-List.all_map,-F6]
theorem Qck:∀ (xs acc:List Int),acc.Nodup->(xs.foldl PyProof.Rows.step_dedup acc).length<=acc.length + xs.length/\((xs.foldl PyProof.Rows.step_dedup acc).length=acc.length + xs.length <-> (acc ++ xs).Nodup)
 | [],acc,h=>by simp [h]
 | x :: xs,acc,h=>by
  rw [List.foldl_cons]
  by_cases hx:x∈acc
  ·have e:PyProof.Rows.step_dedup acc x=acc:=by
    unfold PyProof.Rows.step_dedup;rw [bM (by simp [hx])]
   rw [e];obtain ⟨h1,h2⟩:=Qck xs acc h;refine ⟨by rw [D2]; omega,?_⟩;rw [D2];constructor
   ·intro q; omega
   ·intro q;exact absurd rfl ((List.nodup_append.mp q).2.2 x hx x D3)
  ·have e:PyProof.Rows.step_dedup acc x=acc ++ [x]:=by
    unfold PyProof.Rows.step_dedup;rw [bN (by simp [hx])]
   rw [e];have hn:(acc ++ [x]).Nodup:=List.nodup_append.mpr ⟨h,by simp,fun a ha b hb=>by
    have:b=x:=by simpa using hb
    subst this;intro q; subst q; exact hx ha⟩
   obtain ⟨h1,h2⟩:=Qck xs (acc ++ [x]) hn;rw [D0,List.length_singleton] at h1 h2;rw [D2];refine ⟨by omega,?_⟩;rw [L5] at h2;rw [<- show acc ++ ([x] ++ xs)=acc ++ x :: xs from rfl,<- h2];constructor <;> intro q <;> omega
theorem Q7p (ns:List Int):(Q97 ns).length=ns.length <-> ns.Nodup:=by
 unfold Q97 PyProof.Rows.firstMet;have e:(List.range ns.length).map (fun i=>ns.getD i 0)=ns:=by
  have:=Q5k ns 0 id;rw [List.map_id] at this;exact this.symm
 rw [e];have:=(Qck ns [] List.nodup_nil).2;simpa using this
theorem Qpn (hs:List Int) (x:Int):((hs.map PV.int).any fun y=>peq y (.int x))=decide (x∈hs):=by
 rw [List.any_map,Bool.eq_iff_iff,List.any_eq_true,decide_eq_true_iff];constructor
 ·rintro ⟨y,hy,e⟩;have:y=x:=by simpa [peq] using e
  rw [<- this]; exact hy
 ·intro h;exact ⟨x,h,by simp [peq]⟩
theorem Qjp {V:PV} (hV:ListAt st V (hs.map .int)) (x:Int) (b:Bool):oIn b st (.int x) V=.ok (.bl (decide (x∈hs) != b)) st:=by
 have hq:Kh st V=some (hs.map .int):=by
  rcases hV with rfl | rfl | ⟨i,rfl,e⟩
  ·rfl
  ·rfl
  ·rw [Q3y,e]
 have hd:der st (.int x)=.int x:=rfl;have g1:Z6 dep (.int x)=true:=rfl;have g2:(hs.map PV.int).all (Z6 dep)=true:=by simp [Z6,dep]
 unfold oIn;rw [hq,hd];simp only [g1,g2,and_self,if_true,Qpn]
theorem ListAt.sl {V:PV} (h:ListAt st V xs) (l u:Option Int):oSl st V l u=.ok (.lst (cut xs l u)) st:=by
 rcases h with rfl | rfl | ⟨i,rfl,e⟩
 ·rfl
 ·rfl
 ·unfold oSl; simp only [Qb5,e]
def Q3s (hs:List Int):List Nat:=hs.map Int.toNat
def Q80 (n:Nat) (tb:List (List Int)) (hs:List Int):Bool:=(List.range n).all fun (h:Nat)=>decide ((h:Int)∈hs) || !Y0 tb h
def Qa2 (tb:List (List Int)) (hs:List Int):Bool:=hs.zipIdx.all fun z=>Uv tb z.1.toNat (Q3s (hs.take z.2))
def js (n:Nat) (tb:List (List Int)) (hs:List Int):Bool:=(hs.all fun (h:Int)=>decide (0<=h) && decide (h < n)) && decide hs.Nodup && Q80 n tb hs && Qa2 tb hs
theorem Qjd (h:∀ x∈hs,0<=x/\x < (n:Int)):(Q3s hs).map Qs=hs.map .int/\∀ o∈Q3s hs,o < n:=by
 constructor
 ·unfold Q3s;rw [L9];refine List.map_congr_left fun x hx=>?_
  have:=(h x hx).1;show PV.int ((x.toNat:Nat):Int)=_;rw [Int.toNat_of_nonneg this]
 ·intro o ho;obtain ⟨x,hx,rfl⟩:=List.mem_map.mp ho;have:=h x hx;omega
theorem Q8w (z:Sz n tb) (hn:n<=100) (hl:hs.length<=1000) {V:PV} (hV:ListAt st V (hs.map .int)):Zx [Q3 tb,V] st=.ok (.bl (js n tb hs)) st:=by
 have h1:=Qg8 z.1 hl hV;obtain ⟨w,hsrc,hw⟩:=hV.src;have hlen:=hV.len;rw [O2] at hlen;have hlo:(U7 st V).bind Xm=some hs:=by
  have:U7 st V=some (hs.map .int):=by
   rcases hV with rfl | rfl | ⟨i,rfl,e⟩
   ·rfl
   ·rfl
   ·rw [Qb5,e]
  rw [this,Option.bind_some,Q62]
 have hl4:hs.length<=4000:=by omega
 have hl':hs.length<=1000000:=by omega
 unfold js;cases ha:(hs.all fun (h:Int)=>decide (0<=h) && decide (h < n)) with
 | false=>
  rw [ha] at h1;simp [Zx,Qd,W7,h1]
 | true=>
  rw [ha] at h1;have hall:∀ x∈hs,0<=x/\x < (n:Int):=fun x hx=>by
   have:=F0.mp ha x hx;simpa using this
  by_cases hd:hs.Nodup
  ·have hm:((Q97 hs).length:Int)=hs.length:=by rw [(Q7p hs).mpr hd]
   have hln:Y1 st [Q3 tb]=.ok (.int n) st:=by simp [Q3,z.1]
   have hc1:J4 (Qc 0) Vh Vq [] (J1 [none,some 1] [some (Q3 tb),some V,none]) (Zu 0 n) st=.ok (((List.range n).filter fun (h:Nat)=>!decide ((h:Int)∈hs)).map Qs) st:=by
    rw [V4];refine Xq _ _ _ (by simp) fun j hj=>⟨_,rfl,?_,fun ht=>?_⟩
    ·simp [J1,Vh,Qjp hV]
    ·simp [J1,Vq,Qs]
   obtain ⟨is,his⟩:∃ is,((List.range n).filter fun (h:Nat)=>!decide ((h:Int)∈hs))=is:=⟨_,rfl⟩
   rw [his] at hc1;have hisn:∀ i∈is,i < n:=fun i hi=>by
    rw [<- his] at hi;exact D4.mp (List.mem_filter.mp hi).1
   have hisl:is.length<=1000000:=by
    rw [<- his];have:=List.length_filter_le (fun (h:Nat)=>!decide ((h:Int)∈hs)) (List.range n)
    rw [F4] at this;omega
   have hc2:J4 (Qc 0) Zd Vp [] (J1 [none,some 0] [some (Q3 tb),some V,some (.lst (is.map Qs))]) (is.map Qs) st=.ok (is.map fun i=>.bl (Y0 tb i)) st:=by
    refine Yh _ _ (by simp) fun i hi=>⟨_,rfl,?_⟩
    have:=Qej z (hisn i hi) st;simp [J1,Vp,Qs,this]
   have hb:is.any (Y0 tb)=!Q80 n tb hs:=by
    unfold Q80;rw [<- his,List.any_filter,List.any_eq_not_all_not];congr 2;funext h;rw [Bool.not_and,Bool.not_not]
   have hn1:-1000000<=(n:Int)/\(n:Int)<=1000000:=by omega
   cases hi:Q80 n tb hs with
   | false=>
    rw [hi] at hb;simp -implicitDefEqProofs [Zx,Qd,W7,h1,hlo,hl4,hlen,hm,hln,hn1,Qp,hc1,hisl,hc2,Q9z,hb,-List.any_map]
   | true=>
    rw [hi] at hb;have hc3:J4 (Xd (Zc (Qc 0) (Zc (Qc 1) Xe))) Zd Vn w (J1 [none,none,some 0,some 1] [some (Q3 tb),some V,some (.lst (is.map Qs))]) (hs.zipIdx.map fun z=>.tup [.int (z.2:Nat),.int z.1]) st=.ok (hs.zipIdx.map fun z=>.bl (Uv tb z.1.toNat (Q3s (hs.take z.2)))) st:=by
     refine Yh _ _ hw fun y hy=>⟨_,rfl,?_⟩
     have hy1:=hall _ (List.fst_mem_of_mem_zipIdx hy);have ht:∀ x∈hs.take y.2,0<=x/\x < (n:Int):=fun x hx=>hall x (List.mem_of_mem_take hx)
     obtain ⟨e1,e2⟩:=Qjd ht;have hcut:cut (hs.map PV.int) none (some ((y.2:Nat):Int))=(Q3s (hs.take y.2)).map Qs:=by rw [Xz,zc,e1]
     have hsl:=ListAt.sl hV none (some ((y.2:Nat):Int));rw [hcut] at hsl;have hr:=Qdj z (h:=y.1.toNat) (by omega) e2 (by unfold Q3s; rw [O2,List.length_take]; omega) (V:=.lst ((Q3s (hs.take y.2)).map Qs)) (st:=st) (.inl rfl);have hyi:((y.1.toNat:Nat):Int)=y.1:=Int.toNat_of_nonneg hy1.1;rw [hyi] at hr;generalize (Q3s (hs.take y.2)).map Qs=lv at *;generalize Uv tb y.1.toNat (Q3s (hs.take y.2))=rb at *;simp -implicitDefEqProofs [J1,Vn,hsl,hr]
    unfold Qa2;simp -implicitDefEqProofs [Zx,Qd,W7,h1,hlo,hl4,hlen,hm,hln,hn1,Qp,hc1,hisl,hc2,Q9z,hb,-List.any_map,hsrc,hl',Q0j,hc3,Q6d,-List.all_map,hd]
  ·have hm:¬ (((Q97 hs).length:Int)=hs.length):=fun q=>hd ((Q7p hs).mp (by omega))
   simp -implicitDefEqProofs [Zx,Qd,W7,h1,hlo,hl4,hlen,hm,hd]
def Qem (n:Nat) (tb:List (List Int)) (h:Nat):Bool:=(List.range (n + 1)).any fun j=>decide (j≠h) && decide (0 < ent tb h j)
theorem Q1i {f:Nat->Int} (hf:∀ i,i < n->0<=f i) (hj:j < n):f j<=J3 n f:=by
 induction n with
 | zero=>exact absurd hj (Nat.not_lt_zero _)
 | succ n ih=>
  rw [Qx];have hn0:=hf n (Nat.lt_succ_self n)
  by_cases e:j=n
  ·subst e;have:=xb (f:=f) (n:=j) fun i hi=>hf i (Nat.lt_succ_of_lt hi)
   omega
  ·have:=ih (fun i hi=>hf i (Nat.lt_succ_of_lt hi)) (by omega)
   omega
theorem Qha {h:Nat} (f:Nat->Int) (hh:h < n):J3 n f=f h + J3 n fun j=>if j≠h then f j else 0:=by
 induction n with
 | zero=>exact absurd hh (Nat.not_lt_zero _)
 | succ n ih=>
  rw [Qx,Qx]
  by_cases e:n=h
  ·subst e;rw [bN (by simp),Qi (f:=f) (g:=fun j=>if j≠n then f j else 0) fun i hi=>by rw [bM (by omega)]]
   omega
  ·rw [bM e,ih (by omega)];omega
theorem Qh9 {h:Nat} {f:Nat->Int} (hf:∀ i,i < n->0<=f i) (hh:h < n):f h < J3 n f <-> ∃ j,j < n/\j≠h/\0 < f j:=by
 have e:=Qha f hh;have hg:∀ i,i < n->0<=(fun j=>if j≠h then f j else 0) i:=fun i hi=>by
  show 0<=if i≠h then f i else 0
  split
  ·exact hf i hi
  ·exact Int.le_refl _
 constructor
 ·intro q;refine Classical.byContradiction fun hno=>?_
  have:J3 n (fun j=>if j≠h then f j else 0)=J3 n fun _=>0:=Qi fun i hi=>by
   by_cases ei:i=h
   ·rw [bN (by simp [ei])]
   ·rw [bM ei];have h1:=hf i hi;have h2:¬ 0 < f i:=fun q=>hno ⟨i,hi,ei,q⟩
    omega
  rw [Vg] at this;omega
 ·rintro ⟨j,hj,hne,hp⟩;have:=Q1i hg hj;simp only [bM hne] at this;omega
theorem Qek {h:Nat} (w:Wt' n tb) (hh:h < n):Qem n tb h=Y0 tb h:=by
 have hs:(tb.getD h []).sum=J3 (n + 1) fun j=>ent tb h j:=by
  rw [Q4m,(w.sz.row hh).2]; rfl
 have hp:=(Qh9 (n:=n + 1) (h:=h) (f:=fun j=>ent tb h j) (fun i hi=>w.ent_nn hh (by omega)) (by omega))
 unfold Qem Y0;rw [hs,Bool.eq_iff_iff,List.any_eq_true,decide_eq_true_iff,hp];constructor
 ·rintro ⟨j,hj,q⟩;simp at q;exact ⟨j,D4.mp hj,q.1,q.2⟩
 ·rintro ⟨j,hj,a,b⟩;exact ⟨j,D4.mpr hj,by simp [a,b]⟩
theorem Qzp (x:Int) (h:1<=n):∃ k:Nat,k < n/\x % (n:Int)=(k:Int):=by
 have:=Q9m x (b:=(n:Int)) (by omega);exact ⟨(x % (n:Int)).toNat,by omega,by omega⟩
def kn3 (tb:List (List Int)) (i:Nat) (bs:List Bool) (j:Nat):List Bool:=if bs.getD i false=true/\i≠j/\0 < ent tb i j then bs.set j true else bs
def kn2 (n:Nat) (tb:List (List Int)) (bs:List Bool) (i:Nat):List Bool:=(List.range n).foldl (kn3 tb i) bs
def kn1 (n:Nat) (tb:List (List Int)) (bs:List Bool) (_:Nat):List Bool:=(List.range n).foldl (kn2 n tb) bs
def Q9f (n:Nat) (tb:List (List Int)):List Bool:=(List.range n).map (Ux tb)
def Q31 (n:Nat) (tb:List (List Int)):List Bool:=(List.range n).foldl (kn1 n tb) (Q9f n tb)
theorem Q66 {α β:Type} {f:List α->β->List α} (h:∀ bs x,(f bs x).length=bs.length):∀ (xs:List β) (bs:List α),(xs.foldl f bs).length=bs.length
 | [],_=>rfl
 | x :: xs,bs=>by rw [List.foldl_cons,Q66 h xs,h]
theorem Qe5 (tb:List (List Int)) (i:Nat) (bs:List Bool) (j:Nat):(kn3 tb i bs j).length=bs.length:=by
 unfold kn3; split <;> simp
theorem Qe6 (n:Nat) (tb:List (List Int)) (bs:List Bool) (i:Nat):(kn2 n tb bs i).length=bs.length:=Q66 (Qe5 tb i) _ _
theorem Qpi (n:Nat) (tb:List (List Int)) (bs:List Bool) (t:Nat):(kn1 n tb bs t).length=bs.length:=Q66 (Qe6 n tb) _ _
inductive Rc (n:Nat) (tb:List (List Int)):Nat->Prop
 | made {h:Nat}:h < n->Ux tb h=true->Rc n tb h
 | lent {o h:Nat}:Rc n tb o->h < n->0 < ent tb o h->Rc n tb h
theorem Rc.lt {h:Nat} (r:Rc n tb h):h < n:=by cases r <;> assumption
theorem Ub {α β:Type} {f:β->α->β} {P:β->Prop}:∀ {xs:List α} {b:β},(∀ b x,x∈xs->P b->P (f b x))->P b->P (xs.foldl f b)
 | [],_,_,h=>h
 | x :: xs,b,hs,h=>Ub (xs:=xs) (fun b y hy=>hs b y (O6 _ hy)) (hs b x D3 h)
theorem Q67 {α β:Type} {f:β->α->β} {P Q:β->Prop} (hP:∀ b y,P b->P (f b y)) (hQ:∀ b y,Q b->Q (f b y)) {x:α} (hx:∀ b,P b->Q (f b x)):∀ {xs:List α} {b:β},x∈xs->P b->Q (xs.foldl f b)
 | [],_,hm,_=>by cases hm
 | y :: ys,b,hm,hb=>by
  rw [List.foldl_cons];rcases E7.mp hm with rfl | hm
  ·exact Ub (fun b y _=>hQ b y) (hx b hb)
  ·exact Q67 hP hQ hx hm (hP b y hb)
def Cl (n:Nat) (tb:List (List Int)) (mem:Nat->Bool):Prop:=∀ o h,o < n->h < n->o≠h->0 < ent tb o h->mem o=true->mem h=true
def cnt (n:Nat) (mem:Nat->Bool):Int:=J3 n fun h=>if mem h=true then 1 else 0
theorem Qu8 (n:Nat) (mem:Nat->Bool):cnt n mem<=n:=by
 unfold cnt
 induction n with
 | zero=>exact Int.le_refl _
 | succ n ih=>rw [Qx]; split <;> omega
theorem Qk7 {m1 m2:Nat->Bool} (hm:∀ h,h < n->m1 h=true->m2 h=true) {h:Nat} (hh:h < n) (h1:m1 h=false) (h2:m2 h=true):cnt n m1 + 1<=cnt n m2:=by
 have e:=Uq n (fun h=>if m2 h=true then (1:Int) else 0) (fun h=>if m1 h=true then 1 else 0)
 have l:=Q1i (n:=n) (j:=h) (f:=fun h=>(if m2 h=true then (1:Int) else 0) - (if m1 h=true then 1 else 0)) (fun i hi=>by
  have:=hm i hi;cases a:m1 i <;> cases b:m2 i <;> simp_all) hh
 simp only [h1,h2] at l;unfold cnt;simp at l;omega
theorem Qa6 {X:Type} (n:Nat) (tb:List (List Int)) (mem:X->Nat->Bool) (f:X->Nat->X) (Inv:X->Prop) (hi:∀ x t,Inv x->Inv (f x t))
  (mono:∀ x t h,Inv x->h < n->mem x h=true->mem (f x t) h=true)
  (push:∀ x t o h,Inv x->o < n->h < n->o≠h->0 < ent tb o h->mem x o=true->mem (f x t) h=true)
  (stay:∀ x t,Inv x->Cl n tb (mem x)->∀ h,h < n->mem (f x t) h=true->mem x h=true) (x0:X) (h0:Inv x0):Cl n tb (mem ((List.range n).foldl f x0)):=by
 have key:∀ t:Nat,Inv ((List.range t).foldl f x0)/\(Cl n tb (mem ((List.range t).foldl f x0))\/(t:Int)<=cnt n (mem ((List.range t).foldl f x0))):=by
  intro t
  induction t with
  | zero=>
   refine ⟨h0,.inr ?_⟩;exact xb fun i _=>by split <;> omega
  | succ t ih=>
   rw [List.range_succ,List.foldl_append,List.foldl_cons,List.foldl_nil];obtain ⟨iv,ih⟩:=ih;generalize (List.range t).foldl f x0=x at *;refine ⟨hi x t iv,?_⟩;rcases Classical.em (Cl n tb (mem x)) with c | c
   ·refine .inl fun o h ho hh hne he hm=>?_
    exact mono x t h iv hh (c o h ho hh hne he (stay x t iv c o ho hm))
   ·rcases ih with ih | ih
    ·exact absurd ih c
    ·refine .inr ?_;have:∃ o h,o < n/\h < n/\o≠h/\0 < ent tb o h/\mem x o=true/\mem x h=false:=by
      refine Classical.byContradiction fun q=>c fun o h ho hh hne he hm=>?_
      cases e:mem x h with
      | true=>rfl
      | false=>exact absurd ⟨o,h,ho,hh,hne,he,hm,e⟩ q
     obtain ⟨o,h,ho,hh,hne,he,hm,hf⟩:=this;have:=Qk7 (fun h hh=>mono x t h iv hh) hh hf (push x t o h iv ho hh hne he hm)
     push_cast
     omega
 obtain ⟨iv,h | h⟩:=key n
 ·exact h
 ·intro o k ho hk hne he hm;generalize (List.range n).foldl f x0=x at *;cases e:mem x k with
  | true=>rfl
  | false=>
   have:=Qk7 (m1:=mem x) (m2:=fun _=>true) (fun _ _ _=>rfl) hk e rfl;have h2:=Qu8 n fun _=>true
   omega
theorem set_get {bs:List Bool} {h:Nat}:((bs.set j true).getD h false=true) <-> (h=j/\j < bs.length)\/bs.getD h false=true:=by
 rw [List.getD,List.getElem?_set]
 by_cases e:j=h
 ·subst e
  by_cases l:j < bs.length
  ·simp [l]
  ·simp [l,List.getD]
 ·rw [bN e];constructor
  ·intro q; exact .inr q
  ·rintro (⟨q,_⟩ | q)
   ·exact absurd q.symm e
   ·exact q
theorem Q5x {i h:Nat} {bs:List Bool} (q:bs.getD h false=true):(kn3 tb i bs j).getD h false=true:=by
 unfold kn3
 split
 ·exact set_get.mpr (.inr q)
 ·exact q
theorem Q5y {i h:Nat} {bs:List Bool} (q:bs.getD h false=true):(kn2 n tb bs i).getD h false=true:=Ub (P:=fun bs:List Bool=>bs.getD h false=true) (fun _ _ _ q=>Q5x q) q
theorem Qb8 {t h:Nat} {bs:List Bool} (q:bs.getD h false=true):(kn1 n tb bs t).getD h false=true:=Ub (P:=fun bs:List Bool=>bs.getD h false=true) (fun _ _ _ q=>Q5y q) q
theorem Q9e (n:Nat) (tb:List (List Int)):Cl n tb fun h=>(Q31 n tb).getD h false:=by
 refine Qa6 n tb (fun (bs:List Bool) h=>bs.getD h false) (kn1 n tb) (fun bs=>bs.length=n) (fun x t hx=>by rw [Qpi]; exact hx) (fun x t h _ _ q=>Qb8 q) (fun x t o h hx ho hh hne he hm=>?_) (fun x t hx c h hh hm=>?_) _ (by simp [Q9f])
 ·show (kn1 n tb x t).getD h false=true;refine Q67 (P:=fun bs:List Bool=>bs.length=n/\bs.getD o false=true) (Q:=fun bs:List Bool=>bs.getD h false=true) (fun bs y q=>⟨by rw [Qe6]; exact q.1,Q5y q.2⟩) (fun bs y q=>Q5y q) (x:=o) (fun bs q=>?_) (D4.mpr ho) ⟨hx,hm⟩;refine Q67 (P:=fun bs:List Bool=>bs.length=n/\bs.getD o false=true) (Q:=fun bs:List Bool=>bs.getD h false=true) (fun bs y q=>⟨by rw [Qe5]; exact q.1,Q5x q.2⟩) (fun bs y q=>Q5x q) (x:=h) (fun bs q=>?_) (D4.mpr hh) q;unfold kn3;rw [bM ⟨q.2,hne,he⟩];exact set_get.mpr (.inl ⟨rfl,by rw [q.1]; exact hh⟩)
 ·have:∀ g,g < n->(kn1 n tb x t).getD g false=true->x.getD g false=true:=by
   refine Ub (P:=fun bs:List Bool=>∀ g,g < n->bs.getD g false=true->x.getD g false=true) (fun bs i hi hb=>?_) fun g _ q=>q
   refine Ub (P:=fun bs:List Bool=>∀ g,g < n->bs.getD g false=true->x.getD g false=true) (fun bs j hj hb g hg q=>?_) hb;unfold kn3 at q
   split at q
   ·rename_i cc;rcases set_get.mp q with ⟨rfl,_⟩ | q
    ·exact c i g (D4.mp hi) hg cc.2.1 cc.2.2 (hb i (D4.mp hi) cc.1)
    ·exact hb g hg q
   ·exact hb g hg q
  exact this h hh hm
theorem Q5w (n:Nat) (tb:List (List Int)) {h:Nat} (hh:h < n):(Q31 n tb).getD h false=true <-> Rc n tb h:=by
 constructor
 ·have:∀ g,g < n->(Q31 n tb).getD g false=true->Rc n tb g:=by
   refine Ub (P:=fun bs:List Bool=>∀ g,g < n->bs.getD g false=true->Rc n tb g) (fun bs t _ hb=>?_) fun g hg q=>?_
   ·refine Ub (P:=fun bs:List Bool=>∀ g,g < n->bs.getD g false=true->Rc n tb g) (fun bs i hi hb=>?_) hb;refine Ub (P:=fun bs:List Bool=>∀ g,g < n->bs.getD g false=true->Rc n tb g) (fun bs j hj hb g hg q=>?_) hb;unfold kn3 at q
    split at q
    ·rename_i cc;rcases set_get.mp q with ⟨rfl,_⟩ | q
     ·exact .lent (hb i (D4.mp hi) cc.1) hg cc.2.2
     ·exact hb g hg q
    ·exact hb g hg q
   ·unfold Q9f at q;rw [List.getD,E3,F5 hg] at q;exact .made hg (by simpa using q)
  exact this h hh
 ·intro r
  induction r with
  | made hl hm=>
   refine Ub (P:=fun bs:List Bool=>bs.getD _ false=true) (fun bs t _ q=>Qb8 q) ?_;unfold Q9f;rw [List.getD,E3,F5 hl];simpa using hm
  | @lent o g r hl he ih=>
   by_cases e:o=g
   ·subst e; exact ih r.lt
   ·exact Q9e n tb o g r.lt hl e he (ih r.lt)
def RdOk (n:Nat) (fs:List Nat):Prop:=(∀ x∈fs,x < n)/\fs.Nodup
theorem Q2x:∀ {n:Nat} {fs:List Nat},(∀ x∈fs,x < n)->fs.Nodup->fs.length<=n
 | 0,[],_,_=>O4 _
 | 0,x :: _,h,_=>absurd (h x D3) (Nat.not_lt_zero _)
 | n + 1,fs,h,d=>by
  by_cases hm:n∈fs
  ·have h1:(fs.erase n).length<=n:=Q2x (fun x hx=>by
    have h2:=(d.mem_erase_iff).mp hx;have:=h x h2.2;omega) (d.erase n)
   rw [List.length_erase_of_mem hm] at h1;omega
  ·have:=Q2x (n:=n) (fs:=fs) (fun x hx=>by
    have:=h x hx;have:x≠n:=fun e=>hm (e ▸ hx)
    omega) d
   omega
theorem RdOk.len {fs:List Nat} (h:RdOk n fs):fs.length<=n:=Q2x h.1 h.2
def AhN (tb:List (List Int)) (fs:List Nat):Prop:=∀ k,k < fs.length->Ux tb (fs.getD k 0)=true\/∃ o∈fs.take k,0 < ent tb o (fs.getD k 0)
theorem AhN.snoc {fs:List Nat} {h:Nat} (a:AhN tb fs) (ha:Ux tb h=true\/∃ o∈fs,0 < ent tb o h):AhN tb (fs ++ [h]):=by
 intro k hk;rw [D0,List.length_singleton] at hk
 by_cases e:k < fs.length
 ·have:=a k e;rw [List.take_append_of_le_length (by omega)];rw [show (fs ++ [h]).getD k 0=fs.getD k 0 by rw [List.getD,List.getD,O9 e]];exact this
 ·have:k=fs.length:=by omega
  subst this;rw [show (fs ++ [h]).getD fs.length 0=h by simp [List.getD]];rw [List.take_left];exact ha
def Wn (fs:List Nat):List Int:=fs.map fun k:Nat=>(k:Int)
theorem Qmq {fs:List Nat} (r:RdOk n fs) (a:AhN tb fs):js n tb (Wn fs)=Q80 n tb (Wn fs):=by
 unfold js;have h1:((Wn fs).all fun (h:Int)=>decide (0<=h) && decide (h < n))=true:=by
  rw [F0];intro x hx;obtain ⟨k,hk,rfl⟩:=List.mem_map.mp hx;have:=r.1 k hk;simp; omega
 have h2:(Wn fs).Nodup:=by
  unfold Wn;refine List.Pairwise.map _ ?_ r.2;intro a b q e;exact q (by omega)
 have h3:Qa2 tb (Wn fs)=true:=by
  unfold Qa2;rw [F0];intro z hz;obtain ⟨k,hk,e⟩:=List.mem_iff_getElem.mp hz;have e':=O1.mpr ⟨hk,e⟩;have hk':k < fs.length:=by simpa [Wn] using hk
  rw [List.getElem?_zipIdx] at e';unfold Wn at e';rw [E3,getD_some hk' 0] at e';have:z=(((fs.getD k 0:Nat):Int),k):=by simpa using e'.symm
  rw [this];have ak:=a k hk';have hno:fs.getD k 0∉fs.take k:=fun hm=>by
   have hd:=r.2;unfold List.Nodup at hd;rw [List.pairwise_iff_getElem] at hd;obtain ⟨j,hj,ej⟩:=List.mem_iff_getElem.mp hm;rw [List.length_take] at hj;rw [List.getElem_take] at ej;refine hd j k (by omega) hk' (by omega) ?_;have:=getD_some hk' 0;rw [O3 hk'] at this;rw [ej];exact (Option.some.inj this).symm
  show Uv tb ((fs.getD k 0:Nat):Int).toNat (Q3s ((Wn fs).take k))=true;rw [Int.toNat_natCast];unfold Uv Q7w;rcases ak with ak | ⟨o,ho,he⟩
  ·rw [ak]; rfl
  ·rw [Bool.or_eq_true];refine .inr (List.any_eq_true.mpr ⟨o,?_,?_⟩)
   ·unfold Q3s Wn;rw [<- List.map_take,L9];exact List.mem_map.mpr ⟨o,ho,by simp⟩
   ·have hne:o≠fs.getD k 0:=fun e=>hno (e ▸ ho)
    simp only [F6,decide_eq_true_iff];exact ⟨hne,he⟩
 rw [h1,h3,bP h2];simp
def rdS (st:Q0) (fs:List Nat):Q0:=st ++ [Cell.lst (fs.map Qs)]
theorem Qi7 (st:Q0) (fs:List Nat):(rdS st fs)[st.length]?=some (.lst (fs.map Qs)):=by unfold rdS; simp
theorem Q0g (fs:List Nat):(Wn fs).map PV.int=fs.map Qs:=by unfold Wn; rw [L9]; rfl
theorem intsN_mem {fs:List Nat} {h:Nat}:(h:Int)∈Wn fs <-> h∈fs:=by
 unfold Wn;rw [List.mem_map];constructor
 ·rintro ⟨k,hk,e⟩;have:k=h:=by omega
  rw [<- this]; exact hk
 ·intro q; exact ⟨h,q,rfl⟩
def U9 (n:Nat) (fs:List Nat):List Nat:=(List.range n).filter fun h=>!decide (h∈fs)
def Up (n:Nat) (tb:List (List Int)) (fs:List Nat):List Nat:=(U9 n fs).filter fun h=>Uv tb h fs
structure GdR (n:Nat) (tb:List (List Int)) (fs:List Nat):Prop where
 rd:RdOk n fs
 ah:AhN tb fs
 rc:∀ h∈fs,Rc n tb h
theorem AhN.more :∀ {ds fs:List Nat},AhN tb fs->(∀ h∈ds,Ux tb h=true\/∃ o∈fs,0 < ent tb o h)->AhN tb (fs ++ ds)
 | [],fs,a,_=>by rw [G9]; exact a
 | d :: ds,fs,a,h=>by
  rw [show fs ++ d :: ds=(fs ++ [d]) ++ ds by simp];refine AhN.more (a.snoc (h d D3)) fun g hg=>?_
  rcases h g (O6 _ hg) with q | ⟨o,ho,q⟩
  ·exact .inl q
  ·exact .inr ⟨o,G7 _ ho,q⟩
theorem Q45 {fs:List Nat} {h:Nat} (q:h∈Up n tb fs):h < n/\h∉fs/\(Ux tb h=true\/∃ o∈fs,0 < ent tb o h):=by
 obtain ⟨q1,q2⟩:=List.mem_filter.mp q;obtain ⟨q3,q4⟩:=List.mem_filter.mp q1;refine ⟨D4.mp q3,by simpa using q4,?_⟩;unfold Uv Q7w at q2;rw [Bool.or_eq_true] at q2;rcases q2 with q2 | q2
 ·exact .inl q2
 ·obtain ⟨o,ho,e⟩:=List.any_eq_true.mp q2;rw [F6] at e;exact .inr ⟨o,ho,by simpa using e.2⟩
theorem GdR.step {fs:List Nat} (g:GdR n tb fs):GdR n tb (fs ++ Up n tb fs):=by
 refine ⟨⟨fun x hx=>?_,?_⟩,g.ah.more fun h q=>(Q45 q).2.2,fun h hx=>?_⟩
 ·rcases F7.mp hx with hx | hx
  ·exact g.rd.1 x hx
  ·exact (Q45 hx).1
 ·refine List.nodup_append.mpr ⟨g.rd.2,(List.nodup_range.filter _).filter _,fun a ha b hb e=>?_⟩;subst e;exact (Q45 hb).2.1 ha
 ·rcases F7.mp hx with hx | hx
  ·exact g.rc h hx
  ·obtain ⟨h1,_,h2 | ⟨o,ho,he⟩⟩:=Q45 hx
   ·exact .made h1 h2
   ·exact .lent (g.rc o ho) h1 he
theorem GdR.closed {fs:List Nat} (g:GdR n tb fs) (hc:Up n tb fs=[]) {h:Nat} (hh:h < n):h∈fs <-> Rc n tb h:=by
 refine ⟨g.rc h,fun r=>?_⟩;have hno:∀ k,k < n->k∉fs->Uv tb k fs=false:=fun k hk hm=>by
  cases e:Uv tb k fs with
  | false=>rfl
  | true=>
   have:k∈Up n tb fs:=List.mem_filter.mpr ⟨List.mem_filter.mpr ⟨D4.mpr hk,by simp [hm]⟩,e⟩;rw [hc] at this;cases this
 induction r with
 | @made k hl hm=>
  refine Classical.byContradiction fun q=>?_
  have:=hno k hl q;unfold Uv at this;rw [hm] at this;cases this
 | @lent o k r hl he ih=>
  refine Classical.byContradiction fun q=>?_
  have:=hno k hl q;unfold Uv Q7w at this;rw [Bool.or_eq_false_iff,List.any_eq_false] at this;have ho:=ih r.lt;have hne:o≠k:=fun e=>q (e ▸ ho)
  exact this.2 o ho (by simp [hne,he])
theorem Qmp (z:Sz n tb) (hn:n<=100) (st:Q0) (fs:List Nat) (r:RdOk n fs) (b a c:Option PV):Yy [some (Q3 tb),some (.ref st.length),b,a,c] (rdS st fs)=.nx [some (Q3 tb),some (.ref st.length),some (.bl (decide (0 < (Up n tb fs).length))),some (.lst ((U9 n fs).map Qs)),some (.lst ((Up n tb fs).map Qs))] (rdS st (fs ++ Up n tb fs)):=by
 have hn1:-1000000<=(n:Int)/\(n:Int)<=1000000:=by omega
 have hql:=r.len;have hS:=Qi7 st fs;have hat:ListAt (rdS st fs) (.ref st.length) ((Wn fs).map .int):=.inr (.inr ⟨_,rfl,by rw [Q0g]; exact hS⟩);have hat2:ListAt (rdS st fs) (.ref st.length) (fs.map Qs):=.inr (.inr ⟨_,rfl,hS⟩);have hln:Y1 (rdS st fs) [Q3 tb]=.ok (.int n) (rdS st fs):=by simp [Q3,z.1]
 have hc1:J4 (Qc 0) Yw V8 [] (J1 [none,some 1] [some (Q3 tb),some (.ref st.length),b,a,c]) (Zu 0 n) (rdS st fs)=.ok ((U9 n fs).map Qs) (rdS st fs):=by
  rw [V4];refine Xq _ _ _ (by simp) fun j hj=>⟨_,rfl,?_,fun ht=>?_⟩
  ·have hin:=Qjp hat (j:Int) true
   by_cases q:j∈fs
   ·have q':(j:Int)∈Wn fs:=intsN_mem.mpr q;generalize rdS st fs=S at *;simp -implicitDefEqProofs [J1,Yw,hin,q,q']
   ·have q':¬ (j:Int)∈Wn fs:=fun z=>q (intsN_mem.mp z)
    generalize rdS st fs=S at *;simp -implicitDefEqProofs [J1,Yw,hin,q,q']
  ·simp [J1,V8,Qs]
 have hol:(U9 n fs).length<=n:=by
  have:=List.length_filter_le (fun h=>!decide (h∈fs)) (List.range n)
  rw [F4] at this;exact this
 have hon:∀ h∈U9 n fs,h < n:=fun h hh=>D4.mp (List.mem_filter.mp hh).1
 have hc2:J4 (Qc 0) V3 V7 [] (J1 [none,some 0,some 1] [some (Q3 tb),some (.ref st.length),b,some (.lst ((U9 n fs).map Qs)),c]) ((U9 n fs).map Qs) (rdS st fs)=.ok ((Up n tb fs).map Qs) (rdS st fs):=by
  unfold Up;refine Xq _ _ _ (by simp) fun j hj=>⟨_,rfl,?_,fun ht=>?_⟩
  ·have hr:=Qdj z (h:=j) (hon j hj) r.1 (by omega) hat2;generalize Uv tb j fs=rb at *;generalize rdS st fs=S at *;generalize (U9 n fs).map Qs=ov at *;simp -implicitDefEqProofs [J1,V3,Qs,hr]
  ·simp [J1,V7,Qs]
 have hfl:(Up n tb fs).length<=n:=F1 (List.length_filter_le _ _) hol;have Qx3:(rdS st fs).set st.length (.lst (fs.map Qs ++ (Up n tb fs).map Qs))=rdS st (fs ++ Up n tb fs):=by
  unfold rdS;rw [G6];simp
 have l1:((U9 n fs).map Qs).length<=1000000:=by rw [O2]; omega
 have l2:(fs.map Qs).length + ((Up n tb fs).map Qs).length<=1000000:=by rw [O2,O2]; omega
 have l3:((Up n tb fs).map Qs).length=(Up n tb fs).length:=O2 _;generalize rdS st (fs ++ Up n tb fs)=S2 at *;generalize rdS st fs=S at *;generalize (U9 n fs).map Qs=ov at *;generalize (Up n tb fs).length=fl at *;generalize (Up n tb fs).map Qs=fv at *;generalize fs.map Qs=xv at *;rw [l3] at l2;simp -implicitDefEqProofs [Yy,hln,hn1,Qp,hc1,l1,hc2,hS,Wj,chg,l2,l3,Qx3]
theorem Qad {n:Nat} {tb:List (List Int)} (z:Sz n tb) (hn:n<=100) (st:Q0):∀ (m fuel:Nat) (fs:List Nat) (a c:Option PV),GdR n tb fs->n<=fs.length + m->m + 2<=fuel->∃ fs' b' a' c',GdR n tb fs'/\Up n tb fs'=[]/\U3 Zv Yy fuel [some (Q3 tb),some (.ref st.length),some (.bl true),a,c] (rdS st fs)=.nx [some (Q3 tb),some (.ref st.length),b',a',c'] (rdS st fs')
 | m,0,_,_,_,_,_,h=>absurd h (by omega)
 | m,1,_,_,_,_,_,h=>absurd h (by omega)
 | m,k + 2,fs,a,c,g,hm,hf=>by
  have ht:=Qmp z hn st fs g.rd (some (.bl true)) a c;have w1:∀ S,Zv [some (Q3 tb),some (.ref st.length),some (.bl true),a,c] S=.ok true S:=fun S=>by simp [Zv]
  by_cases e:Up n tb fs=[]
  ·refine ⟨fs,some (.bl false),some (.lst ((U9 n fs).map Qs)),some (.lst ((Up n tb fs).map Qs)),g,e,?_⟩;rw [U3,w1];simp only [Wh,if_true,ht];rw [U3];have w2:∀ S,Zv [some (Q3 tb),some (.ref st.length),some (.bl (decide (0 < (Up n tb fs).length))),some (.lst ((U9 n fs).map Qs)),some (.lst ((Up n tb fs).map Qs))] S=.ok false S:=fun S=>by simp [Zv,e]
   rw [w2];simp [e]
  ·have hp:0 < (Up n tb fs).length:=List.length_pos_iff.mpr e;have g':=g.step;have hl':=g'.rd.len;rw [D0] at hl';cases m with
   | zero=>omega
   | succ m=>
    obtain ⟨fs',b',a',c',h1,h2,h3⟩:=Qad z hn st m (k + 1) (fs ++ Up n tb fs) (some (.lst ((U9 n fs).map Qs))) (some (.lst ((Up n tb fs).map Qs))) g' (by rw [D0]; omega) (by omega);refine ⟨fs',b',a',c',h1,h2,?_⟩;rw [U3,w1];rw [bP hp] at ht;simp only [Wh,if_true,ht];exact h3
theorem Qc7 (z:Sz n tb) (hn:n<=100) (st:Q0):∃ fs,GdR n tb fs/\Up n tb fs=[]/\Wm [some (Q3 tb),none,none,none,none] st=.rt (.ref st.length) (rdS st fs):=by
 obtain ⟨fs,b',a',c',g,e,h⟩:=Qad z hn st n 100000 [] none none ⟨⟨fun x hx=>(by cases hx),List.nodup_nil⟩,fun k hk=>absurd hk (Nat.not_lt_zero _),fun x hx=>(by cases hx)⟩ (by simp) (by omega)
 refine ⟨fs,g,e,?_⟩;have hS:st ++ [Cell.lst []]=rdS st []:=rfl;generalize rdS st fs=S2 at *;generalize rdS st []=S1 at *;simp -implicitDefEqProofs [Wm,Qp,hS,h]
theorem Q2k (z:Sz n tb) (hn:n<=100) (st:Q0):∃ fs,GdR n tb fs/\Up n tb fs=[]/\Ye [Q3 tb] st=.ok (.lst (fs.map Qs)) st:=by
 obtain ⟨fs,g,e,h⟩:=Qc7 z hn st;refine ⟨fs,g,e,?_⟩;have hfz:=Qpt (n:=st.length) (r:=st.length) (S:=rdS st fs) (hs:=Wn fs) (O4 _) (by rw [Q0g]; exact Qi7 _ _);rw [Q0g] at hfz;have hpre:st <+: rdS st fs:=List.prefix_append _ _;generalize rdS st fs=S2 at *;show Qd Wm 5 [Q3 tb] st=_;unfold Qd;rw [show (([Q3 tb]:List PV).map some ++ List.replicate (5 - [Q3 tb].length) none)=[some (Q3 tb),none,none,none,none] from rfl,h];show Sm.fin st (.ref st.length) S2=_;unfold Sm.fin;rw [bM hpre,hfz];rfl
theorem Qs8 {fs:List Nat} (g:GdR n tb fs) (hc:Up n tb fs=[]):((List.range n).all fun h=>(Q31 n tb).getD h false || !Y0 tb h)=(List.range n).all fun h=>decide (h∈fs) || !Y0 tb h:=by
 rw [Bool.eq_iff_iff,F0,F0];have hh:∀ h,h∈List.range n->(decide (h∈fs) || !Y0 tb h)=((Q31 n tb).getD h false || !Y0 tb h):=fun h hm=>by
  have hlt:=D4.mp hm;congr 1;rw [Bool.eq_iff_iff,decide_eq_true_iff,g.closed hc hlt,Q5w n tb hlt]
 constructor <;> intro q x hx
 ·rw [hh x hx]; exact q x hx
 ·rw [<- hh x hx]; exact q x hx
def Uw (n:Nat) (tb:List (List Int)):Bool:=(List.range n).all fun h=>(Q31 n tb).getD h false || !Y0 tb h
theorem Qj2 {fs:List Nat} (g:GdR n tb fs) (hc:Up n tb fs=[]):(U9 n fs).any (Y0 tb)=!Uw n tb:=by
 unfold Uw;rw [Qs8 g hc];unfold U9;rw [List.any_filter,List.any_eq_not_all_not];congr 2;funext h;rw [Bool.not_and,Bool.not_not]
theorem qp {α:Type} (g:α->PV) (J:Gam->Prop) (Pd:α->Bool) (v:α->PV) {ga:GA} {body:MS} {w:Wt} {st:Q0} (hw:wOk w st):∀ {xs:List α},(∀ x∈xs,∀ Γ,J Γ->∃ Γ1,ga (g x) Γ=some Γ1/\(Pd x=true->∃ Γ2,J Γ2/\body Γ1 st=.nx Γ2 st)/\(Pd x=false->body Γ1 st=.rt (v x) st)) ->
  ∀ Γ,J Γ->(xs.all Pd=true->∃ Γ',J Γ'/\z8 ga body w (xs.map g) Γ st=.nx Γ' st)/\(xs.all Pd=false->∃ x∈xs,Pd x=false/\z8 ga body w (xs.map g) Γ st=.rt (v x) st)
 | [],_,Γ,hJ=>⟨fun _=>⟨Γ,hJ,by simp [z8,hw]⟩,fun h=>by simp at h⟩
 | x :: xs,h,Γ,hJ=>by
  obtain ⟨Γ1,h1,h2,h3⟩:=h x D3 Γ hJ;rw [G8,z8,bM hw,h1];cases px:Pd x with
  | false=>
   refine ⟨fun z=>by simp [px] at z,fun _=>⟨x,D3,px,?_⟩⟩
   simp only [h3 px]
  | true=>
   obtain ⟨Γ2,j2,e2⟩:=h2 px;have ih:=qp g J Pd v (ga:=ga) (body:=body) hw (xs:=xs) (fun y hy=>h y (O6 _ hy)) Γ2 j2
   simp only [e2,List.all_cons,px,Bool.true_and];exact ⟨ih.1,fun q=>by
    obtain ⟨y,hy,p,e⟩:=ih.2 q;exact ⟨y,O6 _ hy,p,e⟩⟩
def jn (n:Nat) (tb:List (List Int)):Bool:=((List.range n).all fun h=>decide (0<=Q8 tb h)) && Uw n tb
theorem U5 (z:Sz n tb) (hn:n<=100) (st:Q0):∃ us:List Nat,us.length<=n/\(us=[] <-> Uw n tb=true)/\Jf [Q3 tb] st=.ok (.lst (us.map Qs)) st:=by
 obtain ⟨fs,g,hc,e⟩:=Q2k z hn st;have hn1:-1000000<=(n:Int)/\(n:Int)<=1000000:=by omega
 have hln:Y1 st [Q3 tb]=.ok (.int n) st:=by simp [Q3,z.1]
 have hat:ListAt st (.lst (fs.map Qs)) ((Wn fs).map .int):=.inl (by rw [Q0g]);have hc1:J4 (Qc 0) Yf W5 [] (J1 [none,some 1] [some (Q3 tb),some (.lst (fs.map Qs)),none]) (Zu 0 n) st=.ok ((U9 n fs).map Qs) st:=by
  rw [V4];refine Xq _ _ _ (by simp) fun j hj=>⟨_,rfl,?_,fun ht=>?_⟩
  ·have hin:=Qjp hat (j:Int) true
   by_cases q:j∈fs
   ·have q':(j:Int)∈Wn fs:=intsN_mem.mpr q;generalize fs.map Qs=fv at *;simp -implicitDefEqProofs [J1,Yf,hin,q,q']
   ·have q':¬ (j:Int)∈Wn fs:=fun z=>q (intsN_mem.mp z)
    generalize fs.map Qs=fv at *;simp -implicitDefEqProofs [J1,Yf,hin,q,q']
  ·simp [J1,W5,Qs]
 have hol:(U9 n fs).length<=n:=by
  have:=List.length_filter_le (fun h=>!decide (h∈fs)) (List.range n)
  rw [F4] at this;exact this
 have hon:∀ h∈U9 n fs,h < n:=fun h hh=>D4.mp (List.mem_filter.mp hh).1
 have hob:=Qj2 g hc;have hc2:J4 (Qc 0) Zd W4 [] (J1 [none,some 0] [some (Q3 tb),some (.lst (fs.map Qs)),some (.lst ((U9 n fs).map Qs))]) ((U9 n fs).map Qs) st=.ok (((U9 n fs).map (Y0 tb)).map .bl) st:=by
  rw [L9];refine Yh _ _ (by simp) fun j hj=>⟨_,rfl,?_⟩
  have hb:=Qej z (hon j hj) st;show _=Res.ok (PV.bl (Y0 tb j)) st;generalize Y0 tb j=rb at *;simp -implicitDefEqProofs [J1,W4,Qs,hb]
 have ha:(U9 n fs).any (Y0 tb)=((U9 n fs).map (Y0 tb)).any id:=(Q9z _ _).symm;have l1:((U9 n fs).map Qs).length<=1000000:=by rw [O2]; omega
 have hgd:fin st (.lst ((U9 n fs).map Qs)) st=.ok (.lst ((U9 n fs).map Qs)) st:=Zw (by simp [Z6,Qs]);have hgn:fin st (.lst []) st=.ok (.lst []) st:=Zw (by simp [Z6]);cases hr:Uw n tb with
 | true=>
  refine ⟨[],by simp,by simp,?_⟩;rw [hr,ha] at hob;rw [List.map_nil];generalize (U9 n fs).map (Y0 tb)=bs at *;generalize (U9 n fs).map Qs=ov at *;have hob:bs.any id=false:=hob;simp -implicitDefEqProofs [Jf,Qd,V5,e,hln,hn1,Qp,hc1,l1,hc2,hob,hgn]
 | false=>
  rw [hr] at hob;refine ⟨U9 n fs,hol,⟨fun q=>?_,fun q=>by cases q⟩,?_⟩
  ·rw [q] at hob; cases hob
  ·rw [ha] at hob;have hob:((U9 n fs).map (Y0 tb)).any id=true:=hob;generalize (U9 n fs).map (Y0 tb)=bs at *;generalize (U9 n fs).map Qs=ov at *;simp -implicitDefEqProofs [Jf,Qd,V5,e,hln,hn1,Qp,hc1,l1,hc2,hob,hgd]
theorem Qgk (z:Sz n tb) (hn:n<=100) (st:Q0):∃ (s:Str) (v:PV),Qw [Q3 tb] st=.ok (.tup [.str s,v]) st/\(s == (Str.ofString "comes"))=jn n tb:=by
 have hn1:-1000000<=(n:Int)/\(n:Int)<=1000000:=by omega
 have hln:∀ S,Y1 S [Q3 tb]=.ok (.int n) S:=fun S=>by simp [Q3,z.1]
 have L:=qp (fun k:Nat=>PV.int (k:Int)) (fun Γ=>∃ a,Γ=[some (Q3 tb),a,none]) (fun h=>decide (0<=Q8 tb h)) (fun h=>.tup [.str "short",.int h]) (ga:=Qc 1) (body:=J5) (w:=[]) (st:=st) (by simp) (xs:=List.range n) (fun h hh Γ ⟨a,e⟩=>by
  subst e;have hr:=Q0a z hn (D4.mp hh) st;refine ⟨_,rfl,fun hp=>⟨[some (Q3 tb),some (.int h),none],⟨_,rfl⟩,?_⟩,fun hp=>?_⟩
  ·have hnn:0<=Q8 tb h:=by simpa using hp
   have:¬ (Q8 tb h < 0):=by omega
   generalize Q8 tb h=x at *;simp -implicitDefEqProofs [J5,hr,this]
  ·have hnn:¬ 0<=Q8 tb h:=by simpa using hp
   have:Q8 tb h < 0:=by omega
   generalize Q8 tb h=x at *;simp -implicitDefEqProofs [J5,hr,this,Qp])
 have L:=L [some (Q3 tb),none,none] ⟨_,rfl⟩;rw [<- V4] at L;unfold jn;cases ha:(List.range n).all fun h=>decide (0<=Q8 tb h) with
 | false=>
  obtain ⟨h,hh,hp,e⟩:=L.2 ha;refine ⟨"short",.int h,?_,by rw [Bool.false_and]; decide +kernel⟩;have hg:fin st (.tup [.str "short",.int h]) st=.ok (.tup [.str "short",.int h]) st:=Zw (by simp [Z6]);simp -implicitDefEqProofs [Qw,Qd,W1,hln,hn1,Qp,e,hg]
 | true=>
  obtain ⟨Γ',⟨a,rfl⟩,e⟩:=L.1 ha;obtain ⟨us,hl,hne,e1⟩:=U5 z hn st;cases hr:Uw n tb with
  | true=>
   have hu:=hne.mpr hr;subst hu;obtain ⟨fs,g,hc,e2⟩:=Q2k z hn st;refine ⟨"comes",.lst (fs.map Qs),?_,by rw [Bool.true_and]; decide +kernel⟩;have hg:fin st (.tup [.str "comes",.lst (fs.map Qs)]) st=.ok (.tup [.str "comes",.lst (fs.map Qs)]) st:=Zw (by simp [Z6,Qs]);rw [List.map_nil] at e1;generalize fs.map Qs=fv at *;simp -implicitDefEqProofs [Qw,Qd,W1,hln,hn1,Qp,e,e1,e2,hg]
  | false=>
   have hu:us≠[]:=fun q=>by rw [hne.mp q] at hr; cases hr
   refine ⟨"rootless",.lst (us.map Qs),?_,by rw [Bool.true_and]; decide +kernel⟩;have hp:0 < (us.map Qs).length:=by rw [O2]; exact List.length_pos_iff.mpr hu
   have hg:fin st (.tup [.str "rootless",.lst (us.map Qs)]) st=.ok (.tup [.str "rootless",.lst (us.map Qs)]) st:=Zw (by simp [Z6,Qs]);generalize us.map Qs=uv at *;simp -implicitDefEqProofs [Qw,Qd,W1,hln,hn1,Qp,e,e1,hp,hg]
theorem Qdy {a b:List (List Int)} (h:a.length=b.length) (st:Q0):J0 [Q3 a,Q3 b] st=.ok .non st:=by
 simp [J0,Qd,Wx,Q3,h]
def Qaf (r1 r2:List Int):Bool:=(r1.zip r2).all fun z=>decide (z.1<=z.2)
theorem Q6k (r1 r2:List Int) (st:Q0) (hl:r1.length<=lim):Yv [Qh r1,Qh r2] st=.ok (.bl (Qaf r1 r2)) st:=by
 have hc:J4 (Xd (Zc (Qc 0) (Zc (Qc 1) Xe))) Zd V9 [] (J1 [none,none] [some (Qh r1),some (Qh r2)]) ((r1.zip r2).map fun z=>.tup [.int z.1,.int z.2]) st=.ok ((r1.zip r2).map fun z=>.bl (decide (z.1<=z.2))) st:=by
  refine Yh _ _ (by simp) fun z hz=>⟨_,rfl,?_⟩
  simp [J1,V9]
 unfold Qh at hc ⊢;simp [Yv,Qd,Kb,hl,Q4b,hc,Q6d,Qaf]
theorem Qg5 (r:List Int) (n:Int) (st:Q0) (hl:r.length<=lim):zi [Qh r,.int n] st=.ok (.bl (decide ((r.length:Int)=n + 1) && r.all fun i=>decide (0<=i))) st:=by
 have hc:J4 (Qc 0) Zd yt [] (J1 [none] [some (Qh r),some (.int n)]) (r.map .int) st=.ok (r.map fun i=>.bl (decide (0<=i))) st:=by
  refine Yh _ _ (by simp) fun i hi=>⟨_,rfl,?_⟩
  simp [J1,yt,yn]
 unfold Qh at hc ⊢
 by_cases h:(r.length:Int)=n + 1 <;> simp [zi,Qd,Q5r,isI,tyN,hc,h,hl,Q6d]
theorem Qba (w:Wt' n tb) (st:Q0):Xt [Q3 tb] st=.ok (.bl true) st:=by
 have h1:=w.n1;have h8:=w.n8;have hc:J4 (Qc 0) Zd Ky [] (J1 [none,some 0] [some (Q3 tb)]) (tb.map Qh) st=.ok (tb.map fun _=>.bl true) st:=by
  refine Yh _ _ (by simp) fun r hr=>⟨_,rfl,?_⟩
  have e:=w.row r hr;have e2:=Qg5 r tb.length st (by rw [e,Qp]; omega);simp [J1,Ky,Q3,e2];rw [w.len,e];exact ⟨by omega,w.nn r hr⟩
 unfold Q3 at hc ⊢;have h1':(1:Int)<=n:=by omega
 have h8':(n:Int)<=8:=by omega
 have hl:n<=1000000:=by omega
 simp [Xt,Qd,Q19,isI,tyN,hc,w.len,Q6d,h1',h8',Qp,hl]
def xt (x y:Int):Int:=if y > x then y else x
theorem Qcm (x y:Int):x<=xt x y:=by unfold xt; split <;> omega
theorem Qje (x y:Int):y<=xt x y:=by unfold xt; split <;> omega
theorem Q41 (x y:Int):xt x y=x\/xt x y=y:=by unfold xt; split <;> simp
theorem Q7q {x y:Int} (h:y<=x):xt x y=x:=by unfold xt; rw [bN (by omega)]
def jy (a b:List Int):List Int:=(a.zip b).map fun z=>xt z.1 z.2
def W3 (a b:List (List Int)):List (List Int):=(a.zip b).map fun z=>jy z.1 z.2
theorem Q74 (a b:List Int) (hl:a.length<=lim) (st:Q0):Vs [Qh a,Qh b] st=.ok (Qh (jy a b)) st:=by
 have hc:J4 (Xd (Zc (Qc 0) (Zc (Qc 1) Xe))) Zd X5 [] (J1 [none,none] [some (Qh a),some (Qh b)]) ((a.zip b).map fun z=>.tup [.int z.1,.int z.2]) st=.ok ((a.zip b).map fun z=>.int (xt z.1 z.2)) st:=by
  refine Yh _ _ (by simp) fun z hz=>⟨_,rfl,?_⟩
  simp [J1,X5,xt]
 have e:((a.zip b).map fun z=>PV.int (xt z.1 z.2))=(jy a b).map .int:=by unfold jy; rw [L9]; rfl
 rw [e] at hc;have hg:Z6 12 (.tup ((jy a b).map .int))=true:=by simp [Z6]
 generalize jy a b=q at *;unfold Qh at hc ⊢;simp [Vs,Qd,yg,hl,Q4b,hc,Zw hg]
theorem Q7z {a b:List (List Int)} (h:a.length=b.length) (hl:a.length<=lim) (hr:∀ r∈a,r.length<=lim) (st:Q0):K2 [Q3 a,Q3 b] st=.ok (Q3 (W3 a b)) st:=by
 have hc:J4 (Xd (Zc (Qc 0) (Zc (Qc 1) Xe))) Zd yr [] (J1 [none,none] [some (Q3 a),some (Q3 b)]) ((a.zip b).map fun z=>.tup [Qh z.1,Qh z.2]) st=.ok ((a.zip b).map fun z=>Qh (jy z.1 z.2)) st:=by
  refine Yh _ _ (by simp) fun z hz=>⟨_,rfl,?_⟩
  have:=Q74 z.1 z.2 (hr _ (List.of_mem_zip hz).1) st;simp [J1,yr,this]
 have e:((a.zip b).map fun z=>Qh (jy z.1 z.2))=(W3 a b).map Qh:=by unfold W3; rw [L9]; rfl
 rw [e] at hc;have hn:=Qdy h st;have hg:Z6 12 (.tup ((W3 a b).map Qh))=true:=by simp [Z6,Qh]
 generalize W3 a b=q at *;unfold Q3 at hc hn ⊢;simp [K2,Qd,Q5q,hl,Q4b,hc,hn,Zw hg]
theorem Qg3 {a b:List Int} (h:a.length=b.length):(jy a b).length=a.length:=by unfold jy; simp [h]
theorem Q8k {a b:List (List Int)} (za:Sz n a) (zb:Sz n b):Sz n (W3 a b):=by
 refine ⟨by unfold W3; simp [za.1,zb.1],fun r hr=>?_⟩;obtain ⟨z,hz,rfl⟩:=List.mem_map.mp hr;have:=List.of_mem_zip hz;rw [Qg3 (by rw [za.2 _ this.1,zb.2 _ this.2]),za.2 _ this.1]
theorem qr {i:Nat} {a b:List (List Int)} (za:Sz n a) (zb:Sz n b) (hi:i < n) (hj:j<=n):ent (W3 a b) i j=xt (ent a i j) (ent b i j):=by
 have ra:=za.row hi;have rb:=zb.row hi;have ca:=za.cell hi hj;have cb:=zb.cell hi hj;have e1:(W3 a b).getD i []=jy (a.getD i []) (b.getD i []):=by
  unfold W3;rw [List.getD,E3,(List.getElem?_zip_eq_some (z:=(a.getD i [],b.getD i []))).mpr ⟨ra.1,rb.1⟩];rfl
 have e2:(jy (a.getD i []) (b.getD i []))[j]?=some (xt (ent a i j) (ent b i j)):=by
  unfold jy;rw [E3,(List.getElem?_zip_eq_some (z:=(ent a i j,ent b i j))).mpr ⟨ca,cb⟩];rfl
 unfold ent;rw [e1,List.getD,e2];rfl
def Q4p (n:Nat) (tb:List (List Int)):Int:=J3 n (fun o=>ent tb o o) - J3 n (fun o=>ent tb o n)
theorem Q13 (z:Sz n tb):J3 n (Q8 tb)=Q4p n tb:=by
 rw [Qi fun h hh=>Wa z hh,Uq,Uq,U8,Qeu n n fun h o=>ent tb o h,Q4p]
 omega
def W0 (n:Nat):List Int:=List.replicate (n + 1) 0
theorem Q3v (h1:1<=n) (h8:n<=8):Wt' n (List.replicate n (W0 n)):=by
 refine ⟨by simp,fun r hr=>?_,fun r hr x hx=>?_,h1,h8⟩
 ·rw [List.eq_of_mem_replicate hr]; simp [W0]
 ·rw [List.eq_of_mem_replicate hr] at hx;rw [List.eq_of_mem_replicate hx];exact Int.le_refl _
def Yg (tb:List (List Int)) (i j:Nat) (x:Int):List (List Int):=tb.set i ((tb.getD i []).set j x)
theorem Vm {i:Nat} (z:Sz n tb) (hi:i < n) (hj:j<=n) (x:Int) (a b:Nat):ent (Yg tb i j x) a b=if a=i/\b=j then x else ent tb a b:=by
 unfold ent Yg;have hl:=(z.row hi).2
 by_cases ha:a=i
 ·subst ha;rw [show (tb.set a ((tb.getD a []).set j x)).getD a []=(tb.getD a []).set j x by rw [List.getD,D7 (by rw [z.1]; exact hi)]; rfl]
  by_cases hb:b=j
  ·subst hb;rw [bM ⟨rfl,rfl⟩,List.getD,D7 (by omega)]; rfl
  ·rw [bN (fun q=>hb q.2),List.getD,D5 (fun q=>hb q.symm)]; rfl
 ·rw [bN (fun q=>ha q.1)];rw [show (tb.set i ((tb.getD i []).set j x)).getD a []=tb.getD a [] by rw [List.getD,D5 (fun q=>ha q.symm)]; rfl]
theorem Va (n i:Nat) (k:Int):J3 n (fun o=>if o=i then k else 0)=if i < n then k else 0:=by
 induction n with
 | zero=>rfl
 | succ n ih=>
  rw [Qx,ih]
  by_cases e:n=i
  ·subst e; simp
  ·rw [bN e]
   by_cases h:i < n
   ·rw [bM h,bM (by omega)]; omega
   ·rw [bN h,bN (by omega)]; omega
theorem Vi {i:Nat} (z:Sz n tb) (hi:i < n) (x:Int):Sz n (Yg tb i j x):=by
 unfold Yg;refine ⟨by rw [F2]; exact z.1,fun r hr=>?_⟩;rcases List.mem_or_eq_of_mem_set hr with hr | rfl
 ·exact z.2 r hr
 ·rw [F2]; exact (z.row hi).2
theorem W9 {i:Nat} (z:Sz n tb) (hi:i < n) (hj:j<=n) (k:Int) {h:Nat} (hh:h < n) :
  Q8 (Yg tb i j (ent tb i j + k)) h=Q8 tb h + (if h=j then k else 0) - (if h=i then k else 0) + (if h=i/\j=i then k else 0):=by
 have z':=Vi (j:=j) z hi (ent tb i j + k);have he:∀ a b,ent (Yg tb i j (ent tb i j + k)) a b=ent tb a b + if a=i/\b=j then k else 0:=fun a b=>by
  rw [Vm z hi hj]
  split
  ·rename_i q; rw [q.1,q.2]
  ·omega
 rw [Wa z' hh,Wa z hh];have c1:J3 n (fun o=>ent (Yg tb i j (ent tb i j + k)) o h)=J3 n (fun o=>ent tb o h) + if h=j then k else 0:=by
  rw [Qi (g:=fun o=>ent tb o h + if o=i then (if h=j then k else 0) else 0) fun o _=>by
   rw [he]
   by_cases q1:o=i <;> by_cases q2:h=j <;> simp [q1,q2],U8,Va,bM hi]
 have c2:J3 n (fun b=>ent (Yg tb i j (ent tb i j + k)) h b) + ent (Yg tb i j (ent tb i j + k)) h n=J3 n (fun b=>ent tb h b) + ent tb h n + if h=i then k else 0:=by
  rw [<- Qx,<- Qx,Qi (g:=fun b=>ent tb h b + if b=j then (if h=i then k else 0) else 0) fun b _=>by
   rw [he]
   by_cases q1:h=i <;> by_cases q2:b=j <;> simp [q1,q2],U8,Va,bM (by omega)]
 rw [c1,c2,he]
 by_cases q1:h=i <;> by_cases q2:j=i <;> by_cases q3:h=j <;> simp [q1,q2,q3] <;> omega
structure Ca (n:Nat) (tb:List (List Int)):Prop where
 nn:∀ h,h < n->0<=Q8 tb h
 bz:∀ h,h < n->Y0 tb h=true->Rc n tb h
theorem Ca.comes (c:Ca n tb):jn n tb=true:=by
 unfold jn Uw;rw [F6,F0,F0];refine ⟨fun h hh=>by simp [c.nn h (D4.mp hh)],fun h hh=>?_⟩;have hh:=D4.mp hh;cases hb:Y0 tb h with
 | false=>simp
 | true=>rw [(Q5w n tb hh).mpr (c.bz h hh hb)]; rfl
theorem Rc.mono {t1 t2:List (List Int)} (h:∀ a b,a < n->b < n->ent t1 a b<=ent t2 a b) (r:Rc n t1 g):Rc n t2 g:=by
 induction r with
 | @made k hl hm=>
  refine .made hl ?_;unfold Ux at *;have:=h k k hl hl;simp at hm;simp; omega
 | @lent o k r hl he ih=>
  have:=h o k r.lt hl;exact .lent ih hl (by omega)
theorem Wp (w:Wt' n tb) {h:Nat} (hh:h < n):Y0 tb h=true <-> ∃ j,j<=n/\j≠h/\0 < ent tb h j:=by
 rw [<- Qek w hh];unfold Qem;rw [List.any_eq_true];constructor
 ·rintro ⟨j,hj,q⟩;simp at q;exact ⟨j,by have:=D4.mp hj; omega,q.1,q.2⟩
 ·rintro ⟨j,hj,q1,q2⟩;exact ⟨j,D4.mpr (by omega),by simp [q1,q2]⟩
theorem Ca.rc_of (w:Wt' n tb) (c:Ca n tb) {i:Nat} (hi:i < n) (hr:1<=Q8 tb i):Rc n tb i:=by
 rw [Wa w.sz hi] at hr;have hrow:ent tb i i<=J3 n (fun j=>ent tb i j):=Q1i (fun j hj=>w.ent_nn hi (O7 hj)) hi
 have hnn:=w.ent_nn hi (O4 n);have:∃ o,o < n/\0 < ent tb o i:=by
  refine Classical.byContradiction fun q=>?_
  have:J3 n (fun o=>ent tb o i)=J3 n fun _=>0:=Qi fun o ho=>by
   have h1:=w.ent_nn ho (O7 hi);have h2:¬ 0 < ent tb o i:=fun z=>q ⟨o,ho,z⟩
   omega
  rw [Vg] at this;omega
 obtain ⟨o,ho,he⟩:=this
 by_cases e:o=i
 ·subst e;exact .made hi (by unfold Ux; simp [he])
 ·exact .lent (c.bz o ho ((Wp w ho).mpr ⟨i,O7 hi,fun z=>e z.symm,he⟩)) hi he
theorem Ca.make {i:Nat} (w:Wt' n tb) (c:Ca n tb) (hi:i < n) {k:Int} (hk:0<=k) (w':Wt' n (Yg tb i i (ent tb i i + k))):Ca n (Yg tb i i (ent tb i i + k)):=by
 have hle:∀ a b,ent tb a b<=ent (Yg tb i i (ent tb i i + k)) a b:=fun a b=>by
  rw [Vm w.sz hi (O7 hi)]
  split
  ·rename_i q; rw [q.1,q.2]; omega
  ·omega
 refine ⟨fun h hh=>?_,fun h hh hb=>?_⟩
 ·rw [W9 w.sz hi (O7 hi) k hh];have:=c.nn h hh
  by_cases q:h=i <;> simp [q] at * <;> omega
 ·obtain ⟨j,hj,q1,q2⟩:=(Wp w' hh).mp hb;rw [Vm w.sz hi (O7 hi)] at q2;rw [bN (fun q=>q1 (by omega))] at q2
  exact (c.bz h hh ((Wp w hh).mpr ⟨j,hj,q1,q2⟩)).mono fun a b _ _=>hle a b
theorem Ca.give {i:Nat} (w:Wt' n tb) (c:Ca n tb) (hi:i < n) (hj:j<=n) (hne:j≠i) {k:Int} (hk:0<=k) (hr:k<=Q8 tb i) (hr1:1<=Q8 tb i) (w':Wt' n (Yg tb i j (ent tb i j + k))):Ca n (Yg tb i j (ent tb i j + k)):=by
 have hle:∀ a b,ent tb a b<=ent (Yg tb i j (ent tb i j + k)) a b:=fun a b=>by
  rw [Vm w.sz hi hj]
  split
  ·rename_i q; rw [q.1,q.2]; omega
  ·omega
 refine ⟨fun h hh=>?_,fun h hh hb=>?_⟩
 ·rw [W9 w.sz hi hj k hh];have:=c.nn h hh
  by_cases q:h=i
  ·subst q;rw [bN (fun z=>hne z.symm),bM rfl,bN (fun z=>hne z.2)];omega
  ·by_cases q2:h=j
   ·rw [bM q2,bN q,bN (fun z=>q z.1)]; omega
   ·rw [bN q2,bN q,bN (fun z=>q z.1)]; omega
 ·by_cases q:h=i
  ·subst q;exact (c.rc_of w hi hr1).mono fun a b _ _=>hle a b
  ·obtain ⟨b,hb1,q1,q2⟩:=(Wp w' hh).mp hb;rw [Vm w.sz hi hj,bN (fun z=>q z.1)] at q2;exact (c.bz h hh ((Wp w hh).mpr ⟨b,hb1,q1,q2⟩)).mono fun a b _ _=>hle a b
theorem Ca.zero (h1:1<=n) (h8:n<=8) (w:Wt' n (List.replicate n (W0 n))):Ca n (List.replicate n (W0 n)):=by
 have he:∀ a b,a < n->b<=n->ent (List.replicate n (W0 n)) a b=0:=fun a b ha hb=>by
  unfold ent W0;rw [show (List.replicate n (List.replicate (n + 1) (0:Int))).getD a []=List.replicate (n + 1) 0 by rw [List.getD,F8,bM ha]; rfl];rw [List.getD,F8,bM (by omega)]; rfl
 refine ⟨fun h hh=>?_,fun h hh hb=>?_⟩
 ·rw [Wa w.sz hh,Qi (g:=fun _=>0) fun o ho=>he o h ho (O7 hh),Qi (f:=fun j=>ent (List.replicate n (W0 n)) h j) (g:=fun _=>0) fun o ho=>he h o hh (O7 ho),Vg,he h n hh (O4 n),he h h hh (O7 hh)]
  omega
 ·obtain ⟨j,hj,_,q⟩:=(Wp w hh).mp hb;rw [he h j hh hj] at q;omega
theorem Qef (w:Wt' n tb) (st:Q0):Yd [Q3 tb] st=.ok (.bl (jn n tb)) st:=by
 have h8:=w.n8;obtain ⟨s,v,e,hs⟩:=Qgk w.sz (by omega) st;have ht:=Qba w st;rw [<- hs];generalize Q3 tb=T at *;simp -implicitDefEqProofs [Yd,Qd,Uy,ht,e,atI,ixN]
theorem Wt'.set0 {i:Nat} (w:Wt' n tb) (hi:i < n) {x:Int} (hx:0<=x):Wt' n (tb.set i ((tb.getD i []).set j x)):=by
 have hr:=(w.sz.row hi).1;have hm:=E4 hr;generalize tb.getD i []=r at *;refine ⟨by rw [F2]; exact w.len,fun q hq=>?_,fun q hq y hy=>?_,w.n1,w.n8⟩
 ·rcases List.mem_or_eq_of_mem_set hq with hq | rfl
  ·exact w.row q hq
  ·rw [F2]; exact w.row r hm
 ·rcases List.mem_or_eq_of_mem_set hq with hq | rfl
  ·exact w.nn q hq y hy
  ·rcases List.mem_or_eq_of_mem_set hy with hy | rfl
   ·exact w.nn r hm y hy
   ·exact hx
theorem Q3x (xs:List α) (i:Nat) (x:α) (h:i < xs.length):xs.take i ++ [x] ++ xs.drop (i + 1)=xs.set i x:=by
 rw [List.set_eq_take_append_cons_drop,bM h,L5]; rfl
theorem Q0c {i:Nat} (z:Sz n tb) (hn:n<=100) (hi:i < n) (hj:j<=n) (k:Int) (st:Q0):Vf [Q3 tb,.int i,.int j,.int k] st=.ok (Q3 (Yg tb i j (ent tb i j + k))) st:=by
 have c0:=Kz z hi hj st;have hrl:=(z.row hi).2;have g1:Qh ((tb.getD i []).set j (ent tb i j + k))=.tup (((tb.getD i []).take j).map .int ++ [.int (ent tb i j + k)] ++ ((tb.getD i []).drop (j + 1)).map .int):=by
  unfold Qh;rw [<- Q3x _ _ _ (by omega),G6,G6]; rfl
 have g2:Q3 (Yg tb i j (ent tb i j + k))=.tup ((tb.take i).map Qh ++ [Qh ((tb.getD i []).set j (ent tb i j + k))] ++ (tb.drop (i + 1)).map Qh):=by
  unfold Q3 Yg;rw [<- Q3x _ _ _ (by rw [z.1]; exact hi),G6,G6]; rfl
 have c3:cut ((tb.getD i []).map PV.int) none (some (j:Int))=((tb.getD i []).take j).map .int:=by rw [Xz,zc]
 have c4:cut ((tb.getD i []).map PV.int) (some ((j:Int) + 1)) none=((tb.getD i []).drop (j + 1)).map .int:=by rw [Xz]; exact congrArg _ (Q04 _ (j + 1))
 have c5:cut (tb.map Qh) none (some (i:Int))=(tb.take i).map Qh:=by rw [Xz,zc]
 have c6:cut (tb.map Qh) (some ((i:Int) + 1)) none=(tb.drop (i + 1)).map Qh:=by rw [Xz]; exact congrArg _ (Q04 _ (i + 1))
 have l3:(((tb.getD i []).take j).map PV.int).length=j:=by rw [O2,List.length_take,hrl]; omega
 have l4:(((tb.getD i []).drop (j + 1)).map PV.int).length=n - j:=by rw [O2,List.length_drop,hrl]; omega
 have l5:((tb.take i).map Qh).length=i:=by rw [O2,List.length_take,z.1]; omega
 have l6:((tb.drop (i + 1)).map Qh).length=n - (i + 1):=by rw [O2,List.length_drop,z.1]
 have b1:j + 1<=1000000:=by omega
 have b2:j + 1 + (n - j)<=1000000:=by omega
 have b3:i + 1<=1000000:=by omega
 have b4:i + 1 + (n - (i + 1))<=1000000:=by omega
 have hf:fin st (Q3 (Yg tb i j (ent tb i j + k))) st=.ok (Q3 (Yg tb i j (ent tb i j + k))) st:=Zw (by simp [Z6,Q3,Qh]);obtain ⟨c1,c2⟩:=c0;have q1:oSl st (Qh (tb.getD i [])) none (some (j:Int))=.ok (.tup (((tb.getD i []).take j).map .int)) st:=by unfold Qh; rw [qv,c3]
 have q2:oSl st (Qh (tb.getD i [])) (some ((j:Int) + 1)) none=.ok (.tup (((tb.getD i []).drop (j + 1)).map .int)) st:=by unfold Qh; rw [qv,c4]
 have q3:oSl st (Q3 tb) none (some (i:Int))=.ok (.tup ((tb.take i).map Qh)) st:=by unfold Q3; rw [qv,c5]
 have q4:oSl st (Q3 tb) (some ((i:Int) + 1)) none=.ok (.tup ((tb.drop (i + 1)).map Qh)) st:=by unfold Q3; rw [qv,c6]
 rw [g2] at hf ⊢;rw [g1] at hf ⊢;generalize ent tb i j=x at *;generalize ((tb.getD i []).take j).map PV.int=v3 at *;generalize ((tb.getD i []).drop (j + 1)).map PV.int=v4 at *;generalize (tb.take i).map Qh=v5 at *;generalize (tb.drop (i + 1)).map Qh=v6 at *;generalize Qh (tb.getD i [])=rv at *;generalize Q3 tb=T at *;simp -implicitDefEqProofs at hf;simp -implicitDefEqProofs [Vf,Qd,Q5n,c1,c2,q1,q2,q3,q4,Qp,l3,l4,l5,l6,b1,b2,b3,b4,hf]
theorem Qq5 (n:Nat) (h1:1<=n) (hn:n<=8) (st:Q0):Q1h [.int n] st=.ok (Q3 (List.replicate n (List.replicate (n + 1) 0))) st:=by
 have h2:n + 1<=4096:=by omega
 have h3:n<=4096:=by omega
 have h4:(1:Int)<=n + 1:=by omega
 have h6:(1:Int)<=n:=by omega
 have h5:((n:Int) + 1).toNat=n + 1:=by omega
 have hg:Z6 12 (Q3 (List.replicate n (List.replicate (n + 1) 0)))=true:=by simp [Z6,Q3,Qh]
 have hf:=Zw (st:=st) hg;have et:Q3 (List.replicate n (List.replicate (n + 1) 0))=PV.tup (List.replicate n (PV.tup (List.replicate (n + 1) (.int 0)))):=by
  simp only [Q3,Qh,List.map_replicate]
 rw [et] at hf ⊢;simp -implicitDefEqProofs [Q1h,Qd,Qct,Qp,h5,h2,h3,h4,h1,h6,hf]
def rb2 (n:Nat) (tb:List (List Int)) (h pl:Nat):List (List Int):=Yg (Yg tb h h (ent tb h h + (-1))) h pl (ent (Yg tb h h (ent tb h h + (-1))) h pl + (-1))
def Z8 (n:Nat) (tb:List (List Int)) (h pl:Nat):List (List Int):=if pl=n then rb2 n tb h pl else Yg (rb2 n tb h pl) pl pl (ent (rb2 n tb h pl) pl pl + 1)
structure Op (n:Nat) (tb:List (List Int)) (h pl:Nat):Prop where
 hh:h < n
 hp:pl<=n
 ne:pl≠h
 d:0 < ent tb h h
 o:0 < ent tb h pl
variable {n:Nat} {tb:List (List Int)}
section
variable {h pl:Nat}
theorem Qi9 (z:Sz n tb) (hh:h < n) (hp:pl<=n):Sz n (Z8 n tb h pl):=by
 have z2:Sz n (rb2 n tb h pl):=Vi (Vi z hh _) hh _;unfold Z8
 split
 ·exact z2
 ·exact Vi z2 (by omega) _
theorem jf (z:Sz n tb) (hh:h < n) (hp:pl<=n) (hne:pl≠h) (a b:Nat):ent (Z8 n tb h pl) a b=ent tb a b - (if a=h/\b=h then 1 else 0) - (if a=h/\b=pl then 1 else 0) + (if pl < n/\a=pl/\b=pl then 1 else 0):=by
 have z1:=Vi (j:=h) z hh (ent tb h h + (-1));have e1:∀ a b,ent (Yg tb h h (ent tb h h + (-1))) a b=ent tb a b - (if a=h/\b=h then 1 else 0):=fun a b=>by
  rw [Vm z hh (O7 hh)]
  split
  ·rename_i q; rw [q.1,q.2]; omega
  ·omega
 have z2:Sz n (rb2 n tb h pl):=Vi z1 hh _;have e2:∀ a b,ent (rb2 n tb h pl) a b=ent tb a b - (if a=h/\b=h then 1 else 0) - (if a=h/\b=pl then 1 else 0):=fun a b=>by
  unfold rb2;rw [Vm z1 hh hp]
  by_cases q:a=h/\b=pl
  ·rw [bM q,bM q,q.1,q.2,e1]; omega
  ·rw [bN q,bN q,e1]; omega
 unfold Z8
 by_cases hn:pl=n
 ·rw [bM hn,e2,bN (show ¬ (pl < n/\a=pl/\b=pl) by omega)]; omega
 ·rw [bN hn,Vm z2 (by omega) hp]
  by_cases q:a=pl/\b=pl
  ·rw [bM q,bM (show pl < n/\a=pl/\b=pl from ⟨by omega,q⟩),q.1,q.2,e2]
  ·rw [bN q,bN (show ¬ (pl < n/\a=pl/\b=pl) from fun y=>q y.2),e2]; omega
theorem jt (z:Sz n tb) (hh:h < n) (hp:pl<=n) (hne:pl≠h) (hg:g < n):Q8 (Z8 n tb h pl) g=Q8 tb g:=by
 have z1:=Vi (j:=h) z hh (ent tb h h + (-1));have z2:Sz n (rb2 n tb h pl):=Vi z1 hh _;have r1:=W9 z hh (O7 hh) (-1) hg;have r2:Q8 (rb2 n tb h pl) g=_:=W9 z1 hh hp (-1) hg;rw [r1] at r2;unfold Z8
 by_cases hn:pl=n
 ·rw [bM hn,r2];have:¬ g=pl:=by omega
  by_cases a:g=h <;> simp [a,this,hne] <;> omega
 ·rw [bN hn,W9 z2 (by omega) hp 1 hg,r2]
  by_cases a:g=h <;> by_cases b:g=pl <;> simp [a,b,hne] <;> omega
theorem Q50 (w:Wt' n tb) (o:Op n tb h pl):Wt' n (Z8 n tb h pl):=Wt'.of_ent (Qi9 w.sz o.hh o.hp) w.n1 w.n8 fun i j hi hj=>by
 rw [jf w.sz o.hh o.hp o.ne];have h1:=w.ent_nn hi hj;have h2:=o.d;have h3:=o.o;have h4:=o.ne
 by_cases a:i=h/\j=h
 ·rw [bM a,bN (show ¬ (i=h/\j=pl) by omega),a.1,a.2]
  split <;> omega
 ·rw [bN a]
  by_cases b:i=h/\j=pl
  ·rw [bM b,b.1,b.2]
   split <;> omega
  ·rw [bN b]
   split <;> omega
theorem Q2n (w:Wt' n tb) (o:Op n tb h pl) {a b:Nat} (ha:a≠h):ent tb a b<=ent (Z8 n tb h pl) a b:=by
 rw [jf w.sz o.hh o.hp o.ne,bN (fun q=>ha q.1),bN (fun q=>ha q.1)]
 split <;> omega
theorem Qia (w:Wt' n tb) (o:Op n tb h pl) (hpl:pl < n):0 < ent (Z8 n tb h pl) pl pl:=by
 rw [jf w.sz o.hh o.hp o.ne,bN (fun q=>o.ne q.1),bN (fun q=>o.ne q.1),bM ⟨hpl,rfl,rfl⟩];have:=w.ent_nn hpl o.hp;omega
theorem Qvm (w:Wt' n tb) (o:Op n tb h pl) {b:Nat} (h1:b≠h) (h2:b≠pl):ent (Z8 n tb h pl) h b=ent tb h b:=by
 rw [jf w.sz o.hh o.hp o.ne,bN (fun q=>h1 q.2),bN (fun q=>h2 q.2),bN (fun q=>h2 q.2.2)]; omega
theorem yf {t:List (List Int)} (hg:g < n) (he:0 < ent t g g):Rc n t g:=.made hg (by unfold Ux; simp [he])
theorem xu {t:List (List Int)} (m:Ux t g=true):0 < ent t g g:=by unfold Ux at m; simpa using m
theorem Qms (w:Wt' n tb) (o:Op n tb h pl) (hR:Rc n (Z8 n tb h pl) h) (r:Rc n tb g):Rc n (Z8 n tb h pl) g:=by
 induction r with
 | @made g hg m=>
  by_cases e:g=h
  ·rw [e]; exact hR
  ·have:=xu m;have:=Q2n w o (a:=g) (b:=g) e;exact yf hg (by omega)
 | @lent a g r hg he ih=>
  by_cases e:a=h
  ·subst e
   by_cases e1:g=a
   ·rw [e1]; exact hR
   ·by_cases e2:g=pl
    ·rw [e2]; exact yf (by omega) (Qia w o (by omega))
    ·exact .lent ih hg (by rw [Qvm w o e1 e2]; exact he)
  ·have:=Q2n w o (a:=a) (b:=g) e;exact .lent ih hg (by omega)
theorem Qib (w:Wt' n tb) (o:Op n tb h pl) (hnb:∀ j,j<=n->j≠h->¬ 0 < ent (Z8 n tb h pl) h j) (r:Rc n tb g):g=h\/Rc n (Z8 n tb h pl) g:=by
 induction r with
 | @made g hg m=>
  by_cases e:g=h
  ·exact .inl e
  ·have:=xu m;have:=Q2n w o (a:=g) (b:=g) e;exact .inr (yf hg (by omega))
 | @lent a g r hg he ih=>
  by_cases e1:g=h
  ·exact .inl e1
  ·right
   by_cases e:a=h
   ·subst e
    by_cases e2:g=pl
    ·rw [e2]; exact yf (by omega) (Qia w o (by omega))
    ·exact absurd (by rw [Qvm w o e1 e2]; exact he) (hnb g (O7 hg) e1)
   ·have:=Q2n w o (a:=a) (b:=g) e;exact .lent (ih.resolve_left e) hg (by omega)
inductive Av (n:Nat) (tb:List (List Int)) (h:Nat) (x:Option Nat):Nat->Prop
 | src {g:Nat}:g < n->g≠h->(0 < ent tb g g\/x=some g)->Av n tb h x g
 | ed {a g:Nat}:Av n tb h x a->a≠h->g < n->0 < ent tb a g->Av n tb h x g
theorem Av.rc (w:Wt' n tb) (o:Op n tb h pl) {x:Option Nat} (hx:x=none\/x=some pl) (r:Av n tb h x g):Rc n (Z8 n tb h pl) g:=by
 induction r with
 | @src g hg ne c=>
  rcases c with c | c
  ·have:=Q2n w o (a:=g) (b:=g) ne;exact yf hg (by omega)
  ·rcases hx with hx | hx
   ·rw [hx] at c; cases c
   ·rw [hx] at c; cases c;exact yf hg (Qia w o hg)
 | @ed a g r ne hg he ih=>
  have:=Q2n w o (a:=a) (b:=g) ne;exact .lent ih hg (by omega)
theorem Qvk (r:Rc n tb g):g=h\/Av n tb h none g\/∃ q,q < n/\q≠h/\0 < ent tb h q/\Av n tb h (some q) g:=by
 induction r with
 | @made g hg m=>
  by_cases e:g=h
  ·exact .inl e
  ·exact .inr (.inl (.src hg e (.inl (xu m))))
 | @lent a g r hg he ih=>
  by_cases e1:g=h
  ·exact .inl e1
  ·by_cases e:a=h
   ·subst e;exact .inr (.inr ⟨g,hg,e1,he,.src hg e1 (.inr rfl)⟩)
   ·rcases ih with z | z | ⟨q,q1,q2,q3,z⟩
    ·exact absurd z e
    ·exact .inr (.inl (.ed z e hg he))
    ·exact .inr (.inr ⟨q,q1,q2,q3,.ed z e hg he⟩)
theorem Qgg (w:Wt' n tb) (r:Rc n tb g) (hb:Y0 tb g=true):∃ h,h < n/\Y0 tb h=true/\0 < ent tb h h:=by
 induction r with
 | @made g hg m=>exact ⟨g,hg,hb,xu m⟩
 | @lent a g r hg he ih=>
  by_cases e:a=g
  ·subst e; exact ⟨a,hg,hb,he⟩
  ·exact ih ((Wp w r.lt).mpr ⟨g,O7 hg,fun z=>e z.symm,he⟩)
theorem Qdn (w:Wt' n tb) (o:Op n tb h pl) (hg:g < n) (b:Y0 (Z8 n tb h pl) g=true):Y0 tb g=true:=by
 obtain ⟨j,hj,hne,he⟩:=(Wp (Q50 w o) hg).mp b;refine (Wp w hg).mpr ⟨j,hj,hne,?_⟩;rw [jf w.sz o.hh o.hp o.ne,bN (show ¬ (pl < n/\g=pl/\j=pl) by omega)] at he
 split at he <;> split at he <;> omega
theorem Qpy (w:Wt' n tb) (c:Ca n tb) (hb:∃ g,g < n/\Y0 tb g=true):∃ h pl,Op n tb h pl/\Ca n (Z8 n tb h pl):=by
 obtain ⟨g,hg,hgb⟩:=hb;obtain ⟨h,hh,hbz,hd⟩:=Qgg w (c.bz g hg hgb) hgb;obtain ⟨pl,hp,hne,he⟩:=(Wp w hh).mp hbz;have fin:∀ pl,Op n tb h pl->Rc n (Z8 n tb h pl) h->∃ h pl,Op n tb h pl/\Ca n (Z8 n tb h pl):=fun pl o hR=>
  ⟨h,pl,o,fun g hg=>by rw [jt w.sz o.hh o.hp o.ne hg]; exact c.nn g hg,fun g hg b=>Qms w o hR (c.bz g hg (Qdn w o hg b))⟩
 have o:Op n tb h pl:=⟨hh,hp,hne,hd,he⟩
 by_cases h2:2<=ent tb h h
 ·refine fin pl o (yf hh ?_);rw [jf w.sz o.hh o.hp o.ne,bM ⟨rfl,rfl⟩,bN (show ¬ (h=h/\h=pl) from fun q=>hne q.2.symm),bN (show ¬ (pl < n/\h=pl/\h=pl) from fun q=>hne q.2.1.symm)]
  omega
 ·by_cases hb':Y0 (Z8 n tb h pl) h=true
  ·have w':=Q50 w o;have hdz:ent (Z8 n tb h pl) h h=0:=by
    rw [jf w.sz o.hh o.hp o.ne,bM ⟨rfl,rfl⟩,bN (show ¬ (h=h/\h=pl) from fun q=>hne q.2.symm),bN (show ¬ (pl < n/\h=pl/\h=pl) from fun q=>hne q.2.1.symm)]
    omega
   have hr:0<=Q8 (Z8 n tb h pl) h:=by rw [jt w.sz o.hh o.hp o.ne hh]; exact c.nn h hh
   have:∃ a,a < n/\0 < ent (Z8 n tb h pl) a h:=by
    refine Classical.byContradiction fun q=>?_
    have hc:J3 n (fun a=>ent (Z8 n tb h pl) a h)=J3 n fun _=>0:=Qi fun a ha=>by
     have h1:=w'.ent_nn ha (O7 hh);have h2:¬ 0 < ent (Z8 n tb h pl) a h:=fun z=>q ⟨a,ha,z⟩
     omega
    rw [Vg] at hc;unfold Q8 at hr;rw [w'.len,hc] at hr;unfold Y0 at hb';rw [decide_eq_true_eq] at hb';omega
   obtain ⟨a,ha,hae⟩:=this;have hah:a≠h:=fun z=>by rw [z,hdz] at hae; omega
   have hat:0 < ent tb a h:=by
    rw [jf w.sz o.hh o.hp o.ne,bN (fun q=>hah q.1),bN (fun q=>hah q.1),bN (show ¬ (pl < n/\a=pl/\h=pl) from fun q=>hne q.2.2.symm)] at hae
    omega
   have hr:=c.bz a ha ((Wp w ha).mpr ⟨h,O7 hh,fun z=>hah z.symm,hat⟩);rcases Qvk (h:=h) hr with z | z | ⟨q,q1,q2,q3,z⟩
   ·exact absurd z hah
   ·exact fin pl o (Av.rc w o (.inl rfl) (.ed z hah hh hat))
   ·have oq:Op n tb h q:=⟨hh,O7 q1,q2,hd,q3⟩;exact fin q oq (Av.rc w oq (.inr rfl) (.ed z hah hh hat))
  ·refine ⟨h,pl,o,fun g hg=>by rw [jt w.sz o.hh o.hp o.ne hg]; exact c.nn g hg,fun g hg b=>?_⟩;have hgh:g≠h:=fun z=>hb' (z ▸ b)
   refine (Qib w o (fun j hj hjh z=>hb' ((Wp (Q50 w o) hh).mpr ⟨j,hj,hjh,z⟩)) (c.bz g hg (Qdn w o hg b))).resolve_left hgh
end
theorem Qdk {h pl:Nat} (z:Sz n tb) (hn:n<=100) (hh:h < n) (hp:pl<=n) (st:Q0):Y9 [Q3 tb,.int h,.int pl] st=.ok (Q3 (Z8 n tb h pl)) st:=by
 have z1:=Vi (j:=h) z hh (ent tb h h + (-1));have z2:Sz n (rb2 n tb h pl):=Vi z1 hh _;have e1:=Q0c z hn hh (O7 hh) (-1) st;have e2:Vf [Q3 (Yg tb h h (ent tb h h + (-1))),.int h,.int pl,.int (-1)] st=.ok (Q3 (rb2 n tb h pl)) st:=Q0c z1 hn hh hp (-1) st;have hl:Y1 st [Q3 tb]=.ok (.int n) st:=by unfold Q3; simp [z.1]
 have g2:fin st (Q3 (rb2 n tb h pl)) st=.ok (Q3 (rb2 n tb h pl)) st:=Zw (by simp [Z6,Q3,Qh])
 by_cases q:pl=n
 ·have er:Z8 n tb h pl=rb2 n tb h pl:=by unfold Z8; rw [bM q]
  rw [er];clear er z1 z2;subst q;generalize Q3 (rb2 pl tb h pl)=T2 at *;generalize Q3 (Yg tb h h (ent tb h h + (-1)))=T1 at *;generalize Q3 tb=T at *;simp -implicitDefEqProofs [Y9,Qd,Xw,e1,e2,hl,g2]
 ·have hpl:pl < n:=by omega
  have er:Z8 n tb h pl=Yg (rb2 n tb h pl) pl pl (ent (rb2 n tb h pl) pl pl + 1):=by unfold Z8; rw [bN q]
  have e3:=Q0c z2 hn hpl hp 1 st;rw [<- er] at e3;have g3:fin st (Q3 (Z8 n tb h pl)) st=.ok (Q3 (Z8 n tb h pl)) st:=Zw (by simp [Z6,Q3,Qh]);have q':((pl:Int) == (n:Int))=false:=by rw [beq_eq_false_iff_ne]; omega
  have q2:¬ (pl:Int)=(n:Int):=by omega
  clear er z1 z2;generalize Q3 (Z8 n tb h pl)=T3 at *;generalize Q3 (rb2 n tb h pl)=T2 at *;generalize Q3 (Yg tb h h (ent tb h h + (-1)))=T1 at *;generalize Q3 tb=T at *;simp -implicitDefEqProofs [Y9,Qd,Xw,e1,e2,e3,hl,q',q,g3]
def qh (n:Nat) (tb:List (List Int)) (h:Nat):List (Nat × Nat):=if Ux tb h=true then ((List.range (n + 1)).filter fun pl=>decide (pl≠h) && decide (0 < ent tb h pl)).map fun pl=>(h,pl) else []
def Uk (n:Nat) (tb:List (List Int)):Nat->List (Nat × Nat)
 | 0=>[]
 | k + 1=>Uk n tb k ++ qh n tb k
def plV (z:Nat × Nat):PV:=.tup [.int z.1,.int z.2]
theorem Q7k (n:Nat) (tb:List (List Int)) (h:Nat):(qh n tb h).length<=n + 1:=by
 unfold qh
 split
 ·rw [O2];exact F1 (List.length_filter_le _ _) (by rw [F4]; exact O4 _)
 ·simp
theorem Q2p (n:Nat) (tb:List (List Int)):∀ k,(Uk n tb k).length<=k * (n + 1)
 | 0=>by simp [Uk]
 | k + 1=>by
  have:=Q2p n tb k;have:=Q7k n tb k;rw [Uk,D0,Nat.succ_mul]; omega
theorem Q0e {n:Nat} {tb:List (List Int)} {z:Nat × Nat}:∀ {k:Nat},k<=n->(z∈Uk n tb k <-> z.1 < k/\Op n tb z.1 z.2)
 | 0,_=>by simp [Uk]
 | k + 1,hk=>by
  rw [Uk,F7,Q0e (by omega)];constructor
  ·rintro (⟨a,b⟩ | a)
   ·exact ⟨by omega,b⟩
   ·unfold qh at a
    split at a
    ·rename_i m;obtain ⟨pl,hpl,rfl⟩:=List.mem_map.mp a;obtain ⟨h1,h2⟩:=List.mem_filter.mp hpl;simp at h2;have:=D4.mp h1;exact ⟨by show k < k + 1; omega,⟨by show k < n; omega,by show pl<=n; omega,h2.1,xu m,h2.2⟩⟩
    ·cases a
  ·rintro ⟨a,b⟩
   by_cases e:z.1 < k
   ·exact .inl ⟨e,b⟩
   ·right
    have e:z.1=k:=by omega
    have hd:=b.d;rw [e] at hd;unfold qh;rw [bM (show Ux tb k=true by unfold Ux; simp [hd])];refine List.mem_map.mpr ⟨z.2,List.mem_filter.mpr ⟨D4.mpr (by have:=b.hp; omega),?_⟩,by rw [<- e]⟩;have h1:=b.ne;have h2:=b.o;rw [e] at h1 h2;simp [h1,h2]
theorem Qfm {h:Nat} (z:Sz n tb) (hn:n<=8) (hh:h < n) {os:List (Nat × Nat)} (hl:os.length<=100) {p:Nat} (hp:st[p]?=some (.lst (os.map plV))) :
  Yt [some (Q3 tb),some (.ref p),some (.int h),some (Qh (tb.getD h []))] st=.nx [some (Q3 tb),some (.ref p),some (.int h),some (Qh (tb.getD h []))] (st.set p (.lst ((os ++ qh n tb h).map plV))):=by
 have e1:=Qe1 z hh st;cases hm:Ux tb h with
 | false=>
  rw [hm] at e1;have er:qh n tb h=[]:=by unfold qh; rw [bN (by rw [hm]; exact D8)]
  have es:st.set p (.lst (os.map plV))=st:=by
   refine List.ext_getElem? fun i=>?_
   by_cases q:p=i
   ·subst q; rw [D7 (O1.mp hp).1,hp]
   ·rw [D5 q]
  rw [er,G9,es];generalize Q3 tb=T at *;generalize Qh (tb.getD h [])=r at *;simp -implicitDefEqProofs [Yt,e1]
 | true=>
  rw [hm] at e1;have er:qh n tb h=((List.range (n + 1)).filter fun pl=>decide (pl≠h) && decide (0 < ent tb h pl)).map fun pl=>(h,pl):=by unfold qh; rw [bM hm]
  have hc:J4 (Qc 0) Wg Ue [] (J1 [none,some 2,some 3] [some (Q3 tb),some (.ref p),some (.int h),some (Qh (tb.getD h []))]) (Zu 0 (n + 1)) st=.ok ((qh n tb h).map plV) st:=by
   rw [V4,er,L9];refine Xq (fun k:Nat=>PV.int (k:Int)) _ (fun pl=>decide (pl≠h) && decide (0 < ent tb h pl)) (by simp) fun pl hpl=>⟨_,rfl,?_,fun _=>?_⟩
   ·have hpl':=D4.mp hpl;have c:=(Kz z hh (show pl<=n by omega) st).2;generalize Q3 tb=T at *;generalize Qh (tb.getD h [])=r at *
    by_cases e:pl=h
    ·subst e; simp [J1,Wg]
    ·have:((pl:Int) == (h:Int))=false:=by rw [beq_eq_false_iff_ne]; omega
     simp [J1,Wg,this,e,c]
   ·generalize Q3 tb=T at *;generalize Qh (tb.getD h [])=r at *;simp [J1,Ue,plV,Qp]
  have hlr:Y1 st [Qh (tb.getD h [])]=.ok (.int ((n:Int) + 1)) st:=by
   have:=(z.row hh).2;generalize tb.getD h []=r at *;unfold Qh;simp [this]
  have hll:(os.map plV).length + ((qh n tb h).map plV).length<=1000000:=by
   have:=Q7k n tb h;rw [O2,O2]; omega
  have hmm:(os ++ qh n tb h).map plV=os.map plV ++ (qh n tb h).map plV:=G6;have hr:-1000000<=(n:Int) + 1/\(n:Int) + 1<=1000000:=by omega
  have ht:((n:Int) + 1).toNat=n + 1:=by omega
  rw [hmm];clear er;generalize Q3 tb=T at *;generalize Qh (tb.getD h [])=r at *;generalize os.map plV=ov at *;generalize (qh n tb h).map plV=rv at *;simp -implicitDefEqProofs [Yt,e1,hlr,Qp,hr,ht,hc,Wj,chg,hp,hll,-Q9u]
theorem Qnn (z:Sz n tb) (hn:n<=8) (st:Q0):Wr [Q3 tb] st=.ok (.lst ((Uk n tb n).map plV)) st:=by
 obtain ⟨Γ',S',e,b2,b3,rfl,hS,hpre⟩:=qm (g:=fun k:Nat=>PV.tup [.int k,Qh (tb.getD k [])]) (xs:=List.range n) (ga:=Xd (Zc (Qc 2) (Zc (Qc 3) Xe))) (body:=Yt) (w:=[]) (Γ:=[some (Q3 tb),some (.ref st.length),none,none]) (st:=st ++ [.lst []])
  (fun i Γ st'=>∃ b2 b3:Option PV,Γ=[some (Q3 tb),some (.ref st.length),b2,b3]/\st'[st.length]?=some (.lst ((Uk n tb i).map plV))/\st'=st ++ [.lst ((Uk n tb i).map plV)])
  (fun _ _ _ _=>by simp)
  (fun i x Γ st' hx ⟨b2,b3,g1,g2,g3⟩=>by
   subst g1;have hin:i < n:=by simpa using (O1.mp hx).1
   have hxi:x=i:=by
    rw [F5 hin] at hx;exact (Option.some.inj hx).symm
   subst hxi;have hl:=Q2p n tb x;have hb:x * (n + 1)<=8 * 9:=Nat.mul_le_mul (by omega) (by omega);have e:=Qfm z hn hin (by omega) g2;refine ⟨_,rfl,_,_,e,_,_,rfl,?_,?_⟩
   ·rw [D7 (O1.mp g2).1]; rfl
   ·rw [g3];show _=st ++ [Cell.lst ((Uk n tb (x + 1)).map plV)];rw [List.set_append_right _ _ (O4 _),Nat.sub_self]; rfl)
  ⟨_,_,rfl,by simp [Uk],rfl⟩
 rw [F4] at hS hpre;have en:Kj 0 (tb.map Qh)=(List.range n).map fun k:Nat=>PV.tup [.int k,Qh (tb.getD k [])]:=by
  rw [Q0j,Q4e tb [],z.1]
 have hl:(tb.map Qh).length<=1000000:=by rw [O2,z.1]; omega
 have hfin:fin st (.ref st.length) S'=.ok (.lst ((Uk n tb n).map plV)) st:=by
  have hp:st <+: S':=by rw [hpre]; exact List.prefix_append _ _
  have hg:Z6 12 (.lst ((Uk n tb n).map plV))=true:=by simp [Z6,plV]
  have hz:=Q29 (n:=st.length) (st:=S') (k:=16) hg (by decide);unfold fin;rw [bM hp,fz,bN (by omega),hS];rw [fz] at hz;show okO st ((fzL st.length S' 15 ((Uk n tb n).map plV)).map PV.lst)=_;rw [hz];rfl
 rw [<- en] at e;unfold Q3 at *;generalize tb.map Qh=T at *;clear hpre hS en;simp -implicitDefEqProofs [Wr,Qd,jh,hl,Qp,e,hfin]
theorem Ca.of_reach (nn:∀ h,h < n->0<=Q8 tb h) (r:Uw n tb=true):Ca n tb:=by
 refine ⟨nn,fun h hh hb=>?_⟩;unfold Uw at r;have:=F0.mp r h (D4.mpr hh);rw [hb,Bool.not_true,Bool.or_false] at this;exact (Q5w n tb hh).mp this
theorem Ca.reach (c:Ca n tb):Uw n tb=true:=by
 have:=c.comes;unfold jn at this;exact (F6 _ _ ▸ this).2
def NP (n:Nat) (tb:List (List Int)) (v:PV):Prop:=(v=.non/\∀ g,g < n->Y0 tb g=false)\/∃ h pl,v=plV (h,pl)/\Op n tb h pl/\Ca n (Z8 n tb h pl)
theorem Qdx (w:Wt' n tb) (c:Ca n tb) (st:Q0):∃ v,NP n tb v/\Yz [Q3 tb] st=.ok v st:=by
 have h8:=w.n8;have e1:=Qnn w.sz h8 st;have key:=qp (g:=plV) (J:=fun Γ=>∃ a b:Option PV,Γ=[some (Q3 tb),a,b]) (Pd:=fun z=>!Uw n (Z8 n tb z.1 z.2)) (v:=plV) (ga:=Xd (Zc (Qc 1) (Zc (Qc 2) Xe))) (body:=Vc) (w:=[]) (st:=st) (by simp) (xs:=Uk n tb n)
  (fun z hz Γ ⟨a,b,g⟩=>by
   subst g;obtain ⟨_,o⟩:=(Q0e (O4 n)).mp hz;have e2:=Qdk w.sz (by omega) o.hh o.hp st;obtain ⟨us,ul,uz,e3⟩:=U5 (Qi9 w.sz o.hh o.hp) (by omega) st;have hlen:(us.map Qs).length=us.length:=O2 _;refine ⟨[some (Q3 tb),some (.int z.1),some (.int z.2)],rfl,fun hr=>⟨[some (Q3 tb),some (.int z.1),some (.int z.2)],⟨_,_,rfl⟩,?_⟩,fun hr=>?_⟩
   ·have hne:us≠[]:=fun q=>by rw [uz.mp q] at hr; cases hr
    have hpos:0 < us.length:=List.length_pos_iff.mpr hne;have hz0:¬ us.length=0:=by omega
    clear uz hr;generalize us.map Qs=uv at *;generalize Q3 (Z8 n tb z.1 z.2)=T2 at *;generalize Q3 tb=T at *;generalize us.length=l at *;simp -implicitDefEqProofs [Vc,e2,e3,hlen,hz0]
   ·have hnil:us=[]:=uz.mpr (by cases q:Uw n (Z8 n tb z.1 z.2) with
     | true=>rfl
     | false=>rw [q] at hr; cases hr)
    subst hnil;clear uz hr;unfold plV;generalize Q3 (Z8 n tb z.1 z.2)=T2 at *;generalize Q3 tb=T at *;simp -implicitDefEqProofs [Vc,e2,e3,Qp])
  [some (Q3 tb),none,none] ⟨_,_,rfl⟩
 obtain ⟨k1,k2⟩:=key;have hol:((Uk n tb n).map plV).length<=1000000:=by
  have:=Q2p n tb n;have:n * (n + 1)<=8 * 9:=Nat.mul_le_mul h8 (by omega);rw [O2]; omega
 cases ha:(Uk n tb n).all fun z=>!Uw n (Z8 n tb z.1 z.2) with
 | true=>
  obtain ⟨Γ',⟨a,b,rfl⟩,e⟩:=k1 ha;have hnb:∀ g,g < n->Y0 tb g=false:=fun g hg=>by
   cases hb:Y0 tb g with
   | false=>rfl
   | true=>
    obtain ⟨h,pl,o,c'⟩:=Qpy w c ⟨g,hg,hb⟩;have:=F0.mp ha (h,pl) ((Q0e (O4 n)).mpr ⟨o.hh,o⟩);rw [c'.reach] at this;cases this
  refine ⟨.non,.inl ⟨rfl,hnb⟩,?_⟩;clear k1 k2 ha hnb;generalize (Uk n tb n).map plV=ov at *;generalize Q3 tb=T at *;simp -implicitDefEqProofs [Yz,Qd,Kp,e1,hol,Qp,e]
 | false=>
  obtain ⟨z,hz,hr,e⟩:=k2 ha;obtain ⟨_,o⟩:=(Q0e (O4 n)).mp hz;have hr:Uw n (Z8 n tb z.1 z.2)=true:=by simpa using hr
  refine ⟨plV z,.inr ⟨z.1,z.2,rfl,o,Ca.of_reach (fun g hg=>by rw [jt w.sz o.hh o.hp o.ne hg]; exact c.nn g hg) hr⟩,?_⟩;have hf:fin st (plV z) st=.ok (plV z) st:=Zw (by simp [Z6,plV]);clear k1 k2 ha hz;generalize plV z=pv at *;generalize (Uk n tb n).map plV=ov at *;generalize Q3 tb=T at *;simp -implicitDefEqProofs [Yz,Qd,Kp,e1,hol,Qp,e,hf]
theorem jg (w:Wt' n tb) (c:Ca n tb) (st:Q0):Qm [Q3 tb] st=.ok .non st:=by
 have e:=Qef w st;rw [c.comes] at e;generalize Q3 tb=T at *;simp -implicitDefEqProofs [Qm,Qd,Wc,e]
theorem Qaw (st:Q0) (xs:List PV) (b:Int):Q0u st (.lst xs) (.int b)=if -(2 ^ 63)<=b/\b < 2 ^ 63/\xs.length * b.toNat<=lim then .ok (.lst (List.replicate b.toNat xs).flatten) st else .stuck:=rfl
theorem Qs7 (x:PV):∀ j:Nat,(List.replicate j [x]).flatten=List.replicate j x
 | 0=>rfl
 | j + 1=>by rw [L6,List.flatten_cons,Qs7 x j,L6]; rfl
def Q5f (n:Nat) (tb:List (List Int)):Int:=(J3 n fun g=>J3 n fun a=>ent tb a g) - Q4p n tb
theorem xg (n x y:Nat) (k:Int):(J3 n fun g=>J3 n fun a=>if a=x/\g=y then k else 0)=if x < n/\y < n then k else 0:=by
 rw [Qi (g:=fun g=>if g=y then (if x < n then k else 0) else 0) fun g _=>by
  by_cases e:g=y
  ·rw [bM e,<- Va n x k]; exact Qi fun a _=>by simp [e]
  ·rw [bN e,Qi (g:=fun _=>0) fun a _=>by simp [e],Vg],Va]
 by_cases a:x < n <;> by_cases b:y < n <;> simp [a,b]
theorem Qjb {h pl:Nat} (w:Wt' n tb) (o:Op n tb h pl):Q5f n (Z8 n tb h pl)=Q5f n tb - 1:=by
 have hs:Q4p n (Z8 n tb h pl)=Q4p n tb:=by
  rw [<- Q13 (Qi9 w.sz o.hh o.hp),<- Q13 w.sz];exact Qi fun g hg=>jt w.sz o.hh o.hp o.ne hg
 unfold Q5f;rw [hs,Qi (g:=fun g=>(J3 n fun a=>ent tb a g) - (J3 n fun a=>if a=h/\g=h then 1 else 0) - (J3 n fun a=>if a=h/\g=pl then 1 else 0) + (J3 n fun a=>if a=pl/\g=pl then (if pl < n then 1 else 0) else 0)) fun g hg=>by
  rw [<- Uq,<- Uq,<- U8];exact Qi fun a _=>by
   rw [jf w.sz o.hh o.hp o.ne]
   by_cases q:a=pl/\g=pl <;> by_cases r:pl < n <;> simp [q,r],U8,Uq,Uq,xg,xg,xg,bM ⟨o.hh,o.hh⟩]
 have:=o.hh
 by_cases r:pl < n
 ·rw [bM ⟨o.hh,r⟩,bM ⟨r,r⟩,bM r]; omega
 ·rw [bN (fun q=>r q.2),bN (fun q=>r q.2)]; omega
theorem Q94 (w:Wt' n tb):Q5f n tb=J3 n fun g=>(tb.getD g []).sum - ent tb g g:=by
 unfold Q5f;rw [<- Q13 w.sz,<- Uq];refine Qi fun g hg=>?_
 unfold Q8;rw [w.len]; omega
theorem Qi6 (w:Wt' n tb) (hg:g < n):0<=(tb.getD g []).sum - ent tb g g:=by
 have h1:=Wa w.sz hg;unfold Q8 at h1;rw [w.len] at h1;have h2:ent tb g g<=J3 n (fun j=>ent tb g j):=Q1i (fun j hj=>w.ent_nn hg (O7 hj)) hg
 have h3:=w.ent_nn hg (O4 n);omega
theorem Qjc (w:Wt' n tb):0<=Q5f n tb:=by
 rw [Q94 w];exact xb fun g hg=>Qi6 w hg
theorem Qja (w:Wt' n tb) (h:∀ g,g < n->Y0 tb g=false):Q5f n tb=0:=by
 rw [Q94 w,Qi (g:=fun _=>0) fun g hg=>by
  have h1:=h g hg;unfold Y0 at h1;rw [decide_eq_false_iff_not] at h1;have:=Qi6 w hg;omega,Vg]
def stV (n:Nat) (z:Nat × Nat):PV:=if z.2=n then .tup [.str "use",.int z.1,.int 1] else .tup [.str "lend",.int z.1,.int z.2,.int 1]
inductive Pth (n:Nat):List (List Int)->List (Nat × Nat)->Prop
 | nil {tb:List (List Int)}:(∀ g,g < n->Y0 tb g=false)->Pth n tb []
 | cons {tb:List (List Int)} {h pl:Nat} {ps:List (Nat × Nat)}:Op n tb h pl->Pth n (Z8 n tb h pl) ps->Pth n tb ((h,pl) :: ps)
theorem Qbv {h pl:Nat} (z:Sz n tb) (st:Q0):Xs [Q3 tb,.int h,.int pl] st=.ok (stV n (h,pl)) st:=by
 have hl:Y1 st [Q3 tb]=.ok (.int n) st:=by unfold Q3; simp [z.1]
 unfold stV
 by_cases q:pl=n
 ·rw [bM q];have g:fin st (.tup [.str "use",.int h,.int 1]) st=.ok (.tup [.str "use",.int h,.int 1]) st:=Zw (by simp [Z6]);subst q;generalize Q3 tb=T at *;simp -implicitDefEqProofs [Xs,Qd,Q0f,hl,Qp,g]
 ·rw [bN q];have g:fin st (.tup [.str "lend",.int h,.int pl,.int 1]) st=.ok (.tup [.str "lend",.int h,.int pl,.int 1]) st:=Zw (by simp [Z6]);have q':((pl:Int) == (n:Int))=false:=by rw [beq_eq_false_iff_ne]; omega
  generalize Q3 tb=T at *;simp -implicitDefEqProofs [Xs,Qd,Q0f,hl,Qp,q',q,g]
theorem Q3a {n p:Nat} {T b2 b3:Option PV}:∀ (m fuel:Nat) (tb:List (List Int)) (told:List PV) (st:Q0) (v:PV),Wt' n tb->Ca n tb->NP n tb v->Q5f n tb=m->m + 1<=fuel->st[p]?=some (.lst told)->told.length + m<=1000 ->
  ∃ (ps:List (Nat × Nat)) (tb':List (List Int)) (v':PV),Pth n tb ps/\ps.length=m/\U3 Xf zg fuel [T,some (.ref p),b2,b3,some (Q3 tb),some v] st=.nx [T,some (.ref p),b2,b3,some (Q3 tb'),some v'] (st.set p (.lst (told ++ ps.map (stV n))))
 | m,0,_,_,_,_,_,_,_,_,h,_,_=>absurd h (by omega)
 | m,fuel + 1,tb,told,st,v,w,c,np,hm,hf,hp,hl=>by
  rcases np with ⟨rfl,hb⟩ | ⟨h,pl,rfl,o,c'⟩
  ·have h0:=Qja w hb;have m0:m=0:=by omega
   subst m0;refine ⟨[],tb,.non,.nil hb,rfl,?_⟩;have es:st.set p (.lst (told ++ ([]:List (Nat × Nat)).map (stV n)))=st:=by
    rw [List.map_nil,G9];refine List.ext_getElem? fun i=>?_
    by_cases q:p=i
    ·subst q; rw [D7 (O1.mp hp).1,hp]
    ·rw [D5 q]
   have w1:Xf [T,some (.ref p),b2,b3,some (Q3 tb),some .non] st=.ok false st:=by
    generalize Q3 tb=TT at *;simp [Xf,Q61]
   rw [es,U3,w1];rfl
  ·have hs:=Qjb w o;have hn:=Qjc (Q50 w o);cases m with
   | zero=>omega
   | succ m=>
    have e1:=Qbv (h:=h) (pl:=pl) w.sz st;obtain ⟨x,hx⟩:∃ x,stV n (h,pl)=x:=⟨_,rfl⟩;rw [hx] at e1;obtain ⟨S2,hS2⟩:∃ S2,st.set p (.lst (told ++ [x]))=S2:=⟨_,rfl⟩;have e2:=Qdk w.sz (by have:=w.n8; omega) o.hh o.hp S2;obtain ⟨v2,np2,e3⟩:=Qdx (Q50 w o) c' S2;have hp2:S2[p]?=some (.lst (told ++ [x])):=by rw [<- hS2,D7 (O1.mp hp).1]
    obtain ⟨ps,tb',v',h1,h2,h3⟩:=Q3a (T:=T) (b2:=b2) (b3:=b3) m fuel (Z8 n tb h pl) (told ++ [x]) S2 v2 (Q50 w o) c' np2 (by omega) (by omega) hp2 (by rw [D0]; simp; omega);refine ⟨(h,pl) :: ps,tb',v',.cons o h1,by rw [D2,h2],?_⟩;have w1:Xf [T,some (.ref p),b2,b3,some (Q3 tb),some (plV (h,pl))] st=.ok true st:=by
     unfold plV;generalize Q3 tb=TT at *;simp [Xf,Q61]
    have a0:∀ S:Q0,oIx S (plV (h,pl)) (.int 0)=.ok (.int h) S:=fun S=>rfl
    have a1:∀ S:Q0,oIx S (plV (h,pl)) (.int 1)=.ok (.int pl) S:=fun S=>rfl
    have hl':told.length < 1000000:=by omega
    have eb:zg [T,some (.ref p),b2,b3,some (Q3 tb),some (plV (h,pl))] st=.nx [T,some (.ref p),b2,b3,some (Q3 (Z8 n tb h pl)),some v2] S2:=by
     clear h3 w1 np2;generalize Q3 (Z8 n tb h pl)=T2 at *;generalize Q3 tb=TT at *;generalize plV (h,pl)=pv at *;simp -implicitDefEqProofs [zg,e1,e2,e3,a0,a1,hp,Wk,chg,hl',Qp,hS2]
    rw [U3,w1];simp only [Wh,if_true,eb];rw [h3,<- hS2,List.set_set,G8,hx,L5];rfl
theorem Qcp {β:Type} (l:List α) (d:α) (f:α->β):l.map f=(List.range l.length).map fun i=>f (l.getD i d):=by
 refine List.ext_getElem? fun i=>?_
 rw [E3,E3]
 by_cases h:i < l.length
 ·rw [F5 h,O3 h];simp [List.getD,O3 h]
 ·rw [E9 (by omega),E9 (by rw [F4]; omega)]; rfl
def Q3h (n:Nat) (tb:List (List Int)):Int:=J3 n fun g=>(tb.getD g []).sum
theorem Qm0 (z:Sz n tb):(tb.map List.sum).sum=Q3h n tb:=by
 rw [Qcp tb [] List.sum,z.1]; rfl
theorem Qr3 (z:Sz n tb) (hn:n<=8) (me:ME) (hme:me=(Qq (U2 fun ns=>some (.int ns.sum)) (Q1 (Q2 0) Q6))) (Γ:Gam) (st:Q0):J4 (Qc 0) Zd me [] (J1 [none] Γ) (tb.map Qh) st=.ok ((tb.map List.sum).map .int) st:=by
 subst hme;rw [L9];refine Yh _ _ (by simp) fun r hr=>⟨_,rfl,?_⟩
 have hl:(r.map PV.int).length<=1000000:=by rw [O2,z.2 r hr]; omega
 unfold Qh;simp [J1]
theorem Qfy {h:Nat} (w:Wt' n tb) (hh:h < n) (hd:ent tb h h<=300) {told:List PV} (hl:told.length<=1000) {p:Nat} (hp:st[p]?=some (.lst told)) (b4 b5:Option PV) :
  zh [some (Q3 tb),some (.ref p),some (.int h),some (Qh (tb.getD h [])),b4,b5] st=.nx [some (Q3 tb),some (.ref p),some (.int h),some (Qh (tb.getD h [])),b4,b5] (st.set p (.lst (told ++ List.replicate (ent tb h h).toNat (.tup [.str "make",.int h,.int 1])))):=by
 have c:=(Kz w.sz hh (O7 hh) st).2;have h0:=w.ent_nn hh (O7 hh);have e1:Q0u st (.lst [.tup [.str "make",.int h,.int 1]]) (.int (ent tb h h))=.ok (.lst (List.replicate (ent tb h h).toNat (.tup [.str "make",.int h,.int 1]))) st:=by
  rw [Qaw,bM ⟨by omega,by omega,by rw [Qp]; simp; omega⟩,Qs7]
 have hll:told.length + (List.replicate (ent tb h h).toNat (PV.tup [.str "make",.int h,.int 1])).length<=1000000:=by rw [L7]; omega
 generalize List.replicate (ent tb h h).toNat (PV.tup [.str "make",.int h,.int 1])=mk at *;generalize ent tb h h=d at *;generalize Q3 tb=T at *;generalize Qh (tb.getD h [])=r at *;simp -implicitDefEqProofs [zh,c,Qp,e1,Wj,chg,hp,hll,-Qqn]
theorem Qm1 (w:Wt' n tb):Q3h n tb=J3 n (fun g=>ent tb g g) + Q5f n tb:=by
 rw [Q94 w,<- U8];exact Qi fun g _=>by omega
def mkV (h:Nat):PV:=.tup [.str "make",.int h,.int 1]
def mkU (tb:List (List Int)):Nat->List PV
 | 0=>[]
 | i + 1=>mkU tb i ++ List.replicate (ent tb i i).toNat (mkV i)
theorem Q95 {n:Nat} {tb:List (List Int)} (hdn:∀ g,g < n->0<=ent tb g g):∀ i,i<=n->((mkU tb i).length:Int)=J3 i (fun g=>ent tb g g)
 | 0,_=>by simp [mkU,J3]
 | i + 1,h=>by
  have:=Q95 hdn i (by omega);have h2:=hdn i (by omega);rw [mkU,D0,L7,Qx]
  push_cast
  omega
theorem Qev {f:Nat->Int} (hf:∀ g,g < n->0<=f g):∀ m x,x<=m->m<=n->J3 x f<=J3 m f:=fun m x hm=>by
 induction hm with
 | refl=>intro _; exact Int.le_refl _
 | @step m hm ih=>intro h2; rw [Qx]; have:=ih (by omega); have:=hf m (by omega); omega
theorem Qhi (w:Wt' n tb) (c:Ca n tb) (ht:Q3h n tb<=300) (st:Q0):∃ ps:List (Nat × Nat),Pth n tb ps/\(mkU tb n ++ ps.map (stV n)).length<=300/\Ug [Q3 tb] st=.ok (.ref st.length) (st ++ [.lst (mkU tb n ++ ps.map (stV n))]):=by
 have h8:=w.n8;have e0:=jg w c st;have hoff:=Qjc w;have hto:=Qm1 w;have hdn:∀ g,g < n->0<=ent tb g g:=fun g hg=>w.ent_nn hg (O7 hg)
 have hd:∀ g,g < n->ent tb g g<=300:=fun g hg=>by
  have:=Q1i (f:=fun g=>ent tb g g) hdn hg;have:ent tb g g<=J3 n (fun g=>ent tb g g):=this;omega
 have e1:=Qr3 w.sz h8 Q37 rfl;have et:=Qm0 w.sz;obtain ⟨Γ',S1,e2,b2,b3,rfl,rfl⟩:=qm (g:=fun k:Nat=>PV.tup [.int k,Qh (tb.getD k [])]) (xs:=List.range n) (ga:=Xd (Zc (Qc 2) (Zc (Qc 3) Xe))) (body:=zh) (w:=[]) (Γ:=[some (Q3 tb),some (.ref st.length),none,none,none,none]) (st:=st ++ [.lst []])
  (fun i Γ st'=>∃ (b2 b3:Option PV),Γ=[some (Q3 tb),some (.ref st.length),b2,b3,none,none]/\st'=st ++ [.lst (mkU tb i)])
  (fun _ _ _ _=>by simp)
  (fun i x Γ st' hx ⟨b2,b3,g1,g4⟩=>by
   subst g1; subst g4;have hin:i < n:=by simpa using (O1.mp hx).1
   have hxi:x=i:=by
    rw [F5 hin] at hx;exact (Option.some.inj hx).symm
   subst hxi;have hle:=Qev hdn n x (O7 hin) (O4 n);have hll:=Q95 hdn x (O7 hin);have e:=Qfy w hin (hd x hin) (told:=mkU tb x) (by omega) (st:=st ++ [.lst (mkU tb x)]) (p:=st.length) (by simp) none none;refine ⟨_,rfl,_,_,e,_,_,rfl,?_⟩;rw [List.set_append_right _ _ (O4 _),Nat.sub_self]; rfl)
  ⟨_,_,rfl,rfl⟩
 rw [F4] at e2;have hl:=Q95 hdn n (O4 n);obtain ⟨v,np,e3⟩:=Qdx w c (st ++ [.lst (mkU tb n)]);obtain ⟨m,hm⟩:∃ m:Nat,Q5f n tb=m:=⟨(Q5f n tb).toNat,by omega⟩;obtain ⟨ps,tb',v',l',g',e4⟩:=Q3a (T:=some (Q3 tb)) (b2:=b2) (b3:=b3) (p:=st.length) m 100000 tb (mkU tb n) (st ++ [.lst (mkU tb n)]) v w c np hm (by omega) (by simp) (by omega);refine ⟨ps,l',by rw [D0,O2]; omega,?_⟩;have es:(st ++ [Cell.lst (mkU tb n)]).set st.length (.lst (mkU tb n ++ ps.map (stV n)))=st ++ [.lst (mkU tb n ++ ps.map (stV n))]:=by rw [List.set_append_right _ _ (O4 _),Nat.sub_self]; rfl
 rw [es] at e4;have en:Kj 0 (tb.map Qh)=(List.range n).map fun k:Nat=>PV.tup [.int k,Qh (tb.getD k [])]:=by
  rw [Q0j,Q4e tb [],w.len]
 have hlr:(tb.map Qh).length<=1000000:=by rw [O2,w.len]; omega
 have ht':¬ (300 < Q3h n tb):=by omega
 rw [<- en] at e2;generalize Q3 tb'=Tq at *;unfold Q3 at *;generalize hsums:tb.map List.sum=ss at *;generalize Q3h n tb=tt at *;generalize tb.map Qh=T at *;generalize st ++ [Cell.lst (mkU tb n ++ ps.map (stV n))]=S3 at *;generalize st ++ [Cell.lst (mkU tb n)]=S2 at *;simp -implicitDefEqProofs [Ug,Zz,Q42,e0,hlr,Qp,e1,et,ht',e2,e3,e4]
theorem Qaa (w:Wt' n tb) (hc:jn n tb=false) (st:Q0):Ug [Q3 tb] st=.exc ⟨"NoTable",none⟩ st:=by
 have e:=Qef w st;rw [hc] at e;have e0:Qm [Q3 tb] st=.exc ⟨"NoTable",none⟩ st:=by
  generalize Q3 tb=T at *;simp -implicitDefEqProofs [Qm,Qd,Wc,e,Qgf]
 generalize Q3 tb=T at *;simp -implicitDefEqProofs [Ug,Zz,Q42,e0]
abbrev Sp2:=Nat × Option Nat
def spV (n:Nat) (x:Sp2):PV:=match x.2 with
 | none=>mkV x.1
 | some pl=>stV n (x.1,pl)
def okV (n:Nat) (x:Sp2):Prop:=x.1 < n/\∀ pl,x.2=some pl->pl<=n/\pl≠x.1
def stR (R:List (List Int)) (x:Sp2):List (List Int):=Yg R x.1 (x.2.getD x.1) (ent R x.1 (x.2.getD x.1) + 1)
def x8 (H:Nat->Int) (a:Nat) (k:Int):Nat->Int:=fun b=>if b=a then H b + k else H b
def stH (n:Nat) (H:Nat->Int) (x:Sp2):Nat->Int:=match x.2 with
 | none=>x8 H x.1 1
 | some pl=>if pl=n then x8 H x.1 (-1) else x8 (x8 H x.1 (-1)) pl 1
def okS (n:Nat) (H:Nat->Int) (x:Sp2):Prop:=okV n x/\(x.2≠none->1<=H x.1)
def OkT (n:Nat):(Nat->Int)->List Sp2->Prop
 | _,[]=>True
 | H,x :: xs=>okS n H x/\OkT n (stH n H x) xs
def mkL (tb:List (List Int)):Nat->List Sp2
 | 0=>[]
 | i + 1=>mkL tb i ++ List.replicate (ent tb i i).toNat (i,none)
theorem Qqr (n:Nat) (tb:List (List Int)):∀ i,(mkL tb i).map (spV n)=mkU tb i
 | 0=>rfl
 | i + 1=>by
  rw [mkL,mkU,G6,Qqr n tb i,List.map_replicate]; rfl
theorem Qdt {n:Nat}:∀ (xs ys:List Sp2) (H:Nat->Int),OkT n H (xs ++ ys) <-> OkT n H xs/\OkT n (xs.foldl (stH n) H) ys
 | [],ys,H=>by simp [OkT]
 | x :: xs,ys,H=>by
  show okS n H x/\OkT n (stH n H x) (xs ++ ys) <-> _;rw [Qdt xs ys];show _ <-> (okS n H x/\OkT n (stH n H x) xs)/\_;rw [and_assoc]; rfl
theorem Qqq {n:Nat}:∀ (xs:List Sp2),(∀ x∈xs,x.2=none/\x.1 < n)->∀ (H:Nat->Int),OkT n H xs
 | [],_,_=>trivial
 | x :: xs,h,H=>⟨⟨⟨(h x D3).2,fun pl e=>by rw [(h x D3).1] at e; cases e⟩,fun z=>absurd (h x D3).1 z⟩,Qqq xs (fun y hy=>h y (O6 _ hy)) _⟩
def Q38 (xs:List Sp2) (a:Nat):Int:=(xs.countP fun x=>decide (x.1=a):Nat)
theorem Qdz {n:Nat}:∀ (xs:List Sp2),(∀ x∈xs,x.2=none/\x.1 < n)->∀ (R:List (List Int)) (H:Nat->Int),Sz n R ->
  Sz n (xs.foldl stR R)/\(∀ a b,ent (xs.foldl stR R) a b=ent R a b + if a=b then Q38 xs a else 0)/\∀ a,xs.foldl (stH n) H a=H a + Q38 xs a
 | [],_,R,H,z=>⟨z,fun a b=>by simp [Q38],fun a=>by simp [Q38]⟩
 | x :: xs,h,R,H,z=>by
  obtain ⟨x1,x2⟩:=x;obtain ⟨e,hx⟩:=h _ D3;have e:x2=none:=e;subst e;have hx:x1 < n:=hx;have z1:Sz n (stR R (x1,none)):=Vi z hx _;obtain ⟨i1,i2,i3⟩:=Qdz xs (fun y hy=>h y (O6 _ hy)) (stR R (x1,none)) (stH n H (x1,none)) z1
  have hc:∀ a,Q38 ((x1,none) :: xs) a=Q38 xs a + if x1=a then 1 else 0:=fun a=>by
   unfold Q38;rw [List.countP_cons]
   by_cases q:x1=a <;> simp [q]
  refine ⟨i1,fun a b=>?_,fun a=>?_⟩
  ·show ent (xs.foldl stR (stR R (x1,none))) a b=_;rw [i2,hc];have:ent (stR R (x1,none)) a b=if a=x1/\b=x1 then ent R x1 x1 + 1 else ent R a b:=Vm z hx (O7 hx) _ a b
   rw [this]
   by_cases q1:a=b
   ·subst q1
    by_cases q2:a=x1
    ·subst q2; simp; omega
    ·have q3:¬ (x1=a):=fun w=>q2 w.symm
     simp [q2,q3]
   ·have:¬ (a=x1/\b=x1):=fun w=>q1 (w.1.trans w.2.symm)
    simp [q1,this]
  ·show xs.foldl (stH n) (stH n H (x1,none)) a=_;rw [i3,hc];show x8 H x1 1 a + Q38 xs a=_;unfold x8
   by_cases q:a=x1
   ·subst q; simp; omega
   ·have q3:¬ (x1=a):=fun w=>q w.symm
    simp [q,q3]
theorem Q96 {tb:List (List Int)}:∀ i,∀ x∈mkL tb i,x.2=none/\x.1 < i
 | 0,x,hx=>by cases hx
 | i + 1,x,hx=>by
  rcases F7.mp hx with hx | hx
  ·have:=Q96 i x hx; exact ⟨this.1,by omega⟩
  ·rw [List.eq_of_mem_replicate hx]; exact ⟨rfl,Nat.lt_succ_self i⟩
theorem Qe0 {n:Nat} {tb:List (List Int)} (hdn:∀ g,g < n->0<=ent tb g g):∀ i,i<=n->∀ a,Q38 (mkL tb i) a=if a < i then ent tb a a else 0
 | 0,_,a=>by simp [mkL,Q38]
 | i + 1,h,a=>by
  have ih:=Qe0 hdn i (by omega) a;have:Q38 (mkL tb (i + 1)) a=Q38 (mkL tb i) a + if i=a then ((ent tb i i).toNat:Int) else 0:=by
   unfold Q38;rw [mkL,List.countP_append]
   by_cases q:i=a
   ·have:(List.replicate (ent tb i i).toNat ((i,none):Sp2)).countP (fun x=>decide (x.1=a))=(ent tb i i).toNat:=by
     rw [List.countP_eq_length.mpr fun x hx=>by rw [List.eq_of_mem_replicate hx]; simp [q],L7]
    rw [this,bM q]; push_cast; rfl
   ·have:(List.replicate (ent tb i i).toNat ((i,none):Sp2)).countP (fun x=>decide (x.1=a))=0:=by
     rw [List.countP_eq_zero];intro x hx;rw [List.eq_of_mem_replicate hx]; simp [q]
    rw [this,bN q]; simp
  rw [this,ih];have hd:=hdn i (by omega)
  by_cases q:i=a
  ·subst q;rw [bN (by omega),bM rfl,bM (by omega)]; omega
  ·rw [bN q]
   by_cases q2:a < i
   ·rw [bM q2,bM (by omega)]; omega
   ·rw [bN q2,bN (by omega)]; omega
def psL (ps:List (Nat × Nat)):List Sp2:=ps.map fun z=>(z.1,some z.2)
theorem Qvy (n:Nat) (ps:List (Nat × Nat)):(psL ps).map (spV n)=ps.map (stV n):=by
 unfold psL; rw [L9]; rfl
theorem Qif {rest:List (List Int)} {ps:List (Nat × Nat)} (P:Pth n rest ps):Wt' n rest->∀ (R:List (List Int)) (H:Nat->Int),Sz n R->(∀ a,a < n->H a=ent rest a a)->(∀ a b,a < n->b<=n->b≠a->ent R a b=ent tb a b - ent rest a b)->(∀ a,a < n->ent R a a=ent tb a a) ->
  OkT n H (psL ps)/\Sz n ((psL ps).foldl stR R)/\∀ a b,a < n->b<=n->ent ((psL ps).foldl stR R) a b=ent tb a b:=by
 induction P with
 | @nil rest hb=>
  intro w R H z hH hR hD;refine ⟨trivial,z,fun a b ha hb'=>?_⟩;show ent R a b=_
  by_cases q:b=a
  ·subst q; exact hD b ha
  ·rw [hR a b ha hb' q];have h1:=hb a ha;rw [<- Qek w ha] at h1;unfold Qem at h1;rw [List.any_eq_false] at h1;have:=h1 b (D4.mpr (by omega));simp only [F6,decide_eq_true_eq,not_and] at this;have h2:=this q;have h3:=w.ent_nn ha hb';omega
 | @cons rest h pl ps o _ ih=>
  intro w R H z hH hR hD;have hh:=o.hh;have hp:=o.hp;have hne:=o.ne;have re:=fun a b=>jf w.sz hh hp hne a b
  have z1:Sz n (stR R (h,some pl)):=Vi z hh _;have e1:∀ a b,ent (stR R (h,some pl)) a b=if a=h/\b=pl then ent R h pl + 1 else ent R a b:=fun a b=>Vm z hh hp _ a b
  obtain ⟨i1,i2,i3⟩:=ih (Q50 w o) (stR R (h,some pl)) (stH n H (h,some pl)) z1 (fun a ha=>by
   rw [re a a];show (if pl=n then x8 H h (-1) else x8 (x8 H h (-1)) pl 1) a=_
   by_cases q:pl=n
   ·rw [bM q];unfold x8
    by_cases q2:a=h
    ·subst q2; rw [bM rfl,hH a ha,bM ⟨rfl,rfl⟩,bN (fun w=>hne w.2.symm),bN (fun w=>by omega)]; omega
    ·rw [bN q2,hH a ha,bN (fun w=>q2 w.1),bN (fun w=>q2 w.1),bN (fun w=>by omega)]; omega
   ·rw [bN q];unfold x8
    by_cases q2:a=h
    ·subst q2;rw [bN (fun w=>hne w.symm),bM rfl,hH a ha,bM ⟨rfl,rfl⟩,bN (fun w=>hne w.2.symm),bN (fun w=>hne w.2.1.symm)]; omega
    ·by_cases q3:a=pl
     ·subst q3;rw [bM rfl,bN q2,hH a ha,bN (fun w=>q2 w.1),bN (fun w=>q2 w.1),bM ⟨by omega,rfl,rfl⟩]; omega
     ·rw [bN q3,bN q2,hH a ha,bN (fun w=>q2 w.1),bN (fun w=>q2 w.1),bN (fun w=>q3 w.2.1)]; omega)
   (fun a b ha hb q=>by
    rw [e1,re a b]
    by_cases q1:a=h/\b=pl
    ·obtain ⟨rfl,rfl⟩:=q1;rw [bM ⟨rfl,rfl⟩,hR a b ha hb q,bN (fun w=>q w.2),bM ⟨rfl,rfl⟩,bN (fun w=>q (w.2.2.trans w.2.1.symm))]; omega
    ·rw [bN q1,hR a b ha hb q,bN (fun w=>q (w.2.trans w.1.symm)),bN q1,bN (fun w=>q (w.2.2.trans w.2.1.symm))]; omega)
   (fun a ha=>by
    rw [e1,bN (fun w=>hne (w.2.symm.trans w.1)),hD a ha])
  refine ⟨⟨⟨⟨hh,fun pl' e=>?_⟩,fun _=>?_⟩,i1⟩,i2,i3⟩
  ·have:pl=pl':=Option.some.inj e;subst this;exact ⟨hp,hne⟩
  ·show 1<=H h;rw [hH h hh]; have:=o.d; omega
theorem J00 (w:Wt' n tb) {ps:List (Nat × Nat)} (P:Pth n tb ps):OkT n (fun _=>0) (mkL tb n ++ psL ps)/\(mkL tb n ++ psL ps).foldl stR (List.replicate n (W0 n))=tb:=by
 have w0:=Q3v w.n1 w.n8;have hdn:∀ g,g < n->0<=ent tb g g:=fun g hg=>w.ent_nn hg (O7 hg)
 obtain ⟨i1,i2,i3⟩:=Qdz (mkL tb n) (Q96 n) (List.replicate n (W0 n)) (fun _=>0) w0.sz;have hc:=Qe0 hdn n (O4 n);have hz:∀ a b,ent (List.replicate n (W0 n)) a b=0:=fun a b=>by
  unfold ent
  by_cases ha:a < n
  ·have e:(List.replicate n (W0 n)).getD a []=W0 n:=by simp [List.getD,ha]
   rw [e]
   by_cases hb:b < n + 1
   ·simp [W0,List.getD,F8,hb]
   ·simp [W0,List.getD,F8,hb]
  ·have e:(List.replicate n (W0 n)).getD a []=[]:=by simp [List.getD,ha]
   rw [e]; rfl
 obtain ⟨j1,j2,j3⟩:=Qif (tb:=tb) P w ((mkL tb n).foldl stR (List.replicate n (W0 n))) ((mkL tb n).foldl (stH n) fun _=>0) i1
  (fun a ha=>by rw [i3,hc,bM ha]; omega)
  (fun a b ha hb q=>by rw [i2,hz,bN (fun z=>q z.symm)]; omega)
  (fun a ha=>by rw [i2,hz,bM rfl,hc,bM ha]; omega)
 refine ⟨(Qdt _ _ _).mpr ⟨Qqq _ (Q96 n) _,j1⟩,?_⟩;rw [List.foldl_append];exact Qdc j2 w.sz j3
theorem Qgj (w:Wt' n tb) (c:Ca n tb) (st:Q0):∃ fs:List Nat,js n tb (Wn fs)=true/\fs.length<=n/\Qw [Q3 tb] st=.ok (.tup [.str "comes",.lst (fs.map Qs)]) st:=by
 have z:=w.sz;have hn:n<=100:=by have:=w.n8; omega
 have hn1:-1000000<=(n:Int)/\(n:Int)<=1000000:=by omega
 have hln:∀ S,Y1 S [Q3 tb]=.ok (.int n) S:=fun S=>by simp [Q3,z.1]
 have L:=qp (fun k:Nat=>PV.int (k:Int)) (fun Γ=>∃ a,Γ=[some (Q3 tb),a,none]) (fun h=>decide (0<=Q8 tb h)) (fun h=>.tup [.str "short",.int h]) (ga:=Qc 1) (body:=J5) (w:=[]) (st:=st) (by simp) (xs:=List.range n) (fun h hh Γ ⟨a,e⟩=>by
  subst e;have hr:=Q0a z hn (D4.mp hh) st;refine ⟨_,rfl,fun hp=>⟨[some (Q3 tb),some (.int h),none],⟨_,rfl⟩,?_⟩,fun hp=>?_⟩
  ·have hnn:0<=Q8 tb h:=by simpa using hp
   have:¬ (Q8 tb h < 0):=by omega
   generalize Q8 tb h=x at *;simp -implicitDefEqProofs [J5,hr,this]
  ·have hnn:¬ 0<=Q8 tb h:=by simpa using hp
   have:Q8 tb h < 0:=by omega
   generalize Q8 tb h=x at *;simp -implicitDefEqProofs [J5,hr,this,Qp])
 have L:=L [some (Q3 tb),none,none] ⟨_,rfl⟩;rw [<- V4] at L;have ha:((List.range n).all fun h=>decide (0<=Q8 tb h))=true:=F0.mpr fun h hh=>by
  have:=c.nn h (D4.mp hh);simp [this]
 obtain ⟨Γ',⟨a,rfl⟩,e⟩:=L.1 ha;obtain ⟨us,hl,hne,e1⟩:=U5 z hn st;have hu:=hne.mpr c.reach;subst hu;obtain ⟨fs,g,hc,e2⟩:=Q2k z hn st;refine ⟨fs,?_,g.rd.len,?_⟩
 ·rw [Qmq g.rd g.ah];unfold Q80;refine F0.mpr fun h hh=>?_
  have hh:=D4.mp hh;cases hb:Y0 tb h with
  | false=>simp
  | true=>
   have:=intsN_mem.mpr ((GdR.closed g hc hh).mpr (c.bz h hh hb));simp [this]
 ·have hg:fin st (.tup [.str "comes",.lst (fs.map Qs)]) st=.ok (.tup [.str "comes",.lst (fs.map Qs)]) st:=Zw (by simp [Z6,Qs]);rw [List.map_nil] at e1;generalize fs.map Qs=fv at *;simp -implicitDefEqProofs [Qw,Qd,W1,hln,hn1,Qp,e,e1,e2,hg]
inductive Dd where
 | mk (h:Nat) (k:Int)
 | ld (h q:Nat) (k:Int)
 | us (h:Nat) (k:Int)
def Dd.h:Dd->Nat
 | .mk h _=>h
 | .ld h _ _=>h
 | .us h _=>h
def Dd.k:Dd->Int
 | .mk _ k=>k
 | .ld _ _ k=>k
 | .us _ k=>k
def Dd.pl (n:Nat):Dd->Nat
 | .mk h _=>h
 | .ld _ q _=>q
 | .us _ _=>n
def Dd.isM:Dd->Bool
 | .mk _ _=>true
 | _=>false
def Dd.V:Dd->PV
 | .mk h k=>.tup [.str "make",.int h,.int k]
 | .ld h q k=>.tup [.str "lend",.int h,.int q,.int k]
 | .us h k=>.tup [.str "use",.int h,.int k]
def Dd.ok (n:Nat):Dd->Prop
 | .mk h k=>h < n/\1<=k
 | .ld h q k=>h < n/\q < n/\q≠h/\1<=k
 | .us h k=>h < n/\1<=k
theorem Dd.ok_h {d:Dd} (o:d.ok n):d.h < n:=by cases d <;> exact o.1
theorem Dd.ok_k {d:Dd} (o:d.ok n):1<=d.k:=by
 cases d with
 | mk h k=>exact o.2
 | ld h q k=>exact o.2.2.2
 | us h k=>exact o.2
theorem Dd.ok_pl {d:Dd} (o:d.ok n):d.pl n<=n:=by
 cases d with
 | mk h k=>exact O7 o.1
 | ld h q k=>exact O7 o.2.1
 | us h k=>exact O4 n
theorem V0 (x:Str) (ns:List Int) (hl:ns.length<=100) (st:Q0):Qa [.tup (.str x :: ns.map .int)] st=.ok (.bl true) st:=by
 have c1:cut (PV.str x :: ns.map .int) (some 1) none=ns.map .int:=Q04 _ 1;have hc:J4 (Qc 0) Zd Yc [] (J1 [none] [some (.tup (.str x :: ns.map .int))]) (ns.map .int) st=.ok (ns.map fun _=>.bl true) st:=by
  refine Yh _ _ (by simp) fun i _=>⟨_,rfl,?_⟩
  simp [J1,Yc,yn]
 have e:(ns.map fun _=>PV.bl true)=(ns.map fun _=>true).map PV.bl:=by rw [L9]; rfl
 have ha:(ns.map fun _=>true).all id=true:=by simp
 have a0:atI (PV.str x :: ns.map .int) 0=some (.str x):=Sm.atI_get (show (PV.str x :: ns.map .int)[0]?=some (.str x) from rfl);have hll:(ns.map PV.int).length<=1000000:=by rw [O2]; omega
 rw [e] at hc;have i1:isI "tuple" (.tup (.str x :: ns.map .int))=true:=rfl;have i2:isI "str" (.str x)=true:=rfl;have hz:¬ (((ns.map PV.int).length:Int) + 1=0):=by omega
 generalize (ns.map fun _=>true)=bs at *;generalize ns.map PV.int=nv at *;simp -implicitDefEqProofs [Qa,Qd,Wy,i1,i2,a0,c1,hc,ha,Qp,hll,hz,-F6]
theorem Qrb:¬ (Str.ofString "make" = Str.ofString "lend"):=by decide
theorem Qbu:¬ (Str.ofString "lend" = Str.ofString "make"):=by decide
theorem Qbs:¬ (Str.ofString "use" = Str.ofString "make"):=by decide
theorem Qbt:¬ (Str.ofString "use" = Str.ofString "lend"):=by decide
theorem Q60 {d:Dd} (o:d.ok n) (st:Q0):Y5 [d.V] st=.ok (.bl true) st:=by
 have hk:=Dd.ok_k o;cases d with
 | mk h k=>
  have t:=V0 "make" [h,k] (by simp) st;have a0:atI [PV.str "make",.int h,.int k] 0=some (.str "make"):=rfl;have a1:atI [PV.str "make",.int h,.int k] (-1)=some (.int k):=rfl;have hk:(1:Int)<=k:=hk;have t:Qa [.tup [.str "make",.int h,.int k]] st=.ok (.bl true) st:=t;unfold Dd.V;simp -implicitDefEqProofs [Y5,Qd,Vj,t,a0,a1,hk]
 | ld h q k=>
  have t:=V0 "lend" [h,q,k] (by simp) st;have a0:atI [PV.str "lend",.int h,.int q,.int k] 0=some (.str "lend"):=rfl;have a1:atI [PV.str "lend",.int h,.int q,.int k] (-1)=some (.int k):=rfl;have hk:(1:Int)<=k:=hk;have t:Qa [.tup [.str "lend",.int h,.int q,.int k]] st=.ok (.bl true) st:=t;unfold Dd.V;simp -implicitDefEqProofs [Y5,Qd,Vj,t,a0,a1,hk,Qbu]
 | us h k=>
  have t:=V0 "use" [h,k] (by simp) st;have a0:atI [PV.str "use",.int h,.int k] 0=some (.str "use"):=rfl;have a1:atI [PV.str "use",.int h,.int k] (-1)=some (.int k):=rfl;have hk:(1:Int)<=k:=hk;have t:Qa [.tup [.str "use",.int h,.int k]] st=.ok (.bl true) st:=t;unfold Dd.V;simp -implicitDefEqProofs [Y5,Qd,Vj,t,a0,a1,hk,Qbs,Qbt]
theorem Qay (hn:tb.length=n) {d:Dd} (o:d.ok n) (st:Q0):Qk [Q3 tb,d.V] st=.ok .non st:=by
 have b1:yu (fun ns=>.bl (ns.all id)) st [.lst [.bl true]]=.ok (.bl true) st:=Q6a _ st [true]
 have b2:yu (fun ns=>.bl (ns.all id)) st [.lst [.bl true,.bl true]]=.ok (.bl true) st:=Q6a _ st [true,true]
 have hh:∀ i:Nat,i < n->Z7 [Q3 tb,.int i] st=.ok (.bl true) st:=fun i hi=>by
  have:=qz (V:=Q3 tb) (n:=n) (st:=st) (by simp [Q3,hn]) (i:Int);rw [show (decide ((0:Int)<=(i:Int)) && decide ((i:Int) < (n:Int)))=true by simp; omega] at this;exact this
 cases d with
 | mk h k=>
  have e:=hh h o.1;have s1:cut [PV.str "make",.int h,.int k] (some 1) (some (-1))=[.int h]:=rfl;have a0:atI [PV.str "make",.int h,.int k] 0=some (.str "make"):=rfl;unfold Dd.V;generalize Q3 tb=T at *;simp -implicitDefEqProofs [Qk,Qd,Y3,s1,a0,J4,Qc,Zd,J1,Zt,b1,b2,e,Qp,Qrb]
 | ld h q k=>
  have e:=hh h o.1;have e2:=hh q o.2.1;have s1:cut [PV.str "lend",.int h,.int q,.int k] (some 1) (some (-1))=[.int h,.int q]:=rfl;have a0:atI [PV.str "lend",.int h,.int q,.int k] 0=some (.str "lend"):=rfl;have a1:atI [PV.int (h:Int),.int q] 0=some (.int h):=rfl;have a2:atI [PV.int (h:Int),.int q] 1=some (.int q):=rfl;have hne:((h:Int) == (q:Int))=false:=by rw [beq_eq_false_iff_ne]; have:=o.2.2.1; omega
  have hne':¬ ((h:Int)=(q:Int)):=by have:=o.2.2.1; omega
  unfold Dd.V;generalize Q3 tb=T at *;simp -implicitDefEqProofs [Qk,Qd,Y3,s1,a0,a1,a2,J4,Qc,Zd,J1,Zt,b1,b2,e,e2,Qp,hne,hne']
 | us h k=>
  have e:=hh h o.1;have s1:cut [PV.str "use",.int h,.int k] (some 1) (some (-1))=[.int h]:=rfl;have a0:atI [PV.str "use",.int h,.int k] 0=some (.str "use"):=rfl;unfold Dd.V;generalize Q3 tb=T at *;simp -implicitDefEqProofs [Qk,Qd,Y3,s1,a0,J4,Qc,Zd,J1,Zt,b1,b2,e,Qp,Qbt]
theorem Qip (hn:tb.length=n) {d:Dd} (o:d.ok n) (st:Q0):Ya [Q3 tb,d.V] st=.ok (.int (d.pl n)) st:=by
 cases d with
 | mk h k=>
  have a0:atI [PV.str "make",.int h,.int k] 0=some (.str "make"):=rfl;have a1:atI [PV.str "make",.int h,.int k] 1=some (.int h):=rfl;unfold Dd.V Dd.pl;generalize Q3 tb=T at *;simp -implicitDefEqProofs [Ya,Qd,Vb,a0,a1]
 | ld h q k=>
  have a0:atI [PV.str "lend",.int h,.int q,.int k] 0=some (.str "lend"):=rfl;have a1:atI [PV.str "lend",.int h,.int q,.int k] 2=some (.int q):=rfl;unfold Dd.V Dd.pl;generalize Q3 tb=T at *;simp -implicitDefEqProofs [Ya,Qd,Vb,a0,a1,Qbu]
 | us h k=>
  have a0:atI [PV.str "use",.int h,.int k] 0=some (.str "use"):=rfl;have hl:(tb.map Qh).length=n:=by rw [O2]; exact hn
  unfold Dd.V Dd.pl Q3;generalize tb.map Qh=T at *;simp -implicitDefEqProofs [Ya,Qd,Vb,a0,hl,Qbs,Qbt]
def Dd.fits (tb:List (List Int)) (d:Dd):Bool:=d.isM || decide (d.k<=Q8 tb d.h)
def Dd.put (n:Nat) (tb:List (List Int)) (d:Dd):List (List Int):=Yg tb d.h (d.pl n) (ent tb d.h (d.pl n) + d.k)
theorem Dd.a0 (d:Dd) (st:Q0):∃ w:Str,oIx st d.V (.int 0)=.ok (.str w) st/\(w = "make" <-> d.isM=true):=by
 cases d with
 | mk h k=>exact ⟨"make",rfl,by simp [Dd.isM]⟩
 | ld h q k=>exact ⟨"lend",rfl,by simp [Dd.isM,Qbu]⟩
 | us h k=>exact ⟨"use",rfl,by simp [Dd.isM,Qbs]⟩
theorem Dd.a1 (d:Dd) (st:Q0):oIx st d.V (.int 1)=.ok (.int d.h) st:=by cases d <;> rfl
theorem Dd.al (d:Dd) (st:Q0):oIx st d.V (.int (-1))=.ok (.int d.k) st:=by cases d <;> rfl
theorem Q9p (w:Wt' n tb) {d:Dd} (o:d.ok n) (st:Q0):Kg [Q3 tb,d.V] st=if d.fits tb=true then .ok (Q3 (d.put n tb)) st else .exc ⟨"Short",some ("had",.int (Q8 tb d.h))⟩ st:=by
 have h8:=w.n8;have e1:=Q60 o st;have e2:=Qay w.len o st;have e3:=Q0a w.sz (by omega) (Dd.ok_h o) st;have e4:=Qip w.len o st;have e5:=Q0c w.sz (by omega) (Dd.ok_h o) (Dd.ok_pl o) d.k st;obtain ⟨x,e6,hx⟩:=d.a0 st;have e7:=d.a1 st;have e8:=d.al st;have hpre:st <+: st:=List.prefix_refl _;have hf:fin st (Q3 (d.put n tb)) st=.ok (Q3 (d.put n tb)) st:=Zw (by simp [Z6,Q3,Qh]);have hfx:Qgf st ⟨"Short",some ("had",.int (Q8 tb d.h))⟩ st=.exc ⟨"Short",some ("had",.int (Q8 tb d.h))⟩ st:=by simp [Qgf,fz]
 unfold Dd.put Dd.fits at *;generalize Q3 (Yg tb d.h (d.pl n) (ent tb d.h (d.pl n) + d.k))=V2 at *;generalize Q8 tb d.h=r at *;generalize Q3 tb=T at *;generalize d.V=DV at *;generalize (d.pl n:Int)=pl at *;generalize d.k=k at *;cases hm:d.isM with
 | true=>
  have hx:x = "make" := hx.mpr hm;subst hx;simp -implicitDefEqProofs [Kg,Qd,Q5s,e1,e2,e4,e5,e6,e7,e8,hf]
 | false=>
  have hx':¬ x = "make" := fun z=>by rw [hx.mp z] at hm; cases hm
  by_cases hk:k<=r
  ·have hk':¬ r < k:=by omega
   simp -implicitDefEqProofs [Kg,Qd,Q5s,e1,e2,e3,e4,e5,e6,e7,e8,hf,hx',hk,hk']
  ·have hk':r < k:=by omega
   simp -implicitDefEqProofs [Kg,Qd,Q5s,e1,e2,e3,e6,e7,e8,hfx,hx',hk,hk']
theorem Qj {a b:MS} {Γ1:Gam} (h1:a Γ S=.nx Γ1 S1) (h2:b Γ1 S1=r):Qe a b Γ S=r:=by rw [Qb2,h1]; exact h2
theorem Y4 {i:Nat} (h:m Γ S=.ok v S1):Jg i m Γ S=.nx (Γ.set i (some v)) S1:=by rw [Qp4,h]; rfl
theorem Qr (h1:mr Γ S=.ok ps S1) (h2:ps.length=n) (h3:F ps S1=.ok v S2):Qb n F mr Γ S=.ok v S2:=by rw [Q7s,h1,J2,bM h2,h3]
theorem Qf {o:OP} {a b:ME} {S3:Q0} {x y:PV} (h1:a Γ S=.ok x S1) (h2:b Γ S1=.ok y S2) (h3:o S2 x y=.ok v S3):mOp o a b Γ S=.ok v S3:=by rw [Qtg,h1,J2,h2,J2,h3]
theorem Q4 (h1:m Γ S=.ok p S1) (h2:mr Γ S1=.ok ps S2):Q1 m mr Γ S=.ok (p :: ps) S2:=by rw [Qjj,h1,J2,h2,J2]
theorem Q06 {o:CF} (h1:mr Γ S=.ok ps S1) (h2:o S1 ps=.ok v S2):Qq o mr Γ S=.ok v S2:=by rw [Qjk,h1,J2,h2]
theorem Q1f {b:MS} {w:Wt} (h1:mi Γ S=.ok (xs,w) S1) (h2:z8 ga b w xs Γ S1=r):Q1b ga mi b Γ S=r:=by rw [Qp6,h1]; exact h2
theorem Q9h {a b:MS} (h1:c Γ S=.ok true S1) (h2:a Γ S1=r):Ym c a b Γ S=r:=by rw [Qe4,h1]; exact h2
theorem jm {a b:MS} (h1:c Γ S=.ok false S1) (h2:b Γ S1=r):Ym c a b Γ S=r:=by rw [Qe4,h1]; exact h2
theorem Qug {Γ1:Gam} (h1:m Γ S=.ok p S1) (h2:ga p Γ=some Γ1):Qp9 ga m Γ S=.nx Γ1 S1:=by rw [Qp8,h1]; show (match ga p Γ with | some Γ1=>SR.nx Γ1 S1 | none=>.stuck)=_; rw [h2]
theorem Q7c {w:Wt} (h1:m Γ S=.ok p S1) (h2:U1 S1 p=some (xs,w)) (h3:xs.length<=1000000):Kc m Γ S=.ok (xs,w) S1:=by rw [Qp5,h1,J2,h2]; exact bM h3
theorem Q4g {m:ML} (h:m Γ S=.ok ps S1):Ua m Γ S=.ok (.lst ps) S1:=by rw [Qp1,h,J2]
theorem Q0p {cap:List (Option Nat)} {mt:MT} {me:ME} {ys:List PV} {w:Wt} (h1:mi Γ S=.ok (xs,w) S1) (h2:J4 ga mt me w (J1 cap Γ) xs S1=.ok ys S2):Z9 cap ga mi mt me Γ S=.ok ys S2:=by rw [Qg1,h1,J2,h2]; rfl
theorem Q8g {m:ML} (h:m Γ S=.ok ps S1):Q1z m Γ S=.ok (.ref S1.length) (S1 ++ [.lst ps]):=by rw [Qp3,h,J2]
theorem Qch {t:MT} {b:Bool} (h:t Γ S=.ok b S1):Ur t Γ S=.ok (!b) S1:=by rw [Qhh,h,J2]
theorem Y7 {b:Bool} (h:m Γ S=.ok (.bl b) S1):toB m Γ S=.ok b S1:=by rw [Qr4,h]; rfl
theorem Qrn {mi:ME} {S3 S4:Q0} {o i:PV} (h1:m Γ S=.ok p S1) (h2:mo Γ S1=.ok o S2) (h3:mi Γ S2=.ok i S3) (h4:Q1k S3 o i p=some S4):Q98 mo mi m Γ S=.nx Γ S4:=by
 rw [Qg0,h1,Wh,h2,Wh,h3,Wh,h4]
theorem Q9x {f:MF} {S3:Q0} (h1:mo Γ S=.ok p S1) (h2:U7 S1 p=some xs) (h3:mr Γ S1=.ok ps S2) (h4:f S2 p ps=.ok v S3):Yj (mBM f mo mr) Γ S=.nx Γ S3:=by
 rw [Q23,Qtk,h1,J2];simp only [h2];rw [h3,J2,h4,Wh]
theorem Q03 (h:m Γ S=.ok v S1):Yj m Γ S=.nx Γ S1:=by rw [Q23,h]; rfl
theorem Qzf {a b:MT} (h:a Γ S=.ok true S1):Q2f a b Γ S=.ok true S1:=by rw [Qdd,h]; rfl
theorem Qnm {a b:MT} {r:Res Bool} (h:a Γ S=.ok false S1) (h2:b Γ S1=r):Q2f a b Γ S=r:=by rw [Qdd,h]; exact h2
theorem Qht {a b:MS} (h:a Γ S=.rt v S1):Qe a b Γ S=.rt v S1:=by rw [Qb2,h]
theorem xh (h1:mr Γ S=.ok ps S1) (h2:ps.length<=1000000):Xb mr Γ S=.ok (.tup ps) S1:=by rw [Qp2,h1,J2]; exact bM h2
theorem Qei {x:Exc} (h1:mr Γ S=.ok ps S1) (h2:ps.length=n) (h3:F ps S1=.exc x S2):Qb n F mr Γ S=.exc x S2:=by rw [Q7s,h1,J2,bM h2,h3]
theorem Q2v {i:Nat} {fs:List (Str × PV)} (h:S[i]?=some (.obj C fs)):Q0w C S (.ref i)=some (i,fs):=by
 unfold Q0w;simp only [h,if_true]
theorem Ke {f:Str} {i:Nat} {fs:List (Str × PV)} {q:PV} (h1:mo Γ S=.ok (.ref i) S) (h2:S[i]?=some (.obj C fs)) (h3:fs.lookup f=some q):Vk C f mo Γ S=.ok q S:=by
 rw [Qp7,h1,J2,Q2v h2];simp only [h3]
theorem Kk {f:Str} {i:Nat} {fs:List (Str × PV)} (h1:m Γ S=.ok p S1) (h2:mo Γ S1=.ok (.ref i) S1) (h3:S1[i]?=some (.obj C fs)) (h4:fs.length < 1000):jv C f mo m Γ S=.nx Γ (S1.set i (.obj C (ju f p fs))):=by
 rw [Qb3,h1,Wh,h2,Wh,Q2v h3];exact bM h4
theorem Qc0 {f:Str} {x:Exc} (h1:m Γ S=.exc x S1):jv C f mo m Γ S=.exc x S1:=by
 rw [Qb3,h1]; rfl
theorem qx {x:Str} {i:Nat} {fs:List (Str × PV)} (h1:mo Γ S=.ok (.ref i) S) (h2:S[i]?=some (.obj C fs)) (h3:fs.lookup x=none) (h4:mr Γ S=.ok ps S1) (h5:ps.length + 1=n):jw C x n F mo mr Γ S=F (.ref i :: ps) S1:=by
 rw [Qji,h1,J2,Q2v h2];simp only [h3,if_true];rw [h4,J2,bM h5]
def hsF (h:Nat) (now last:List (List Int)):List (Str × PV):=[("number",.int h),("now",Q3 now),("kept",Q3 last)]
theorem s1:((Str.ofString "now") == (Str.ofString "number"))=false:=by decide +kernel
theorem s2:((Str.ofString "kept") == (Str.ofString "number"))=false:=by decide +kernel
theorem s3:((Str.ofString "kept") == (Str.ofString "now"))=false:=by decide +kernel
theorem s1':¬ (Str.ofString "number" = Str.ofString "now"):=by decide +kernel
theorem s2':¬ (Str.ofString "number" = Str.ofString "kept"):=by decide +kernel
theorem s3':¬ (Str.ofString "now" = Str.ofString "kept"):=by decide +kernel
theorem Q0h (h:Nat) (a b:List (List Int)):(hsF h a b).lookup (Str.ofString "number")=some (.int h):=by unfold hsF; rw [E5,beq_self_eq_true]
theorem Q33 (h:Nat) (a b:List (List Int)):(hsF h a b).lookup (Str.ofString "now")=some (Q3 a):=by unfold hsF; rw [E5,s1,E5,beq_self_eq_true]
theorem Qe9 (h:Nat) (a b:List (List Int)):(hsF h a b).lookup (Str.ofString "kept")=some (Q3 b):=by unfold hsF; rw [E5,s2,E5,s3,E5,beq_self_eq_true]
theorem Q1q (h:Nat) (a b c:List (List Int)):ju "now" (Q3 c) (hsF h a b)=hsF h c b:=by
 unfold hsF;rw [ju,bN s1',ju,bM rfl]
theorem Qie (h:Nat) (a b c:List (List Int)):ju "kept" (Q3 c) (hsF h a b)=hsF h a c:=by
 unfold hsF;rw [ju,bN s2',ju,bN s3',ju,bM rfl]
theorem Q34 (h:Nat) (a b:List (List Int)):(hsF h a b).length < 1000:=by unfold hsF; simp
theorem j4 {x:Str} (h1:(x == (Str.ofString "number"))=false) (h2:(x == (Str.ofString "now"))=false) (h3:(x == (Str.ofString "kept"))=false) (h:Nat) (a b:List (List Int)):(hsF h a b).lookup x=none:=by
 unfold hsF;rw [E5,h1,E5,h2,E5,h3]; rfl
variable {C:aA} {S:Q0} {last:List (List Int)}
section
variable {i h:Nat} {now:List (List Int)}
def Q3i (C:aA) (S:Q0) (i n:Nat) (now last:List (List Int)) (d:Dd):Res PV:=if d.fits now=true then .ok .non (S.set i (.obj C (hsF d.h (d.put n now) last))) else .exc ⟨"Short",some ("had",.int (Q8 now d.h))⟩ S
theorem Qp0 (hS:S[i]?=some (.obj C (hsF h now last))) (w:Wt' n now) {k:Int} (o:(Dd.mk h k).ok n):Vw C [.ref i,.int k] S=Q3i C S i n now last (.mk h k):=by
 have e:=Q9p w o S;have hn:(Vk C "now" (Q2 0)) [some (.ref i),some (.int k)] S=.ok (Q3 now) S:=Ke rfl hS (Q33 _ _ _);have hh:(Vk C "number" (Q2 0)) [some (.ref i),some (.int k)] S=.ok (.int h) S:=Ke rfl hS (Q0h _ _ _);have ha:(Q1 (Vk C "now" (Q2 0)) (Q1 (Xb (Q1 (mC (.str "make")) (Q1 (Vk C "number" (Q2 0)) (Q1 (Q2 1) Q6)))) Q6)) [some (.ref i),some (.int k)] S=.ok [Q3 now,(Dd.mk h k).V] S:=Q4 hn (Q4 (xh (Q4 rfl (Q4 hh rfl)) (by simp)) rfl);unfold Q3i;show Zz (Ks C) 2 _ S=_;unfold Zz;rw [show (([.ref i,.int k]:List PV).map some ++ List.replicate (2 - [PV.ref i,.int k].length) none)=[some (.ref i),some (.int k)] from rfl];unfold Ks
 by_cases q:(Dd.mk h k).fits now=true
 ·rw [bM q] at e ⊢;rw [Kk (Qr (n:=2) ha rfl e) rfl hS (Q34 _ _ _),Q1q]; rfl
 ·rw [bN q] at e ⊢;rw [Qc0 (Qei (n:=2) ha rfl e)]
theorem Qpb (hS:S[i]?=some (.obj C (hsF h now last))) (w:Wt' n now) {t:Nat} {k:Int} (o:(Dd.ld h t k).ok n):Vx C [.ref i,.int t,.int k] S=Q3i C S i n now last (.ld h t k):=by
 have e:=Q9p w o S;have hn:(Vk C "now" (Q2 0)) [some (.ref i),some (.int t),some (.int k)] S=.ok (Q3 now) S:=Ke rfl hS (Q33 _ _ _);have hh:(Vk C "number" (Q2 0)) [some (.ref i),some (.int t),some (.int k)] S=.ok (.int h) S:=Ke rfl hS (Q0h _ _ _);have ha:(Q1 (Vk C "now" (Q2 0)) (Q1 (Xb (Q1 (mC (.str "lend")) (Q1 (Vk C "number" (Q2 0)) (Q1 (Q2 1) (Q1 (Q2 2) Q6))))) Q6)) [some (.ref i),some (.int t),some (.int k)] S=.ok [Q3 now,(Dd.ld h t k).V] S:=Q4 hn (Q4 (xh (Q4 rfl (Q4 hh rfl)) (by simp)) rfl);unfold Q3i;show Zz (Kt C) 3 _ S=_;unfold Zz;rw [show (([.ref i,.int t,.int k]:List PV).map some ++ List.replicate (3 - [PV.ref i,.int t,.int k].length) none)=[some (.ref i),some (.int t),some (.int k)] from rfl];unfold Kt
 by_cases q:(Dd.ld h t k).fits now=true
 ·rw [bM q] at e ⊢;rw [Kk (Qr (n:=2) ha rfl e) rfl hS (Q34 _ _ _),Q1q]; rfl
 ·rw [bN q] at e ⊢;rw [Qc0 (Qei (n:=2) ha rfl e)]
theorem Qqy (hS:S[i]?=some (.obj C (hsF h now last))) (w:Wt' n now) {k:Int} (o:(Dd.us h k).ok n):Um C [.ref i,.int k] S=Q3i C S i n now last (.us h k):=by
 have e:=Q9p w o S;have hn:(Vk C "now" (Q2 0)) [some (.ref i),some (.int k)] S=.ok (Q3 now) S:=Ke rfl hS (Q33 _ _ _);have hh:(Vk C "number" (Q2 0)) [some (.ref i),some (.int k)] S=.ok (.int h) S:=Ke rfl hS (Q0h _ _ _);have ha:(Q1 (Vk C "now" (Q2 0)) (Q1 (Xb (Q1 (mC (.str "use")) (Q1 (Vk C "number" (Q2 0)) (Q1 (Q2 1) Q6)))) Q6)) [some (.ref i),some (.int k)] S=.ok [Q3 now,(Dd.us h k).V] S:=Q4 hn (Q4 (xh (Q4 rfl (Q4 hh rfl)) (by simp)) rfl);unfold Q3i;show Zz (qy C) 2 _ S=_;unfold Zz;rw [show (([.ref i,.int k]:List PV).map some ++ List.replicate (2 - [PV.ref i,.int k].length) none)=[some (.ref i),some (.int k)] from rfl];unfold qy
 by_cases q:(Dd.us h k).fits now=true
 ·rw [bM q] at e ⊢;rw [Kk (Qr (n:=2) ha rfl e) rfl hS (Q34 _ _ _),Q1q]; rfl
 ·rw [bN q] at e ⊢;rw [Qc0 (Qei (n:=2) ha rfl e)]
theorem Qpj (hS:S[i]?=some (.obj C (hsF h now last))):Vy C [.ref i] S=.ok .non (S.set i (.obj C (hsF h now now))):=by
 show Zz (Ku C) 1 _ S=_;unfold Zz Ku;rw [show (([.ref i]:List PV).map some ++ List.replicate (1 - [PV.ref i].length) none)=[some (.ref i)] from rfl,Kk (Ke rfl hS (Q33 _ _ _)) rfl hS (Q34 _ _ _),Qie]
theorem Qpw (hS:S[i]?=some (.obj C (hsF h now last))):Vz C [.ref i] S=.ok .non (S.set i (.obj C (hsF h last last))):=by
 show Zz (Kv C) 1 _ S=_;unfold Zz Kv;rw [show (([.ref i]:List PV).map some ++ List.replicate (1 - [PV.ref i].length) none)=[some (.ref i)] from rfl,Kk (Ke rfl hS (Qe9 _ _ _)) rfl hS (Q34 _ _ _),Q1q]
theorem Q9j (S:Q0) (a:List (List Int)):fin S (Q3 a) S=.ok (Q3 a) S:=Zw (by simp [Z6,Q3,Qh])
theorem Qg2 (hS:S[i]?=some (.obj C (hsF h now last))):Yq C [.ref i] S=.ok (Q3 last) S:=by
 show Qd (Uz C) 1 _ S=_;unfold Qd Uz;rw [show (([.ref i]:List PV).map some ++ List.replicate (1 - [PV.ref i].length) none)=[some (.ref i)] from rfl,Q20,Ke rfl hS (Qe9 _ _ _)];exact Q9j S last
theorem Qhg (hS:S[i]?=some (.obj C (hsF h now last))):Ws C [.ref i] S=.ok (Q3 now) S:=by
 show Qd (Xx C) 1 _ S=_;unfold Qd Xx;rw [show (([.ref i]:List PV).map some ++ List.replicate (1 - [PV.ref i].length) none)=[some (.ref i)] from rfl,Q20,Ke rfl hS (Q33 _ _ _)];exact Q9j S now
end
theorem Qq0 {i h:Nat} {now L:List (List Int)} (hS:S[i]?=some (.obj C (hsF h now last))) (w:Wt' n now) (wL:Wt' n L) (hh:h < n) (hr:Qaf (L.getD h []) (now.getD h [])=true):U0 C [.ref i,Q3 L] S=.ok .non (S.set i (.obj C (hsF h (W3 now L) last))):=by
 have h8:=w.n8;have lim0:lim=1000000:=rfl;have hn:(Vk C "now" (Q2 0)) [some (.ref i),some (Q3 L)] S=.ok (Q3 now) S:=Ke rfl hS (Q33 _ _ _);have hm:(Vk C "number" (Q2 0)) [some (.ref i),some (Q3 L)] S=.ok (.int h) S:=Ke rfl hS (Q0h _ _ _);have e1:=Qdy (a:=now) (b:=L) (by rw [w.len,wL.len]) S;have gL:L[h]?=some (L.getD h []):=getD_some (by rw [wL.len]; exact hh) [];have gN:now[h]?=some (now.getD h []):=getD_some (by rw [w.len]; exact hh) [];have i1:oIx S (Q3 L) (.int h)=.ok (Qh (L.getD h [])) S:=by
  have:oIx S (Q3 L) (.int h)=okO S (atI (L.map Qh) (h:Int)):=rfl;rw [this,qa,Sm.atI_get gL]; rfl
 have i2:oIx S (Q3 now) (.int h)=.ok (Qh (now.getD h [])) S:=by
  have:oIx S (Q3 now) (.int h)=okO S (atI (now.map Qh) (h:Int)):=rfl;rw [this,qa,Sm.atI_get gN]; rfl
 have rl:∀ r∈now,r.length<=lim:=fun r hr=>by rw [w.sz.2 r hr,lim0]; omega
 have e2:=Q6k (L.getD h []) (now.getD h []) S (by rw [wL.sz.2 _ (E4 gL),lim0]; omega);rw [hr] at e2;have e3:=Q7z (a:=now) (b:=L) (by rw [w.len,wL.len]) (by rw [w.len,lim0]; omega) rl S;have step:Kw C [some (.ref i),some (Q3 L)] S=.nx [some (.ref i),some (Q3 L)] (S.set i (.obj C (ju "now" (Q3 (W3 now L)) (hsF h now last)))):=
  Qj (Q03 (Qr (n:=2) (Q4 hn rfl) rfl e1)) (Qj (jm (Qch (Y7 (Qr (n:=2) (Q4 (Qf rfl hm i1) (Q4 (Qf hn hm i2) rfl)) rfl e2))) rfl) (Kk (Qr (n:=2) (Q4 hn rfl) rfl e3) rfl hS (Q34 _ _ _)))
 rw [Q1q] at step;show Zz (Kw C) 2 _ S=_;unfold Zz;rw [show (([.ref i,Q3 L]:List PV).map some ++ List.replicate (2 - [PV.ref i,Q3 L].length) none)=[some (.ref i),some (Q3 L)] from rfl,step]
abbrev Tab:=List (List Int)
variable {G:Tab}
inductive Dx where
 | own (d:Dd)
 | kp (i:Nat)
 | fl (i:Nat)
 | sd (i:Nat)
 | cm (l i:Nat)
def Dx.V:Dx->PV
 | .own d=>d.V
 | .kp i=>.tup [.str "keep",.int i]
 | .fl i=>.tup [.str "fall",.int i]
 | .sd i=>.tup [.str "send",.int i]
 | .cm l i=>.tup [.str "come",.int l,.int i]
structure RS where
 now:List Tab
 last:List Tab
 le:List Tab
variable {s:RS}
def Dx.ok (n:Nat) (s:RS):Dx->Prop
 | .own d=>d.ok n
 | .kp i=>i < n
 | .fl i=>i < n
 | .sd i=>i < n
 | .cm l i=>l < s.le.length/\i < n
def Y8 (n:Nat) (s:RS):Dx->RS
 | .own d=>if d.fits (s.now.getD d.h [])=true then ⟨s.now.set d.h (d.put n (s.now.getD d.h [])),s.last,s.le⟩ else s
 | .kp i=>⟨s.now,s.last.set i (s.now.getD i []),s.le⟩
 | .fl i=>⟨s.now.set i (s.last.getD i []),s.last,s.le⟩
 | .sd i=>⟨s.now,s.last,s.le ++ [s.last.getD i []]⟩
 | .cm l i=>⟨s.now.set i (W3 (s.now.getD i []) (s.le.getD l [])),s.last,s.le⟩
def Q77 (s:RS):Dx->PV
 | .own d=>if d.fits (s.now.getD d.h [])=true then .str "done" else .int (Q8 (s.now.getD d.h []) d.h)
 | _=>.str "done"
structure RI (n:Nat) (s:RS):Prop where
 ln:s.now.length=n
 ll:s.last.length=n
 wn:∀ i,i < n->Wt' n (s.now.getD i [])
 wl:∀ i,i < n->Wt' n (s.last.getD i [])
 we:∀ L∈s.le,Wt' n L
 up:∀ i j,i < n->j<=n->ent (s.last.getD i []) i j<=ent (s.now.getD i []) i j
 bn:∀ a i j,a < n->i < n->a≠i->j<=n->ent (s.now.getD a []) i j<=ent (s.last.getD i []) i j
 bl:∀ a i j,a < n->i < n->j<=n->ent (s.last.getD a []) i j<=ent (s.last.getD i []) i j
 be:∀ L∈s.le,∀ i j,i < n->j<=n->ent L i j<=ent (s.last.getD i []) i j
theorem Qy {xs:List α} {i:Nat} (hi:i < xs.length) (v d:α) (j:Nat):(xs.set i v).getD j d=if j=i then v else xs.getD j d:=by
 rw [D9,List.getElem?_set,D9]
 by_cases q:i=j
 ·subst q; rw [bM rfl,bM hi,bM rfl]; rfl
 ·rw [bN q,bN (fun z=>q z.symm)]
theorem Qc9 {tb:Tab} (w:Wt' n tb) {d:Dd} (o:d.ok n):Wt' n (d.put n tb):=by
 unfold Dd.put Yg;refine Wt'.set0 w (Dd.ok_h o) ?_;have h1:=w.ent_nn (Dd.ok_h o) (Dd.ok_pl o);have h2:=Dd.ok_k o;omega
theorem Qdp {tb:Tab} (w:Wt' n tb) {d:Dd} (o:d.ok n) (a b:Nat):ent tb a b<=ent (d.put n tb) a b/\(a≠d.h->ent (d.put n tb) a b=ent tb a b):=by
 unfold Dd.put;rw [Vm w.sz (Dd.ok_h o) (Dd.ok_pl o)];have h2:=Dd.ok_k o;refine ⟨?_,fun h=>bN fun z=>h z.1⟩
 split
 ·rename_i z; rw [z.1,z.2]; omega
 ·exact Int.le_refl _
theorem Qpk {a b:Tab} (wa:Wt' n a) (wb:Wt' n b):Wt' n (W3 a b):=by
 refine Wt'.of_ent (Q8k wa.sz wb.sz) wa.n1 wa.n8 fun i j hi hj=>?_
 rw [qr wa.sz wb.sz hi hj];exact Int.le_trans (wa.ent_nn hi hj) (Qcm _ _)
theorem RI.step (r:RI n s) {x:Dx} (o:x.ok n s):RI n (Y8 n s x):=by
 cases x with
 | own d=>
  have hh:=Dd.ok_h o;unfold Y8
  by_cases q:d.fits (s.now.getD d.h [])=true
  ·simp only [bM q];have w:=r.wn d.h hh;have hl:d.h < s.now.length:=by rw [r.ln]; exact hh
   refine ⟨by simp only [F2]; exact r.ln,r.ll,fun i hi=>?_,r.wl,r.we,fun i j hi hj=>?_,fun a i j ha hi hne hj=>?_,r.bl,r.be⟩
   ·simp only [Qy hl]
    split
    ·exact Qc9 w o
    ·exact r.wn i hi
   ·simp only [Qy hl]
    split
    ·rename_i z; subst z;exact Int.le_trans (r.up _ j hi hj) (Qdp w o _ _).1
    ·exact r.up i j hi hj
   ·simp only [Qy hl]
    split
    ·rename_i z; subst z;rw [(Qdp w o i j).2 (fun z=>hne z.symm)];exact r.bn _ i j ha hi hne hj
    ·exact r.bn a i j ha hi hne hj
  ·simp only [bN q]; exact r
 | kp i0=>
  have hh:i0 < n:=o;have hl:i0 < s.last.length:=by rw [r.ll]; exact hh
  refine ⟨r.ln,by simp only [Y8,F2]; exact r.ll,r.wn,fun i hi=>?_,r.we,fun i j hi hj=>?_,fun a i j ha hi hne hj=>?_,fun a i j ha hi hj=>?_,fun L hL i j hi hj=>?_⟩
  ·simp only [Y8,Qy hl]
   split
   ·exact r.wn i0 hh
   ·exact r.wl i hi
  ·simp only [Y8,Qy hl]
   split
   ·rename_i z; subst z; exact Int.le_refl _
   ·exact r.up i j hi hj
  ·simp only [Y8,Qy hl]
   split
   ·rename_i z; subst z;exact Int.le_trans (r.bn a i j ha hi hne hj) (r.up i j hi hj)
   ·exact r.bn a i j ha hi hne hj
  ·simp only [Y8,Qy hl];have b1:ent (s.last.getD a []) i j<=ent (s.last.getD i []) i j:=r.bl a i j ha hi hj
   split
   ·rename_i z; subst z
    split
    ·rename_i z2; subst z2; exact Int.le_refl _
    ·rename_i z2;exact r.bn _ i j ha hi (fun z=>z2 z.symm) hj
   ·split
    ·rename_i z2; subst z2;exact Int.le_trans b1 (r.up _ j hi hj)
    ·exact b1
  ·simp only [Y8,Qy hl];have b1:=r.be L hL i j hi hj
   split
   ·rename_i z; subst z;exact Int.le_trans b1 (r.up _ j hi hj)
   ·exact b1
 | fl i0=>
  have hh:i0 < n:=o;have hl:i0 < s.now.length:=by rw [r.ln]; exact hh
  refine ⟨by simp only [Y8,F2]; exact r.ln,r.ll,fun i hi=>?_,r.wl,r.we,fun i j hi hj=>?_,fun a i j ha hi hne hj=>?_,r.bl,r.be⟩
  ·simp only [Y8,Qy hl]
   split
   ·exact r.wl i0 hh
   ·exact r.wn i hi
  ·simp only [Y8,Qy hl]
   split
   ·rename_i z; subst z; exact Int.le_refl _
   ·exact r.up i j hi hj
  ·simp only [Y8,Qy hl]
   split
   ·rename_i z; subst z; exact r.bl _ i j ha hi hj
   ·exact r.bn a i j ha hi hne hj
 | sd i0=>
  have hh:i0 < n:=o;refine ⟨r.ln,r.ll,r.wn,r.wl,fun L hL=>?_,r.up,r.bn,r.bl,fun L hL i j hi hj=>?_⟩
  ·rcases F7.mp hL with h | h
   ·exact r.we L h
   ·rw [List.mem_singleton.mp h]; exact r.wl i0 hh
  ·rcases F7.mp hL with h | h
   ·exact r.be L h i j hi hj
   ·rw [List.mem_singleton.mp h]; exact r.bl i0 i j hh hi hj
 | cm l i0=>
  obtain ⟨hl0,hh⟩:=o;have hl:i0 < s.now.length:=by rw [r.ln]; exact hh
  have hL:s.le.getD l []∈s.le:=E4 (getD_some hl0 []);have wL:=r.we _ hL;have wN:=r.wn i0 hh;refine ⟨by simp only [Y8,F2]; exact r.ln,r.ll,fun i hi=>?_,r.wl,r.we,fun i j hi hj=>?_,fun a i j ha hi hne hj=>?_,r.bl,r.be⟩
  ·simp only [Y8,Qy hl]
   split
   ·exact Qpk wN wL
   ·exact r.wn i hi
  ·simp only [Y8,Qy hl]
   split
   ·rename_i z; subst z;rw [qr wN.sz wL.sz hi hj];exact Int.le_trans (r.up _ j hi hj) (Qcm _ _)
   ·exact r.up i j hi hj
  ·simp only [Y8,Qy hl]
   split
   ·rename_i z; subst z;rw [qr wN.sz wL.sz hi hj];have b1:=r.bn _ i j ha hi hne hj;have b2:=r.be _ hL i j hi hj;rcases Q41 (ent (s.now.getD a []) i j) (ent (s.le.getD l []) i j) with e | e
    ·rw [e]; exact b1
    ·rw [e]; exact b2
   ·exact r.bn a i j ha hi hne hj
theorem RI.row (r:RI n s) {L:Tab} (hL:L∈s.le) {i:Nat} (hi:i < n):Qaf (L.getD i []) ((s.now.getD i []).getD i [])=true:=by
 unfold Qaf;rw [F0];intro z hz;obtain ⟨j,hj⟩:=List.mem_iff_getElem?.mp hz;rw [List.getElem?_zip_eq_some] at hj;have wL:=r.we L hL;have wN:=r.wn i hi;have gL:L[i]?=some (L.getD i []):=getD_some (by rw [wL.len]; exact hi) [];have lL:=wL.row _ (E4 gL);have hjl:j<=n:=by have:=(O1.mp hj.1).1; omega
 have b1:=Int.le_trans (r.be L hL i j hi hjl) (r.up i j hi hjl);unfold ent at b1;rw [D9,hj.1,D9,hj.2] at b1;simpa using b1
theorem Q85 (S:Q0) (a:Str):oEq S (.str a) (.str a)=.ok (.bl true) S:=by simp
theorem Q0x {a b:Str} (S:Q0) (h:¬ a=b):oEq S (.str a) (.str b)=.ok (.bl false) S:=by simp [h]
theorem J8:¬ (Str.ofString "make" = Str.ofString "lend"):=by decide +kernel
theorem Zm:¬ (Str.ofString "make" = Str.ofString "use"):=by decide +kernel
theorem Jn:¬ (Str.ofString "make" = Str.ofString "keep"):=by decide +kernel
theorem Jp:¬ (Str.ofString "make" = Str.ofString "fall"):=by decide +kernel
theorem Jm:¬ (Str.ofString "make" = Str.ofString "send"):=by decide +kernel
theorem Jq:¬ (Str.ofString "make" = Str.ofString "come"):=by decide +kernel
theorem J9:¬ (Str.ofString "lend" = Str.ofString "make"):=by decide +kernel
theorem Zn:¬ (Str.ofString "lend" = Str.ofString "use"):=by decide +kernel
theorem Js:¬ (Str.ofString "lend" = Str.ofString "keep"):=by decide +kernel
theorem Jt:¬ (Str.ofString "lend" = Str.ofString "fall"):=by decide +kernel
theorem Jr:¬ (Str.ofString "lend" = Str.ofString "send"):=by decide +kernel
theorem Ju:¬ (Str.ofString "lend" = Str.ofString "come"):=by decide +kernel
theorem Zb:¬ (Str.ofString "use" = Str.ofString "make"):=by decide +kernel
theorem Jh:¬ (Str.ofString "use" = Str.ofString "lend"):=by decide +kernel
theorem Zh:¬ (Str.ofString "use" = Str.ofString "keep"):=by decide +kernel
theorem Zi:¬ (Str.ofString "use" = Str.ofString "fall"):=by decide +kernel
theorem Zg:¬ (Str.ofString "use" = Str.ofString "send"):=by decide +kernel
theorem Zj:¬ (Str.ofString "use" = Str.ofString "come"):=by decide +kernel
theorem Jw:¬ (Str.ofString "keep" = Str.ofString "make"):=by decide +kernel
theorem Jx:¬ (Str.ofString "keep" = Str.ofString "lend"):=by decide +kernel
theorem Zp:¬ (Str.ofString "keep" = Str.ofString "use"):=by decide +kernel
theorem Jy:¬ (Str.ofString "keep" = Str.ofString "fall"):=by decide +kernel
theorem Jv:¬ (Str.ofString "keep" = Str.ofString "send"):=by decide +kernel
theorem Jz:¬ (Str.ofString "keep" = Str.ofString "come"):=by decide +kernel
theorem Z1:¬ (Str.ofString "fall" = Str.ofString "make"):=by decide +kernel
theorem Z2:¬ (Str.ofString "fall" = Str.ofString "lend"):=by decide +kernel
theorem Zq:¬ (Str.ofString "fall" = Str.ofString "use"):=by decide +kernel
theorem Ja:¬ (Str.ofString "fall" = Str.ofString "keep"):=by decide +kernel
theorem Z0:¬ (Str.ofString "fall" = Str.ofString "send"):=by decide +kernel
theorem Z3:¬ (Str.ofString "fall" = Str.ofString "come"):=by decide +kernel
theorem Ji:¬ (Str.ofString "send" = Str.ofString "make"):=by decide +kernel
theorem Jj:¬ (Str.ofString "send" = Str.ofString "lend"):=by decide +kernel
theorem Zk:¬ (Str.ofString "send" = Str.ofString "use"):=by decide +kernel
theorem J6:¬ (Str.ofString "send" = Str.ofString "keep"):=by decide +kernel
theorem J7:¬ (Str.ofString "send" = Str.ofString "fall"):=by decide +kernel
theorem Jk:¬ (Str.ofString "send" = Str.ofString "come"):=by decide +kernel
theorem Z4:¬ (Str.ofString "come" = Str.ofString "make"):=by decide +kernel
theorem Z5:¬ (Str.ofString "come" = Str.ofString "lend"):=by decide +kernel
theorem Zr:¬ (Str.ofString "come" = Str.ofString "use"):=by decide +kernel
theorem Jc:¬ (Str.ofString "come" = Str.ofString "keep"):=by decide +kernel
theorem Jd:¬ (Str.ofString "come" = Str.ofString "fall"):=by decide +kernel
theorem Jb:¬ (Str.ofString "come" = Str.ofString "send"):=by decide +kernel
theorem qq (S:Q0) (k:Int):oEq S (.int k) .non=.ok (.bl false) S:=rfl
def Dx.oth:Dx->Bool
 | .own _=>false
 | _=>true
theorem Qap (x:Dx) (S:Q0):Qn [x.V] S=.ok (.bl x.oth) S:=by
 cases x with
 | own d=>
  cases d with
  | mk h k=>
   have t:Qa [.tup [.str "make",.int h,.int k]] S=.ok (.bl true) S:=V0 "make" [h,k] (by simp) S;have a0:atI [PV.str "make",.int h,.int k] 0=some (.str "make"):=rfl;unfold Dx.V Dd.V Dx.oth;simp -implicitDefEqProofs [Qn,Qd,Zf,Kx,qq,t,a0,J8,Zm,Jn,Jp,Jm,Jq,J9,Zn,Js,Jt,Jr,Ju,Zb,Jh,Zh,Zi,Zg,Zj,Jw,Jx,Zp,Jy,Jv,Jz,Z1,Z2,Zq,Ja,Z0,Z3,Ji,Jj,Zk,J6,J7,Jk,Z4,Z5,Zr,Jc,Jd,Jb]
  | ld h q k=>
   have t:Qa [.tup [.str "lend",.int h,.int q,.int k]] S=.ok (.bl true) S:=V0 "lend" [h,q,k] (by simp) S;have a0:atI [PV.str "lend",.int h,.int q,.int k] 0=some (.str "lend"):=rfl;unfold Dx.V Dd.V Dx.oth;simp -implicitDefEqProofs [Qn,Qd,Zf,Kx,qq,t,a0,J8,Zm,Jn,Jp,Jm,Jq,J9,Zn,Js,Jt,Jr,Ju,Zb,Jh,Zh,Zi,Zg,Zj,Jw,Jx,Zp,Jy,Jv,Jz,Z1,Z2,Zq,Ja,Z0,Z3,Ji,Jj,Zk,J6,J7,Jk,Z4,Z5,Zr,Jc,Jd,Jb]
  | us h k=>
   have t:Qa [.tup [.str "use",.int h,.int k]] S=.ok (.bl true) S:=V0 "use" [h,k] (by simp) S;have a0:atI [PV.str "use",.int h,.int k] 0=some (.str "use"):=rfl;unfold Dx.V Dd.V Dx.oth;simp -implicitDefEqProofs [Qn,Qd,Zf,Kx,qq,t,a0,J8,Zm,Jn,Jp,Jm,Jq,J9,Zn,Js,Jt,Jr,Ju,Zb,Jh,Zh,Zi,Zg,Zj,Jw,Jx,Zp,Jy,Jv,Jz,Z1,Z2,Zq,Ja,Z0,Z3,Ji,Jj,Zk,J6,J7,Jk,Z4,Z5,Zr,Jc,Jd,Jb]
 | kp i=>
  have t:Qa [.tup [.str "keep",.int i]] S=.ok (.bl true) S:=V0 "keep" [i] (by simp) S;have a0:atI [PV.str "keep",.int i] 0=some (.str "keep"):=rfl;unfold Dx.V Dx.oth;simp -implicitDefEqProofs [Qn,Qd,Zf,Kx,qq,t,a0,J8,Zm,Jn,Jp,Jm,Jq,J9,Zn,Js,Jt,Jr,Ju,Zb,Jh,Zh,Zi,Zg,Zj,Jw,Jx,Zp,Jy,Jv,Jz,Z1,Z2,Zq,Ja,Z0,Z3,Ji,Jj,Zk,J6,J7,Jk,Z4,Z5,Zr,Jc,Jd,Jb]
 | fl i=>
  have t:Qa [.tup [.str "fall",.int i]] S=.ok (.bl true) S:=V0 "fall" [i] (by simp) S;have a0:atI [PV.str "fall",.int i] 0=some (.str "fall"):=rfl;unfold Dx.V Dx.oth;simp -implicitDefEqProofs [Qn,Qd,Zf,Kx,qq,t,a0,J8,Zm,Jn,Jp,Jm,Jq,J9,Zn,Js,Jt,Jr,Ju,Zb,Jh,Zh,Zi,Zg,Zj,Jw,Jx,Zp,Jy,Jv,Jz,Z1,Z2,Zq,Ja,Z0,Z3,Ji,Jj,Zk,J6,J7,Jk,Z4,Z5,Zr,Jc,Jd,Jb]
 | sd i=>
  have t:Qa [.tup [.str "send",.int i]] S=.ok (.bl true) S:=V0 "send" [i] (by simp) S;have a0:atI [PV.str "send",.int i] 0=some (.str "send"):=rfl;unfold Dx.V Dx.oth;simp -implicitDefEqProofs [Qn,Qd,Zf,Kx,qq,t,a0,J8,Zm,Jn,Jp,Jm,Jq,J9,Zn,Js,Jt,Jr,Ju,Zb,Jh,Zh,Zi,Zg,Zj,Jw,Jx,Zp,Jy,Jv,Jz,Z1,Z2,Zq,Ja,Z0,Z3,Ji,Jj,Zk,J6,J7,Jk,Z4,Z5,Zr,Jc,Jd,Jb]
 | cm l i=>
  have t:Qa [.tup [.str "come",.int l,.int i]] S=.ok (.bl true) S:=V0 "come" [l,i] (by simp) S;have a0:atI [PV.str "come",.int l,.int i] 0=some (.str "come"):=rfl;unfold Dx.V Dx.oth;simp -implicitDefEqProofs [Qn,Qd,Zf,Kx,qq,t,a0,J8,Zm,Jn,Jp,Jm,Jq,J9,Zn,Js,Jt,Jr,Ju,Zb,Jh,Zh,Zi,Zg,Zj,Jw,Jx,Zp,Jy,Jv,Jz,Z1,Z2,Zq,Ja,Z0,Z3,Ji,Jj,Zk,J6,J7,Jk,Z4,Z5,Zr,Jc,Jd,Jb]
theorem Q2b {x:Dx} (h:x.oth=true) (S:Q0):Y5 [x.V] S=.ok (.bl false) S:=by
 cases x with
 | own d=>cases h
 | kp i=>
  have t:Qa [.tup [.str "keep",.int i]] S=.ok (.bl true) S:=V0 "keep" [i] (by simp) S;have a0:atI [PV.str "keep",.int i] 0=some (.str "keep"):=rfl;unfold Dx.V;simp -implicitDefEqProofs [Y5,Qd,Vj,qq,t,a0,J8,Zm,Jn,Jp,Jm,Jq,J9,Zn,Js,Jt,Jr,Ju,Zb,Jh,Zh,Zi,Zg,Zj,Jw,Jx,Zp,Jy,Jv,Jz,Z1,Z2,Zq,Ja,Z0,Z3,Ji,Jj,Zk,J6,J7,Jk,Z4,Z5,Zr,Jc,Jd,Jb]
 | fl i=>
  have t:Qa [.tup [.str "fall",.int i]] S=.ok (.bl true) S:=V0 "fall" [i] (by simp) S;have a0:atI [PV.str "fall",.int i] 0=some (.str "fall"):=rfl;unfold Dx.V;simp -implicitDefEqProofs [Y5,Qd,Vj,qq,t,a0,J8,Zm,Jn,Jp,Jm,Jq,J9,Zn,Js,Jt,Jr,Ju,Zb,Jh,Zh,Zi,Zg,Zj,Jw,Jx,Zp,Jy,Jv,Jz,Z1,Z2,Zq,Ja,Z0,Z3,Ji,Jj,Zk,J6,J7,Jk,Z4,Z5,Zr,Jc,Jd,Jb]
 | sd i=>
  have t:Qa [.tup [.str "send",.int i]] S=.ok (.bl true) S:=V0 "send" [i] (by simp) S;have a0:atI [PV.str "send",.int i] 0=some (.str "send"):=rfl;unfold Dx.V;simp -implicitDefEqProofs [Y5,Qd,Vj,qq,t,a0,J8,Zm,Jn,Jp,Jm,Jq,J9,Zn,Js,Jt,Jr,Ju,Zb,Jh,Zh,Zi,Zg,Zj,Jw,Jx,Zp,Jy,Jv,Jz,Z1,Z2,Zq,Ja,Z0,Z3,Ji,Jj,Zk,J6,J7,Jk,Z4,Z5,Zr,Jc,Jd,Jb]
 | cm l i=>
  have t:Qa [.tup [.str "come",.int l,.int i]] S=.ok (.bl true) S:=V0 "come" [l,i] (by simp) S;have a0:atI [PV.str "come",.int l,.int i] 0=some (.str "come"):=rfl;unfold Dx.V;simp -implicitDefEqProofs [Y5,Qd,Vj,qq,t,a0,J8,Zm,Jn,Jp,Jm,Jq,J9,Zn,Js,Jt,Jr,Ju,Zb,Jh,Zh,Zi,Zg,Zj,Jw,Jx,Zp,Jy,Jv,Jz,Z1,Z2,Zq,Ja,Z0,Z3,Ji,Jj,Zk,J6,J7,Jk,Z4,Z5,Zr,Jc,Jd,Jb]
theorem Q02 {i:Nat} {tb:Tab} (hn:tb.length=n) (hi:i < n) (S:Q0):Z7 [Q3 tb,.int i] S=.ok (.bl true) S:=by
 have:=qz (V:=Q3 tb) (n:=n) (st:=S) (by simp [Q3,hn]) (i:Int);rw [show (decide ((0:Int)<=(i:Int)) && decide ((i:Int) < (n:Int)))=true by simp; omega] at this;exact this
theorem Qcj {tb:Tab} (hn:tb.length=n) {x:Dx} (o:x.ok n s) (hL:S[Lr]?=some (.lst (s.le.map Q3))):Qt [Q3 tb,.ref Lr,x.V] S=.ok .non S:=by
 have ll:Y1 S [.ref Lr]=.ok (.int s.le.length) S:=by
  have hV:ListAt S (.ref Lr) (s.le.map Q3):=.inr (.inr ⟨Lr,rfl,hL⟩);rw [hV.len,O2]
 have e2:=Qap x S;cases x with
 | own d=>
  have e1:=Q60 o S;have e3:=Qay hn o S;clear e2;show Qt [Q3 tb,.ref Lr,d.V] S=_;generalize Q3 tb=T at *;generalize d.V=V at *;simp -implicitDefEqProofs [Qt,Qd,Zs,e1,e3]
 | kp i=>
  have e1:=Q2b (x:=.kp i) rfl S;have e3:=Q02 hn o S;have a0:atI [PV.str "keep",.int i] 0=some (.str "keep"):=rfl;have a1:atI [PV.str "keep",.int i] (-1)=some (.int i):=rfl;unfold Dx.V Dx.oth at *;generalize Q3 tb=T at *;simp -implicitDefEqProofs [Qt,Qd,Zs,e1,e2,e3,a0,a1,J8,Zm,Jn,Jp,Jm,Jq,J9,Zn,Js,Jt,Jr,Ju,Zb,Jh,Zh,Zi,Zg,Zj,Jw,Jx,Zp,Jy,Jv,Jz,Z1,Z2,Zq,Ja,Z0,Z3,Ji,Jj,Zk,J6,J7,Jk,Z4,Z5,Zr,Jc,Jd,Jb]
 | fl i=>
  have e1:=Q2b (x:=.fl i) rfl S;have e3:=Q02 hn o S;have a0:atI [PV.str "fall",.int i] 0=some (.str "fall"):=rfl;have a1:atI [PV.str "fall",.int i] (-1)=some (.int i):=rfl;unfold Dx.V Dx.oth at *;generalize Q3 tb=T at *;simp -implicitDefEqProofs [Qt,Qd,Zs,e1,e2,e3,a0,a1,J8,Zm,Jn,Jp,Jm,Jq,J9,Zn,Js,Jt,Jr,Ju,Zb,Jh,Zh,Zi,Zg,Zj,Jw,Jx,Zp,Jy,Jv,Jz,Z1,Z2,Zq,Ja,Z0,Z3,Ji,Jj,Zk,J6,J7,Jk,Z4,Z5,Zr,Jc,Jd,Jb]
 | sd i=>
  have e1:=Q2b (x:=.sd i) rfl S;have e3:=Q02 hn o S;have a0:atI [PV.str "send",.int i] 0=some (.str "send"):=rfl;have a1:atI [PV.str "send",.int i] (-1)=some (.int i):=rfl;unfold Dx.V Dx.oth at *;generalize Q3 tb=T at *;simp -implicitDefEqProofs [Qt,Qd,Zs,e1,e2,e3,a0,a1,J8,Zm,Jn,Jp,Jm,Jq,J9,Zn,Js,Jt,Jr,Ju,Zb,Jh,Zh,Zi,Zg,Zj,Jw,Jx,Zp,Jy,Jv,Jz,Z1,Z2,Zq,Ja,Z0,Z3,Ji,Jj,Zk,J6,J7,Jk,Z4,Z5,Zr,Jc,Jd,Jb]
 | cm l i=>
  have e1:=Q2b (x:=.cm l i) rfl S;have e3:=Q02 hn o.2 S;have a0:atI [PV.str "come",.int l,.int i] 0=some (.str "come"):=rfl;have a1:atI [PV.str "come",.int l,.int i] (-1)=some (.int i):=rfl;have a2:atI [PV.str "come",.int l,.int i] 1=some (.int l):=rfl;have hl:l < s.le.length:=o.1;unfold Dx.V Dx.oth at *;generalize Q3 tb=T at *;generalize s.le.length=nl at *;simp -implicitDefEqProofs [Qt,Qd,Zs,e1,e2,e3,a0,a1,a2,ll,hl,-Q9u,J8,Zm,Jn,Jp,Jm,Jq,J9,Zn,Js,Jt,Jr,Ju,Zb,Jh,Zh,Zi,Zg,Zj,Jw,Jx,Zp,Jy,Jv,Jz,Z1,Z2,Zq,Ja,Z0,Z3,Ji,Jj,Zk,J6,J7,Jk,Z4,Z5,Zr,Jc,Jd,Jb]
theorem Q05 {m:MS} {S':Q0} {Γ':Gam} (h:m (ps.map some ++ List.replicate (nl - ps.length) none) S=.nx Γ' S'):Zz m nl ps S=.ok .non S':=by unfold Zz; rw [h]
theorem Q2d {m:MS} {S':Q0} (h:m (ps.map some ++ List.replicate (nl - ps.length) none) S=.rt v S'):Zz m nl ps S=.ok v S':=by unfold Zz; rw [h]
theorem ze {m:MS} {S':Q0} (h:m (ps.map some ++ List.replicate (nl - ps.length) none) S=.rt v S'):Qd m nl ps S=fin S v S':=by unfold Qd; rw [h]
def hsV (B n:Nat):PV:=.lst ((List.range n).map fun i=>.ref (B + i))
structure HsAt (C:aA) (B n:Nat) (s:RS) (S:Q0):Prop where
 at_:∀ i,i < n->S[B + i]?=some (.obj C (hsF i (s.now.getD i []) (s.last.getD i [])))
theorem Qbc {B i:Nat} (hi:i < n) (S:Q0):oIx S (hsV B n) (.int i)=.ok (.ref (B + i)) S:=by
 have:oIx S (hsV B n) (.int i)=okO S (atI ((List.range n).map fun i=>PV.ref (B + i)) (i:Int)):=rfl
 rw [this,qa,Sm.atI_get (show (List.range n)[i]?=some i by rw [F5 hi])]; rfl
def Qnh (C:aA) (S:Q0) (i n:Nat) (now last:Tab) (d:Dd) (Γ:Gam):SR:=if d.fits now=true then .nx Γ (S.set i (.obj C (hsF d.h (d.put n now) last))) else .exc ⟨"Short",some ("had",.int (Q8 now d.h))⟩ S
theorem Q9k {i:Nat} {now last:Tab} {d:Dd} (h:m Γ S=Q3i C S i n now last d):Yj m Γ S=Qnh C S i n now last d Γ:=by
 rw [Q23,h];unfold Q3i Qnh
 split <;> rfl
theorem Qgt {i:Nat} {now last:Tab} {d:Dd} {m:MS} (h:m (ps.map some ++ List.replicate (nl - ps.length) none) S=Qnh C S i n now last d Γ):Zz m nl ps S=Q3i C S i n now last d:=by
 unfold Zz;rw [h];unfold Q3i Qnh
 by_cases q:d.fits now=true
 ·rw [bM q,bM q]
 ·rw [bN q,bN q]
theorem Qk4 {B:Nat} (A:HsAt C B n s S) (r:RI n s) {d:Dd} (o:d.ok n):Yk C [hsV B n,d.V] S=Q3i C S (B + d.h) n (s.now.getD d.h []) (s.last.getD d.h []) d:=by
 have hh:=Dd.ok_h o;have w:=r.wn d.h hh;have hS:=A.at_ d.h hh;have ix:=Qbc (B:=B) hh S;refine Qgt (Γ:=[some (hsV B n),some d.V,some (.ref (B + d.h))]) ?_;show ji C [some (hsV B n),some d.V,none] S=_;refine Qj (Γ1:=[some (hsV B n),some d.V,some (.ref (B + d.h))]) (Y4 (Qf rfl (Qf rfl rfl (Dd.a1 d S)) ix)) ?_;cases d with
 | mk h k=>
  refine Q9h (Y7 (Qf (Qf rfl rfl rfl) rfl (Q85 S _))) (Q9k ?_);exact (qx (i:=B + h) rfl hS (j4 (by decide +kernel) (by decide +kernel) (by decide +kernel) _ _ _) (ps:=[.int k]) (S1:=S) (Q4 (Qf rfl rfl rfl) rfl) rfl).trans (Qp0 hS w o)
 | ld h t k=>
  refine jm (Y7 (Qf (Qf rfl rfl rfl) rfl (Q0x S J9))) (Q9h (Y7 (Qf (Qf rfl rfl rfl) rfl (Q85 S _))) (Q9k ?_));exact (qx (i:=B + h) rfl hS (j4 (by decide +kernel) (by decide +kernel) (by decide +kernel) _ _ _) (ps:=[.int t,.int k]) (S1:=S) (Q4 (Qf rfl rfl rfl) (Q4 (Qf rfl rfl rfl) rfl)) rfl).trans (Qpb hS w o)
 | us h k=>
  refine jm (Y7 (Qf (Qf rfl rfl rfl) rfl (Q0x S Zb))) (jm (Y7 (Qf (Qf rfl rfl rfl) rfl (Q0x S Jh))) (Q9k ?_));exact (qx (i:=B + h) rfl hS (j4 (by decide +kernel) (by decide +kernel) (by decide +kernel) _ _ _) (ps:=[.int k]) (S1:=S) (Q4 (Qf rfl rfl rfl) rfl) rfl).trans (Qqy hS w o)
def Q0r (C:aA) (B Lr n:Nat) (s:RS) (S:Q0):Dx->Q0
 | .own d=>if d.fits (s.now.getD d.h [])=true then S.set (B + d.h) (.obj C (hsF d.h (d.put n (s.now.getD d.h [])) (s.last.getD d.h []))) else S
 | .kp i=>S.set (B + i) (.obj C (hsF i (s.now.getD i []) (s.now.getD i [])))
 | .fl i=>S.set (B + i) (.obj C (hsF i (s.last.getD i []) (s.last.getD i [])))
 | .sd i=>S.set Lr (.lst (s.le.map Q3 ++ [Q3 (s.last.getD i [])]))
 | .cm l i=>S.set (B + i) (.obj C (hsF i (W3 (s.now.getD i []) (s.le.getD l [])) (s.last.getD i [])))
theorem Q9y (h:S[L]?=some (.lst xs)) (hl:xs.length < 1000000) (y:PV):Wk S (.ref L) [y]=.ok .non (S.set L (.lst (xs ++ [y]))):=by
 simp only [Wk,chg,h];rw [bM (show xs.length < lim from hl)]
theorem Qd1 {B:Nat} (A:HsAt C B n s S) (hL:S[Lr]?=some (.lst (s.le.map Q3))) (hl:s.le.length < 100000) (r:RI n s) {x:Dx} (o:x.ok n s) (hx:x.oth=true):Wq C [hsV B n,.ref Lr,x.V] S=.ok .non (Q0r C B Lr n s S x):=by
 have hV:ListAt S (.ref Lr) (s.le.map Q3):=.inr (.inr ⟨Lr,rfl,hL⟩);cases x with
 | own d=>cases hx
 | kp i=>
  have hi:i < n:=o;have hS:=A.at_ i hi;have st:Ys C [some (hsV B n),some (.ref Lr),some (Dx.kp i).V,none] S=.nx [some (hsV B n),some (.ref Lr),some (Dx.kp i).V,some (.ref (B + i))] (Q0r C B Lr n s S (.kp i)):=
   Qj (Y4 (Qf rfl (Qf rfl rfl rfl) (Qbc hi S))) (Q9h (Y7 (Qf (Qf rfl rfl rfl) rfl (Q85 S _))) (Q03 ((qx (i:=B + i) rfl hS (j4 (by decide +kernel) (by decide +kernel) (by decide +kernel) _ _ _) (ps:=[]) (S1:=S) rfl rfl).trans (Qpj hS))))
  exact Q05 st
 | fl i=>
  have hi:i < n:=o;have hS:=A.at_ i hi;have st:Ys C [some (hsV B n),some (.ref Lr),some (Dx.fl i).V,none] S=.nx [some (hsV B n),some (.ref Lr),some (Dx.fl i).V,some (.ref (B + i))] (Q0r C B Lr n s S (.fl i)):=
   Qj (Y4 (Qf rfl (Qf rfl rfl rfl) (Qbc hi S))) (jm (Y7 (Qf (Qf rfl rfl rfl) rfl (Q0x S Ja))) (Q9h (Y7 (Qf (Qf rfl rfl rfl) rfl (Q85 S _))) (Q03 ((qx (i:=B + i) rfl hS (j4 (by decide +kernel) (by decide +kernel) (by decide +kernel) _ _ _) (ps:=[]) (S1:=S) rfl rfl).trans (Qpw hS)))))
  exact Q05 st
 | sd i=>
  have hi:i < n:=o;have hS:=A.at_ i hi;have lt:jw C "letter" 1 (Yq C) (Q2 3) Q6 [some (hsV B n),some (.ref Lr),some (Dx.sd i).V,some (.ref (B + i))] S=.ok (Q3 (s.last.getD i [])) S:=(qx (i:=B + i) rfl hS (j4 (by decide +kernel) (by decide +kernel) (by decide +kernel) _ _ _) (ps:=[]) (S1:=S) rfl rfl).trans (Qg2 hS);have st:Ys C [some (hsV B n),some (.ref Lr),some (Dx.sd i).V,none] S=.nx [some (hsV B n),some (.ref Lr),some (Dx.sd i).V,some (.ref (B + i))] (Q0r C B Lr n s S (.sd i)):=
   Qj (Y4 (Qf rfl (Qf rfl rfl rfl) (Qbc hi S))) (jm (Y7 (Qf (Qf rfl rfl rfl) rfl (Q0x S J6))) (jm (Y7 (Qf (Qf rfl rfl rfl) rfl (Q0x S J7))) (Q9h (Y7 (Qf (Qf rfl rfl rfl) rfl (Q85 S _)))
    (Q9x (p:=.ref Lr) rfl (Q7t hL) (Q4 lt rfl) (Q9y hL (by rw [O2]; omega) _)))))
  exact Q05 st
 | cm l i=>
  obtain ⟨hl0,hi⟩:=o;have hS:=A.at_ i hi;have hm:s.le.getD l []∈s.le:=E4 (getD_some hl0 []);have lx:oIx S (.ref Lr) (.int l)=.ok (Q3 (s.le.getD l [])) S:=by
   rw [hV.ix,qa,Sm.atI_get (getD_some hl0 [])]; rfl
  have st:Ys C [some (hsV B n),some (.ref Lr),some (Dx.cm l i).V,none] S=.nx [some (hsV B n),some (.ref Lr),some (Dx.cm l i).V,some (.ref (B + i))] (Q0r C B Lr n s S (.cm l i)):=
   Qj (Y4 (Qf rfl (Qf rfl rfl rfl) (Qbc hi S))) (jm (Y7 (Qf (Qf rfl rfl rfl) rfl (Q0x S Jc))) (jm (Y7 (Qf (Qf rfl rfl rfl) rfl (Q0x S Jd))) (jm (Y7 (Qf (Qf rfl rfl rfl) rfl (Q0x S Jb)))
    (Q03 ((qx (i:=B + i) rfl hS (j4 (by decide +kernel) (by decide +kernel) (by decide +kernel) _ _ _) (ps:=[Q3 (s.le.getD l [])]) (S1:=S) (Q4 (Qf rfl (Qf rfl rfl rfl) lx) rfl) rfl).trans (Qq0 hS (r.wn i hi) (r.we _ hm) hi (r.row hm hi)))))))
  exact Q05 st
theorem Qh1 {B:Nat} (A:HsAt C B n s S) (hL:S[Lr]?=some (.lst (s.le.map Q3))) (hl:s.le.length < 100000) (r:RI n s) {x:Dx} (o:x.ok n s):j7 C [hsV B n,.ref Lr,x.V] S=.ok (Q77 s x) (Q0r C B Lr n s S x):=by
 have e1:(toB (Qb 1 Qn (Q1 (Q2 2) Q6))) [some (hsV B n),some (.ref Lr),some x.V,none] S=.ok x.oth S:=Y7 (Qr (n:=1) (Q4 rfl rfl) rfl (Qap x S));cases hx:x.oth with
 | true=>
  rw [hx] at e1;have st:K1 C [some (hsV B n),some (.ref Lr),some x.V,none] S=.rt (.str "done") (Q0r C B Lr n s S x):=Qht (Q9h e1 (Qj (Q03 (Qr (n:=3) (Q4 rfl (Q4 rfl (Q4 rfl rfl))) rfl (Qd1 A hL hl r o hx))) rfl));refine (Q2d st).trans ?_;cases x with
  | own d=>cases hx
  | _=>rfl
 | false=>
  rw [hx] at e1;cases x with
  | own d=>
   have e2:=Qk4 A r (d:=d) o;have e3:Qb0 "Short" "had" 3 2 (Yk C) (Q1 (Q2 0) (Q1 (Q2 2) Q6)) [some (hsV B n),some (.ref Lr),some d.V,none] S=(match Yk C [hsV B n,d.V] S with
    | .ok _ st2=>SR.nx [some (hsV B n),some (.ref Lr),some d.V,none] st2
    | .exc x st2=>if x.cls = "Short" then (match x.fs with | some (f,.int z)=>if f = "had" then .rt (.int z) st2 else .stuck | _=>.stuck) else .stuck
    | .stuck=>.stuck):=by
    rw [Qjh,Q4 (m:=Q2 0) (p:=hsV B n) (S1:=S) rfl (Q4 (m:=Q2 2) (p:=d.V) (S1:=S) rfl (show Q6 _ S=.ok [] S from rfl)),Wh];exact bM ⟨rfl,show 3 < 4 by decide⟩
   rw [e2] at e3;unfold Q3i at e3
   by_cases q:d.fits (s.now.getD d.h [])=true
   ·rw [bM q] at e3;have st:K1 C [some (hsV B n),some (.ref Lr),some (Dx.own d).V,none] S=.rt (.str "done") (S.set (B + d.h) (.obj C (hsF d.h (d.put n (s.now.getD d.h [])) (s.last.getD d.h [])))):=Qj (jm e1 rfl) (Qj e3 rfl);refine (Q2d st).trans ?_;unfold Q0r Q77;simp only [bM q]
   ·rw [bN q] at e3;have e3:Qb0 "Short" "had" 3 2 (Yk C) (Q1 (Q2 0) (Q1 (Q2 2) Q6)) [some (hsV B n),some (.ref Lr),some d.V,none] S=.rt (.int (Q8 (s.now.getD d.h []) d.h)) S:=e3.trans (by simp);have st:K1 C [some (hsV B n),some (.ref Lr),some (Dx.own d).V,none] S=.rt (.int (Q8 (s.now.getD d.h []) d.h)) S:=Qj (jm e1 rfl) (Qht e3);refine (Q2d st).trans ?_;unfold Q0r Q77;simp only [bN q]
  | kp i=>cases hx
  | fl i=>cases hx
  | sd i=>cases hx
  | cm l i=>cases hx
theorem Qsu {B:Nat} (A:HsAt C B n s S) (hL:S[Lr]?=some (.lst (s.le.map Q3))) (hLr:B + n<=Lr) (r:RI n s) {x:Dx} (o:x.ok n s):HsAt C B n (Y8 n s x) (Q0r C B Lr n s S x)/\(Q0r C B Lr n s S x)[Lr]?=some (.lst ((Y8 n s x).le.map Q3))/\(∀ t,(t < B\/Lr < t)->(Q0r C B Lr n s S x)[t]?=S[t]?)/\(Q0r C B Lr n s S x).length=S.length:=by
 have key:∀ (h:Nat) (a b:Tab),h < n->∀ s':RS,s'.le=s.le->(∀ i,i < n->s'.now.getD i []=if i=h then a else s.now.getD i [])->(∀ i,i < n->s'.last.getD i []=if i=h then b else s.last.getD i []) ->
   HsAt C B n s' (S.set (B + h) (.obj C (hsF h a b)))/\(S.set (B + h) (.obj C (hsF h a b)))[Lr]?=some (.lst (s'.le.map Q3))/\(∀ t,(t < B\/Lr < t)->(S.set (B + h) (.obj C (hsF h a b)))[t]?=S[t]?)/\(S.set (B + h) (.obj C (hsF h a b))).length=S.length:=by
  intro h a b hh s' e1 e2 e3;have hB:=(O1.mp (A.at_ h hh)).1;refine ⟨⟨fun i hi=>?_⟩,?_,fun t ht=>?_,F2⟩
  ·by_cases q:i=h
   ·subst q;rw [D7 hB,e2 i hi,e3 i hi,bM rfl,bM rfl]
   ·rw [D5 (by omega),A.at_ i hi,e2 i hi,e3 i hi,bN q,bN q]
  ·rw [D5 (by omega),hL,e1]
  ·rw [D5 (by omega)]
 cases x with
 | own d=>
  have hh:=Dd.ok_h o
  by_cases q:d.fits (s.now.getD d.h [])=true
  ·have z1:Q0r C B Lr n s S (.own d)=S.set (B + d.h) (.obj C (hsF d.h (d.put n (s.now.getD d.h [])) (s.last.getD d.h []))):=bM q;have z2:Y8 n s (.own d)=⟨s.now.set d.h (d.put n (s.now.getD d.h [])),s.last,s.le⟩:=bM q;rw [z1,z2];refine key d.h _ _ hh _ rfl (fun i hi=>?_) (fun i hi=>?_)
   ·exact Qy (by rw [r.ln]; exact hh) _ _ _
   ·split
    ·rename_i z; rw [z]
    ·rfl
  ·have z1:Q0r C B Lr n s S (.own d)=S:=bN q;have z2:Y8 n s (.own d)=s:=bN q;rw [z1,z2];exact ⟨A,hL,fun _ _=>rfl,rfl⟩
 | kp h=>
  have hh:h < n:=o;refine key h _ _ hh _ rfl (fun i hi=>?_) (fun i hi=>?_)
  ·split
   ·rename_i z; rw [z]; rfl
   ·rfl
  ·exact Qy (by rw [r.ll]; exact hh) _ _ _
 | fl h=>
  have hh:h < n:=o;refine key h _ _ hh _ rfl (fun i hi=>?_) (fun i hi=>?_)
  ·exact Qy (by rw [r.ln]; exact hh) _ _ _
  ·split
   ·rename_i z; rw [z]; rfl
   ·rfl
 | sd h=>
  have hh:h < n:=o;have hB:=(O1.mp hL).1;refine ⟨⟨fun i hi=>?_⟩,?_,fun t ht=>?_,F2⟩
  ·show (S.set Lr _)[B + i]?=_;rw [D5 (by omega)];exact A.at_ i hi
  ·show (S.set Lr _)[Lr]?=some (.lst ((s.le ++ [s.last.getD h []]).map Q3));rw [D7 hB,G6]; rfl
  ·show (S.set Lr _)[t]?=_;rw [D5 (by omega)]
 | cm l h=>
  obtain ⟨hl0,hh⟩:=o;refine key h _ _ hh _ rfl (fun i hi=>?_) (fun i hi=>?_)
  ·exact Qy (by rw [r.ln]; exact hh) _ _ _
  ·split
   ·rename_i z; rw [z]; rfl
   ·rfl
def K9 (n:Nat):RS->List Dx->RS
 | s,[]=>s
 | s,x :: xs=>K9 n (Y8 n s x) xs
def Q0v (n:Nat):RS->List Dx->List PV
 | _,[]=>[]
 | s,x :: xs=>Q77 s x :: Q0v n (Y8 n s x) xs
def OkL (n:Nat):RS->List Dx->Prop
 | _,[]=>True
 | s,x :: xs=>x.ok n s/\OkL n (Y8 n s x) xs
theorem Q8u (n:Nat):∀ (xs ys:List Dx) (s:RS),K9 n s (xs ++ ys)=K9 n (K9 n s xs) ys
 | [],_,_=>rfl
 | x :: xs,ys,s=>Q8u n xs ys (Y8 n s x)
theorem Qa1 (n:Nat):∀ (xs ys:List Dx) (s:RS),Q0v n s (xs ++ ys)=Q0v n s xs ++ Q0v n (K9 n s xs) ys
 | [],_,_=>rfl
 | x :: xs,ys,s=>congrArg (Q77 s x :: ·) (Qa1 n xs ys (Y8 n s x))
theorem Q8z (n:Nat):∀ (xs ys:List Dx) (s:RS),OkL n s (xs ++ ys) <-> OkL n s xs/\OkL n (K9 n s xs) ys
 | [],_,_=>⟨fun h=>⟨trivial,h⟩,fun h=>h.2⟩
 | x :: xs,ys,s=>by
  have ih:=Q8z n xs ys (Y8 n s x);exact ⟨fun h=>⟨⟨h.1,(ih.mp h.2).1⟩,(ih.mp h.2).2⟩,fun h=>⟨h.1.1,ih.mpr ⟨h.1.2,h.2⟩⟩⟩
theorem RI.run :∀ {xs:List Dx} {s:RS},RI n s->OkL n s xs->RI n (K9 n s xs)
 | [],_,r,_=>r
 | x :: xs,s,r,o=>RI.run (xs:=xs) (r.step o.1) o.2
theorem Qpc (n:Nat) (s:RS) (x:Dx):(Y8 n s x).le.length<=s.le.length + 1:=by
 cases x with
 | own d=>
  show (if d.fits (s.now.getD d.h [])=true then (⟨s.now.set d.h (d.put n (s.now.getD d.h [])),s.last,s.le⟩:RS) else s).le.length<=_
  split <;> simp
 | sd i=>simp [Y8]
 | _=>simp [Y8]
theorem Qjm (n:Nat):∀ (xs:List Dx) (s:RS),(K9 n s xs).le.length<=s.le.length + xs.length
 | [],s=>O4 _
 | x :: xs,s=>by
  have h1:=Qjm n xs (Y8 n s x);have h2:=Qpc n s x;simp only [K9,D2];omega
theorem Qa0 (n:Nat):∀ (xs:List Dx) (s:RS),(Q0v n s xs).length=xs.length
 | [],_=>rfl
 | x :: xs,s=>by simp only [Q0v,D2,Qa0 n xs]
def s0 (n:Nat) (tb:Tab):RS:=⟨List.replicate n tb,List.replicate n tb,[]⟩
theorem Q4z {i:Nat} {tb:Tab} (hi:i < n):(List.replicate n tb).getD i []=tb:=by
 rw [D9,F8,bM hi]; rfl
theorem RI.start {tb:Tab} (w:Wt' n tb):RI n (s0 n tb):=by
 have e:∀ i,i < n->(List.replicate n tb).getD i []=tb:=fun i hi=>Q4z hi
 refine ⟨L7,L7,fun i hi=>?_,fun i hi=>?_,fun L hL=>absurd hL List.not_mem_nil,fun i j hi hj=>?_,fun a i j ha hi hne hj=>?_,fun a i j ha hi hj=>?_,fun L hL=>absurd hL List.not_mem_nil⟩
 ·show Wt' n ((List.replicate n tb).getD i []); rw [e i hi]; exact w
 ·show Wt' n ((List.replicate n tb).getD i []); rw [e i hi]; exact w
 ·exact Int.le_refl _
 ·show ent ((List.replicate n tb).getD a []) i j<=ent ((List.replicate n tb).getD i []) i j; rw [e i hi,e a ha]; exact Int.le_refl _
 ·show ent ((List.replicate n tb).getD a []) i j<=ent ((List.replicate n tb).getD i []) i j; rw [e i hi,e a ha]; exact Int.le_refl _
theorem Qpm {tb:Tab} (w:Wt' n tb) (c:Ca n tb) {h:Nat} (hh:h < n) (S:Q0):Y6 C [.ref S.length,.int h,Q3 tb] (S ++ [.obj C []])=.ok .non (S ++ [.obj C (hsF h tb tb)]):=by
 have e1:=jg w c (S ++ [.obj C []]);have e2:=Q02 w.len hh (S ++ [.obj C []]);have gt:∀ fs:List (Str × PV),(S ++ [Cell.obj C fs])[S.length]?=some (.obj C fs):=fun fs=>by simp
 have st:∀ fs gs:List (Str × PV),(S ++ [Cell.obj C fs]).set S.length (.obj C gs)=S ++ [.obj C gs]:=fun fs gs=>by simp
 have p1:ju "number" (.int h) []=[(Str.ofString "number",PV.int h)]:=rfl;have p2:ju "now" (Q3 tb) [(Str.ofString "number",PV.int h)]=[(Str.ofString "number",.int h),(Str.ofString "now",Q3 tb)]:=by
  rw [ju,bN s1']; rfl
 have p3:ju "kept" (Q3 tb) [(Str.ofString "number",PV.int h),(Str.ofString "now",Q3 tb)]=hsF h tb tb:=by
  rw [ju,bN s2',ju,bN s3']; rfl
 have k3:Xk C [some (.ref S.length),some (.int h),some (Q3 tb)] (S ++ [.obj C []])=.nx [some (.ref S.length),some (.int h),some (Q3 tb)] (S ++ [.obj C (hsF h tb tb)]):=by
  refine Qj (Q03 (Qr (n:=1) (Q4 rfl rfl) rfl e1)) (Qj (jm (Qch (Y7 (Qr (n:=2) (Q4 rfl (Q4 rfl rfl)) rfl e2))) rfl) ?_);refine Qj ((Kk (p:=.int h) rfl rfl (gt _) (by simp)).trans (by rw [p1,st])) ?_;refine Qj ((Kk (p:=Q3 tb) rfl rfl (gt _) (by simp)).trans (by rw [p2,st])) ?_;exact (Kk (p:=Q3 tb) rfl rfl (gt _) (by simp)).trans (by rw [p3,st])
 exact Q05 k3
theorem Qtd {tb:Tab} (w:Wt' n tb) (c:Ca n tb) {h:Nat} (hh:h < n) (S:Q0):qt C [some (.int h),some (Q3 tb)] S=.ok (.ref S.length) (S ++ [.obj C (hsF h tb tb)]):=by
 have ha:(Q1 (Q2 0) (Q1 (Q2 1) Q6)) [some (.int h),some (Q3 tb)] S=.ok [.int h,Q3 tb] S:=Q4 rfl (Q4 rfl rfl);show ((Y6 C [PV.ref S.length,PV.int h,Q3 tb] (S ++ [Cell.obj C []])).bind _)=_;rw [Qpm w c hh S]; rfl
def h0 (C:aA) (n:Nat) (tb:Tab):Q0:=(List.range n).map fun i=>.obj C (hsF i tb tb)
theorem Qjq {tb:Tab} (w:Wt' n tb) (c:Ca n tb) (S:Q0) (Γ:Gam) (hΓ:Γ[0]?=some (some (Q3 tb))):J4 (Qc 0) Zd (qt C) [] (J1 [none,some 0] Γ) (Zu 0 n) S=.ok ((List.range n).map fun i=>.ref (S.length + i)) (S ++ h0 C n tb):=by
 have hc:J1 [none,some 0] Γ=[none,some (Q3 tb)]:=by
  simp [J1,hΓ]
 obtain ⟨out,S',e,e1,e2⟩:=Qgi (g:=fun k:Nat=>PV.int (k:Int)) (xs:=List.range n) (ga:=Qc 0) (me:=qt C) (w:=[]) (Γ0:=[none,some (Q3 tb)]) (st:=S)
  (fun i out st=>out=((List.range i).map fun i=>PV.ref (S.length + i))/\st=S ++ h0 C i tb) (fun _ _ _ _=>by simp)
  (fun i x out st hx ⟨e1,e2⟩=>by
   subst e1; subst e2;have hin:i < n:=by simpa using (O1.mp hx).1
   rw [F5 hin] at hx;cases hx;refine ⟨_,rfl,_,_,Qtd w c hin _,?_,?_⟩
   ·rw [List.range_succ,G6,D0];simp [h0]
   ·rw [h0,h0,List.range_succ,G6,L5]; rfl)
  ⟨rfl,by simp [h0]⟩
 rw [F4] at e1 e2;rw [hc,V4,e,e1,e2]
theorem Qcn {β:Type} (l:List α) (d:α) (f:α->β):l.map f=(List.range l.length).map fun i=>f (l.getD i d):=by
 refine List.ext_getElem? fun i=>?_
 rw [E3,E3]
 by_cases h:i < l.length
 ·rw [F5 h,O3 h];simp [List.getD,O3 h]
 ·rw [E9 (by omega),E9 (by rw [F4]; omega)]; rfl
theorem Qtx (C:aA) (n:Nat) (tb:Tab):(h0 C n tb).length=n:=by simp [h0]
theorem Qx5 (C:aA) {i:Nat} (tb:Tab) (hi:i < n):(h0 C n tb)[i]?=some (.obj C (hsF i tb tb)):=by
 simp [h0,F5 hi]
abbrev plG (tb:Tab) (DV:PV) (B n:Nat) (d:Option PV):Gam:=[some (Q3 tb),some DV,some (hsV B n),some (.ref (B + n)),some (.ref (B + n + 1)),d]
structure PI (C:aA) (n:Nat) (tb:Tab) (S:Q0) (pre:List Dx) (st:Q0):Prop where
 hs:HsAt C S.length n (K9 n (s0 n tb) pre) st
 le:st[S.length + n]?=some (.lst ((K9 n (s0 n tb) pre).le.map Q3))
 an:st[S.length + n + 1]?=some (.lst (Q0v n (s0 n tb) pre))
 old:∀ t,t < S.length->st[t]?=S[t]?
 len:st.length=S.length + n + 2
theorem Qr2 {tb:Tab} (w:Wt' n tb) {pre:List Dx} {x:Dx} {post:List Dx} (hl:(pre ++ x :: post).length<=1000) (ok:OkL n (s0 n tb) (pre ++ x :: post)) (P:PI C n tb S pre st) (DV:PV):∃ st2,yw C (plG tb DV S.length n (some x.V)) st=.nx (plG tb DV S.length n (some x.V)) st2/\PI C n tb S (pre ++ [x]) st2:=by
 have o1:=(Q8z n pre (x :: post) _).mp ok;have r:RI n (K9 n (s0 n tb) pre):=(RI.start w).run o1.1;have ox:=o1.2.1;have hlen:pre.length<=1000:=by rw [D0] at hl; omega
 have hle:=Qjm n pre (s0 n tb);have hle':(K9 n (s0 n tb) pre).le.length < 100000:=by
  have:(s0 n tb).le.length=0:=rfl;omega
 have e1:=Qcj w.len ox P.le;have e2:=Qh1 P.hs P.le hle' r ox;obtain ⟨a1,a2,a3,a4⟩:=Qsu P.hs P.le (O4 _) r ox;obtain ⟨st1,hst1⟩:∃ z,Q0r C S.length (S.length + n) n (K9 n (s0 n tb) pre) st x=z:=⟨_,rfl⟩;rw [hst1] at e2 a1 a2 a3 a4;have an1:st1[S.length + n + 1]?=some (.lst (Q0v n (s0 n tb) pre)):=by rw [a3 _ (.inr (by omega))]; exact P.an
 have hb:=(O1.mp an1).1;have ap:=Q9y an1 (by rw [Qa0]; omega) (Q77 (K9 n (s0 n tb) pre) x);refine ⟨_,Qj (Q03 (Qr (n:=3) (Q4 rfl (Q4 rfl (Q4 rfl rfl))) rfl e1)) (Q9x (p:=.ref (S.length + n + 1)) rfl (Q7t P.an) (Q4 (Qr (n:=3) (Q4 rfl (Q4 rfl (Q4 rfl rfl))) rfl e2) rfl) ap),?_⟩;have er:K9 n (s0 n tb) (pre ++ [x])=Y8 n (K9 n (s0 n tb) pre) x:=by rw [Q8u]; rfl
 have ea:Q0v n (s0 n tb) (pre ++ [x])=Q0v n (s0 n tb) pre ++ [Q77 (K9 n (s0 n tb) pre) x]:=by rw [Qa1]; rfl
 refine ⟨⟨fun i hi=>?_⟩,?_,?_,fun t ht=>?_,?_⟩
 ·rw [er,D5 (by omega)]; exact a1.at_ i hi
 ·rw [er,D5 (by omega)]; exact a2
 ·rw [ea,D7 hb]
 ·rw [D5 (by omega),a3 t (.inl ht)]; exact P.old t ht
 ·rw [F2,a4]; exact P.len
theorem Qfg {C:aA} {tb:Tab} (w:Wt' n tb) (c:Ca n tb) {DV:PV} {xs:List Dx} {wt:Wt} (hs:∀ st:Q0,(∀ t,t < S.length->st[t]?=S[t]?)->U1 st DV=some (xs.map Dx.V,wt)/\wOk wt st) (hl:xs.length<=1000) (ok:OkL n (s0 n tb) xs) :
  ∃ S',Q07 C [Q3 tb,DV] S=.ok (.tup [.ref (S.length + n + 1),.ref (S.length + n + 2)]) S'/\S'.length=S.length + n + 3/\(∀ t,t < S.length->S'[t]?=S[t]?)/\S'[S.length + n + 1]?=some (.lst (Q0v n (s0 n tb) xs))/\S'[S.length + n + 2]?=some (.lst ((K9 n (s0 n tb) xs).now.map Q3)):=by
 have h8:=w.n8;have lim0:lim=1000000:=rfl;have e1:=jg w c S;have eh:=Qjq (C:=C) w c S [some (Q3 tb),some DV,none,none,none,none] rfl;have hlen:Y1 S [Q3 tb]=.ok (.int n) S:=by simp [Q3,w.len]
 have hrg:Yi (Q1 (Qq Y1 (Q1 (Q2 0) Q6)) Q6) [some (Q3 tb),some DV,none,none,none,none] S=.ok (Zu 0 n,[]) S:=by
  rw [qk,Q4 (Q06 (Q4 (m:=Q2 0) (p:=Q3 tb) (S1:=S) rfl (show Q6 _ S=.ok [] S from rfl)) hlen) (show Q6 _ S=.ok [] S from rfl),J2];show (if -(lim:Int)<=(n:Int)/\(n:Int)<=lim then _ else _)=_;rw [bM (by rw [lim0]; omega),Int.toNat_natCast]
 obtain ⟨S1,hS1⟩:∃ S1,S ++ h0 C n tb=S1:=⟨_,rfl⟩;rw [hS1] at eh;have l1:S1.length=S.length + n:=by rw [<- hS1,D0,Qtx]
 obtain ⟨S2,hS2⟩:∃ S2,S1 ++ [Cell.lst []] ++ [Cell.lst []]=S2:=⟨_,rfl⟩;have l2:S2.length=S.length + n + 2:=by rw [<- hS2,D0,D0,l1]; rfl
 have P0:PI C n tb S [] S2:=by
  refine ⟨⟨fun i hi=>?_⟩,?_,?_,fun t ht=>?_,l2⟩
  ·rw [<- hS2,L5,O9 (by omega),<- hS1,E2 (by omega),Nat.add_sub_cancel_left,Qx5 C tb hi];show _=some (Cell.obj C (hsF i ((List.replicate n tb).getD i []) ((List.replicate n tb).getD i [])));rw [Q4z hi]
  ·rw [<- hS2,L5,E2 (by omega),show S.length + n - S1.length=0 by omega]; rfl
  ·rw [<- hS2,L5,E2 (by omega),show S.length + n + 1 - S1.length=1 by omega]; rfl
  ·rw [<- hS2,L5,O9 (by omega),<- hS1,O9 ht]
 obtain ⟨hsrc,_⟩:=hs S2 P0.old;obtain ⟨Γ',S3,ef,⟨d',rfl⟩,P⟩:=Q35 (g:=Dx.V) (xs:=xs) (fun pre Γ st=>(∃ d,Γ=plG tb DV S.length n d)/\PI C n tb S pre st) (ga:=Qc 5) (body:=yw C) (w:=wt)
  (fun pre Γ st ⟨_,P⟩=>(hs st P.old).2)
  (fun pre x post Γ st hx ⟨⟨d,hΓ⟩,P⟩=>by
   subst hΓ;obtain ⟨st2,e,P2⟩:=Qr2 w (by rw [<- hx]; exact hl) (by rw [<- hx]; exact ok) P DV;exact ⟨_,rfl,_,_,e,⟨_,rfl⟩,P2⟩)
  (Γ:=plG tb DV S.length n none) (st:=S2) ⟨⟨_,rfl⟩,P0⟩
 have r:=(RI.start w).run ok;obtain ⟨s,hss⟩:∃ s,K9 n (s0 n tb) xs=s:=⟨_,rfl⟩;rw [hss] at r ⊢;have Phs:=P.hs;rw [hss] at Phs;have et:J4 (Qc 0) Zd (Q1g C) [] (J1 [none] (plG tb DV S.length n d')) ((List.range n).map fun i=>PV.ref (S.length + i)) S3=.ok ((List.range n).map fun i=>Q3 (s.now.getD i [])) S3:=by
  refine Yh _ _ (by simp) fun i hi=>⟨_,rfl,?_⟩
  have hi:i < n:=D4.mp hi;have hS:=Phs.at_ i hi;exact (qx (i:=S.length + i) rfl hS (j4 (by decide +kernel) (by decide +kernel) (by decide +kernel) _ _ _) (ps:=[]) (S1:=S3) rfl rfl).trans (Qhg hS)
 have em:(List.range n).map (fun i=>Q3 (s.now.getD i []))=s.now.map Q3:=by
  have:=Qcn s.now [] Q3;rw [this,r.ln]
 rw [em] at et;have l3:=P.len;have k:Q5p C [some (Q3 tb),some DV,none,none,none,none] S=.rt (.tup [.ref (S.length + n + 1),.ref (S.length + n + 2)]) (S3 ++ [.lst (s.now.map Q3)]):=by
  refine Qj (Q03 (Qr (n:=1) (Q4 rfl rfl) rfl e1)) ?_;refine Qj (Γ1:=[some (Q3 tb),some DV,some (hsV S.length n),none,none,none]) (Y4 (Q4g (Q0p hrg eh))) ?_;refine Qj (Γ1:=[some (Q3 tb),some DV,some (hsV S.length n),some (.ref (S.length + n)),none,none]) (S1:=S1 ++ [.lst []]) ((Y4 (Q8g (ps:=[]) (S1:=S1) rfl)).trans (by rw [l1]; rfl)) ?_;refine Qj (Γ1:=plG tb DV S.length n none) (S1:=S2) ((Y4 (Q8g (ps:=[]) (S1:=S1 ++ [.lst []]) rfl)).trans (by rw [D0,l1,hS2]; rfl)) ?_;refine Qj (Q1f (Q7c (p:=DV) rfl hsrc (by rw [O2]; omega)) ef) ?_;have a:Kc (Q2 2) (plG tb DV S.length n d') S3=.ok ((List.range n).map fun i=>PV.ref (S.length + i),[]) S3:=Q7c (p:=hsV S.length n) rfl rfl (by rw [O2,F4]; omega)
  rw [Q20,xh (Q4 (m:=Q2 4) (p:=.ref (S.length + n + 1)) rfl (Q4 (Q8g (Q0p a et)) rfl)) (by simp),Wh,l3]
 refine ⟨_,Q2d k,by rw [D0,l3]; rfl,fun t ht=>?_,?_,?_⟩
 ·rw [O9 (by omega)]; exact P.old t ht
 ·rw [O9 (by omega)]; exact P.an
 ·rw [E2 (by omega),show S.length + n + 2 - S3.length=0 by omega]; rfl
theorem Qtz {st':Q0} (h:st'.length=st.length) (d:Int):fin st (.int d) st'=.ok (.int d) st':=by
 unfold fin
 by_cases q:st <+: st'
 ·rw [bM q];have:st=st':=q.eq_of_length h.symm;rw [<- this,fz]; rfl
 ·rw [bN q]
structure Mv (L:Nat) (S S':Q0):Prop where
 len:S'.length=S.length
 keep:∀ t,t≠L->S'[t]?=S[t]?
theorem Mv.refl (L:Nat) (S:Q0):Mv L S S:=⟨rfl,fun _ _=>rfl⟩
theorem Mv.trans (a:Mv L S S1) (b:Mv L S1 S2):Mv L S S2:=⟨b.len.trans a.len,fun t ht=>(b.keep t ht).trans (a.keep t ht)⟩
theorem Qgd {st':Q0} (h:st'.length=st.length) (g:Z6 12 v=true):fin st v st'=.ok v st':=by
 unfold fin
 by_cases q:st <+: st'
 ·rw [bM q];have:st=st':=q.eq_of_length h.symm;rw [<- this,Q29 g (by decide)]; rfl
 ·rw [bN q]
def Tp (S:Q0) (L:Nat):Prop:=∃ c:Int,S[L]?=some (.lst [.int c])
theorem Qh2 (T:Tp S L) (m:Nat) (h1:1<=m) (hm:m < 2 ^ 8000):∃ (d:Nat) (S':Q0),d < m/\Tp S' L/\Mv L S S'/\Qg [.ref L,.int m] S=.ok (.int d) S':=by
 obtain ⟨c,hS⟩:=T;have hL:=(O1.mp hS).1;have hV:ListAt S (.ref L) [.int c]:=.inr (.inr ⟨L,rfl,hS⟩);have i0:oIx S (.ref L) (.int 0)=.ok (.int c) S:=by rw [hV.ix]; rfl
 obtain ⟨d,hd,ed⟩:=Qzp c h1;have t0:Q1k S (.ref L) (.int 0) (.int (c / (m:Int)))=some (S.set L (.lst [.int (c / (m:Int))])):=by
  unfold Q1k;simp only [hS];rfl
 obtain ⟨S1,hS1⟩:∃ S1,S.set L (.lst [.int (c / (m:Int))])=S1:=⟨_,rfl⟩;rw [hS1] at t0;have M:Mv L S S1:=⟨by rw [<- hS1,F2],fun t ht=>by rw [<- hS1,D5 (fun u=>ht u.symm)]⟩;refine ⟨d,S1,hd,⟨_,by rw [<- hS1,D7 hL]⟩,M,?_⟩;have em:Q5g S (.int c) (.int m)=.ok (.int d) S:=by
  show (if 0 < (m:Int) then _ else _)=_;rw [bM (by omega),ed]
 have edv:=Qft S c m h1 hm;have step:jk [some (.ref L),some (.int m),none] S=.rt (.int d) S1:=
  Qj (Γ1:=[some (.ref L),some (.int m),some (.int d)]) (Y4 (Qf (Qf rfl rfl i0) rfl em)) (Qj (Qrn (Qf (Qf rfl rfl i0) rfl edv) rfl rfl t0) rfl)
 exact (ze step).trans (Qtz M.len d)
theorem Que {m:Nat} (h:m < 10 ^ 100):m < 2 ^ 8000:=D1 h (F1 (Nat.pow_le_pow_left (show 10<=2 ^ 4 by decide) 100) (by rw [<- Nat.pow_mul]; exact Nat.pow_le_pow_right (by decide) (by decide)))
theorem Vd (T:Tp S L) (m:Nat) (h1:1<=m) (hm:m < 100):∃ (d:Nat) (S':Q0),d < m/\Tp S' L/\Mv L S S'/\Qg [.ref L,.int m] S=.ok (.int d) S':=Qh2 T m h1 (Que (D1 hm (by decide)))
theorem Qkr (ns:List Int) (k:Nat) (S:Q0):∃ c:Int,We [.fro (ns.map .int),.int k] S=.ok (.ref S.length) (S ++ [.lst [.int c]]):=by
 obtain ⟨c,hc⟩:∃ c:Int,Wf [.fro (ns.map .int),.int k] S=.ok (.int c) S:=by
  by_cases q:k < ns.length
  ·have e:atI (ns.map PV.int) (k:Int)=some (.int (ns.getD k 0)):=by rw [qa,Sm.atI_get (getD_some q 0)]; rfl
   have hl:(ns.map PV.int).length=ns.length:=O2 _;refine ⟨ns.getD k 0,?_⟩;generalize ns.getD k 0=x at *;generalize ns.length=nl at *;generalize ns.map PV.int=nv at *;simp -implicitDefEqProofs [Wf,Qd,Kr,hl,q,e]
  ·have hl:(ns.map PV.int).length=ns.length:=O2 _;have q':¬ (k:Int) < (ns.length:Int):=by omega
   refine ⟨0,?_⟩;generalize ns.length=nl at *;generalize ns.map PV.int=nv at *;simp -implicitDefEqProofs [Wf,Qd,Kr,hl,q,q']
 by_cases q:c % 2=0
 ·refine ⟨c / 2,?_⟩;generalize ns.map PV.int=nv at *;simp -implicitDefEqProofs [We,Zz,Kq,hc,q,Qp]
 ·obtain ⟨l0,hl0⟩:∃ l0:Int,(c % 2305843009213693951 * 48271 + 69621 * k + 11) % 2305843009213693951=l0:=⟨_,rfl⟩;have b0:=Q9m (c % 2305843009213693951 * 48271 + 69621 * k + 11) (b:=2305843009213693951) (by decide);rw [hl0] at b0;obtain ⟨Γ',S1,e,x,y,z,rfl,rfl,_⟩:=qm (g:=fun k:Nat=>PV.int (k:Int)) (xs:=List.range 5) (ga:=Qc 6) (body:=X9) (w:=[]) (Γ:=[some (.fro (ns.map .int)),some (.int k),some (.int c),some (.int 2305843009213693951),some (.int 0),some (.int l0),none]) (st:=S)
   (fun _ Γ st'=>∃ (x y:Int) (z:Option PV),Γ=[some (.fro (ns.map .int)),some (.int k),some (.int c),some (.int 2305843009213693951),some (.int x),some (.int y),z]/\st'=S/\0<=y/\y < 2305843009213693951)
   (fun _ _ _ _=>by simp)
   (fun i t Γ st' hx ⟨x,y,z,e1,e2,y1,y2⟩=>by
    subst e1; subst e2;obtain ⟨w,hw⟩:∃ w:Int,(y * y + 40692 * k + t) % 2305843009213693951=w:=⟨_,rfl⟩;have bw:=Q9m (y * y + 40692 * k + t) (b:=2305843009213693951) (by decide);rw [hw] at bw;have yb:-18446744073709551616 < y/\y < 18446744073709551616:=by omega
    refine ⟨_,rfl,[some (.fro (ns.map .int)),some (.int k),some (.int c),some (.int 2305843009213693951),some (.int (x * 2305843009213693951 + y)),some (.int w),some (.int t)],st',?_,_,_,_,rfl,rfl,bw.1,bw.2⟩;generalize ns.map PV.int=nv at *;simp -implicitDefEqProofs [X9,yb,hw])
   ⟨_,_,_,rfl,rfl,b0.1,b0.2⟩
  rw [<- V4] at e;refine ⟨x,?_⟩;generalize ns.map PV.int=nv at *;simp -implicitDefEqProofs [We,Zz,Kq,hc,q,Qp,hl0,e]
theorem Q6c {h:Nat} {tb:Tab} (z:Sz n tb) (hn:n<=100) (hh:h < n) (st:Q0):Yb [Q3 tb,.int h] st=.ok (.int (Q8 tb h)) st:=by
 have hc1:J4 (Qc 0) Zd Xp [] (J1 [none,some 1,some 0] [some (Q3 tb),some (.int h),none]) (Zu 0 n) st=.ok ((List.range n).map fun j=>.int (ent tb j h)) st:=by
  rw [V4];refine Yh _ _ (by simp) fun j hj=>⟨_,rfl,?_⟩
  have hj:=D4.mp hj;have c:=Kz z hj (O7 hh) st;exact Qf (Qf rfl rfl c.1) rfl c.2
 obtain ⟨c1,c2⟩:=Kz z hh (O7 hh) st;have hc2:J4 (Qc 0) Zd Xn [] (J1 [none] [some (Q3 tb),some (.int h),some (.int (J3 n fun j=>ent tb j h))]) ((tb.getD h []).map .int) st=.ok ((tb.getD h []).map .int) st:=Yh _ _ (by simp) fun j hj=>⟨_,rfl,rfl⟩
 have hlen:Y1 st [Q3 tb]=.ok (.int n) st:=by simp [Q3,z.1]
 have hrg:Yi (Q1 (Qq Y1 (Q1 (Q2 0) Q6)) Q6) [some (Q3 tb),some (.int h),none] st=.ok (Zu 0 n,[]) st:=by
  rw [qk,Q4 (Q06 (Q4 (m:=Q2 0) (p:=Q3 tb) (S1:=st) rfl (show Q6 _ st=.ok [] st from rfl)) hlen) (show Q6 _ st=.ok [] st from rfl),J2];show (if -(lim:Int)<=(n:Int)/\(n:Int)<=lim then _ else _)=_;rw [bM (by rw [Qp]; omega),Int.toNat_natCast]
 have s1:U2 (fun ns=>some (.int ns.sum)) st [.lst ((List.range n).map fun j=>.int (ent tb j h))]=.ok (.int (J3 n fun j=>ent tb j h)) st:=by
  rw [Qgw]; rfl
 have s2:U2 (fun ns=>some (.int ns.sum)) st [.lst ((tb.getD h []).map .int)]=.ok (.int (tb.getD h []).sum) st:=by simp
 have sr:U1 st (Qh (tb.getD h []))=some ((tb.getD h []).map .int,[]):=rfl;have hl:((tb.getD h []).map PV.int).length<=1000000:=by rw [O2,(z.row hh).2]; omega
 have step:qi [some (Q3 tb),some (.int h),none] st=.rt (.int (Q8 tb h)) st:=by
  refine Qj (Γ1:=[some (Q3 tb),some (.int h),some (.int (J3 n fun j=>ent tb j h))]) (Y4 (Q06 (Q4 (Q4g (Q0p hrg hc1)) rfl) s1)) ?_;rw [Q20,Qf (Qf rfl (Q06 (Q4 (Q4g (Q0p (Q7c (Qf rfl rfl c1) sr hl) hc2)) rfl) s2) rfl) (Qf (Qf rfl rfl c1) rfl c2) rfl,Wh];unfold Q8;rw [z.1];congr 2;omega
 exact (ze step).trans (Qpv st _)
theorem Qu9 {tb:Tab} (w:Wt' n tb) (c:Ca n tb) {d:Dd} (o:d.ok n) (hf:d.isM=false->d.k<=Q8 tb d.h):Wt' n (d.put n tb)/\Ca n (d.put n tb):=by
 have hh:=Dd.ok_h o;have hk:=Dd.ok_k o;have w':Wt' n (d.put n tb):=Qc9 w o;refine ⟨w',?_⟩;cases d with
 | mk h k=>exact Ca.make w c hh (by have:(1:Int)<=k:=hk; omega) w'
 | ld h q k=>
  have h1:k<=Q8 tb h:=hf rfl;have hk:(1:Int)<=k:=hk;exact Ca.give w c hh (O7 o.2.1) o.2.2.1 (by omega) h1 (Int.le_trans hk h1) w'
 | us h k=>
  have h1:k<=Q8 tb h:=hf rfl;have hk:(1:Int)<=k:=hk;have hh:h < n:=hh;exact Ca.give w c hh (O4 n) (by omega) (by omega) h1 (Int.le_trans hk h1) w'
theorem Qde {i:Nat} (z:Sz n tb) (hi:i < n) (hj:j<=n) (k:Int):J3 n (Q8 (Yg tb i j (ent tb i j + k)))=J3 n (Q8 tb) + (if j < n then k else 0) - (if j=i then 0 else k):=by
 rw [Qi (g:=fun h=>(Q8 tb h + (if h=j then k else 0)) - (if h=i then (if j=i then 0 else k) else 0)) fun h hh=>by
  rw [W9 z hi hj k hh]
  by_cases q1:h=i <;> by_cases q2:j=i <;> simp [q1,q2] <;> omega]
 rw [Uq,U8,Va,Va,bM hi]
def toD (n:Nat) (x:Sp2):Dd:=match x.2 with
 | none=>.mk x.1 1
 | some pl=>if pl=n then .us x.1 1 else .ld x.1 pl 1
theorem Qqb (n:Nat) (x:Sp2):(toD n x).V=spV n x:=by
 obtain ⟨h,o⟩:=x;cases o with
 | none=>rfl
 | some pl=>
  show (if pl=n then Dd.us h 1 else Dd.ld h pl 1).V=stV n (h,pl);unfold stV
  by_cases q:pl=n
  ·rw [bM q,bM q]; rfl
  ·rw [bN q,bN q]; rfl
theorem Qbq {x:Sp2} (o:okV n x):(toD n x).ok n:=by
 obtain ⟨h,p⟩:=x;obtain ⟨o1,o2⟩:=o;cases p with
 | none=>exact ⟨o1,Int.le_refl 1⟩
 | some pl=>
  obtain ⟨a,b⟩:=o2 pl rfl;show (if pl=n then Dd.us h 1 else Dd.ld h pl 1).ok n
  by_cases q:pl=n
  ·rw [bM q]; exact ⟨o1,Int.le_refl 1⟩
  ·rw [bN q]; exact ⟨o1,by omega,b,Int.le_refl 1⟩
theorem Qhe (n:Nat) (x:Sp2):(toD n x).h=x.1:=by
 obtain ⟨h,p⟩:=x;cases p with
 | none=>rfl
 | some pl=>
  show (if pl=n then Dd.us h 1 else Dd.ld h pl 1).h=h
  by_cases q:pl=n
  ·rw [bM q]; rfl
  ·rw [bN q]; rfl
theorem Q8h (n:Nat) (x:Sp2) (tb:Tab):(toD n x).put n tb=stR tb x:=by
 obtain ⟨h,p⟩:=x;cases p with
 | none=>rfl
 | some pl=>
  show (if pl=n then Dd.us h 1 else Dd.ld h pl 1).put n tb=Yg tb h pl (ent tb h pl + 1)
  by_cases q:pl=n
  ·rw [bM q,q]; rfl
  ·rw [bN q]; rfl
theorem Qhf {x:Sp2} {tb:Tab} (h:x.2≠none->1<=Q8 tb x.1):(toD n x).fits tb=true:=by
 obtain ⟨a,p⟩:=x;cases p with
 | none=>rfl
 | some pl=>
  have h:1<=Q8 tb a:=h (by simp);show (if pl=n then Dd.us a 1 else Dd.ld a pl 1).fits tb=true
  by_cases q:pl=n
  ·rw [bM q]; unfold Dd.fits; simp [Dd.k,Dd.h,h]
  ·rw [bN q]; unfold Dd.fits; simp [Dd.k,Dd.h,h]
def OkG (n:Nat):Tab->List Sp2->Prop
 | _,[]=>True
 | G,x :: xs=>(okV n x/\(x.2≠none->1<=Q8 G x.1))/\OkG n (stR G x) xs
theorem Q8n (w:Wt' n G) (c:Ca n G) {x:Sp2} (o:okV n x) (hr:x.2≠none->1<=Q8 G x.1):Wt' n (stR G x)/\Ca n (stR G x):=by
 rw [<- Q8h n x G];refine Qu9 w c (Qbq o) fun hm=>?_
 rw [Qhe];obtain ⟨h,p⟩:=x;cases p with
 | none=>cases hm
 | some pl=>
  have hr:1<=Q8 G h:=hr (by simp);show (if pl=n then Dd.us h 1 else Dd.ld h pl 1).k<=Q8 G h
  by_cases q:pl=n
  ·rw [bM q]; exact hr
  ·rw [bN q]; exact hr
theorem Qby (w:Wt' n G) {x:Sp2} (o:okV n x) {H:Nat->Int} (hH:∀ a,a < n->H a=Q8 G a) {a:Nat} (ha:a < n):stH n H x a=Q8 (stR G x) a:=by
 obtain ⟨h,p⟩:=x;obtain ⟨o1,o2⟩:=o;have o1:h < n:=o1;cases p with
 | none=>
  show x8 H h 1 a=Q8 (Yg G h h (ent G h h + 1)) a;rw [W9 w.sz o1 (O7 o1) 1 ha];unfold x8
  by_cases q:a=h
  ·rw [bM q,hH a ha,bM q,bM ⟨q,rfl⟩]; omega
  ·rw [bN q,hH a ha,bN q,bN (fun z=>q z.1)]; omega
 | some pl=>
  obtain ⟨p1,p2⟩:=o2 pl rfl;have p2:pl≠h:=p2;show (if pl=n then x8 H h (-1) else x8 (x8 H h (-1)) pl 1) a=Q8 (Yg G h pl (ent G h pl + 1)) a;rw [W9 w.sz o1 p1 1 ha,bN (c:=a=h/\pl=h) (fun z=>p2 z.2)]
  by_cases q:pl=n
  ·rw [bM q];unfold x8;rw [bN (c:=a=pl) (by omega)]
   by_cases z:a=h
   ·rw [bM z,bM z,hH a ha]; omega
   ·rw [bN z,bN z,hH a ha]; omega
  ·rw [bN q];unfold x8
   by_cases z:a=h
   ·rw [bN (c:=a=pl) (by omega),bM z,bN (c:=a=pl) (by omega),bM z,hH a ha]; omega
   ·rw [bN (c:=a=h) z,bN (c:=a=h) z,hH a ha]
    by_cases y:a=pl
    ·rw [bM y,bM y]; omega
    ·rw [bN y,bN y]; omega
theorem Qdu {n:Nat}:∀ (xs:List Sp2) {G:Tab} {H:Nat->Int},Wt' n G->Ca n G->(∀ a,a < n->H a=Q8 G a)->OkT n H xs->OkG n G xs
 | [],_,_,_,_,_,_=>trivial
 | x :: xs,G,H,w,c,hH,o=>by
  have hx:okV n x:=o.1.1;have hr:x.2≠none->1<=Q8 G x.1:=fun z=>by rw [<- hH x.1 hx.1]; exact o.1.2 z
  have h2:=Q8n w c hx hr;exact ⟨⟨hx,hr⟩,Qdu xs h2.1 h2.2 (fun a ha=>Qby w hx hH ha) o.2⟩
def Yp (n:Nat):Nat->List Sp2->List Dx
 | _,[]=>[]
 | l,x :: xs=>match x.2 with
  | none=>.own (toD n x) :: Yp n l xs
  | some pl=>if pl=n then .own (toD n x) :: Yp n l xs else .own (toD n x) :: .kp x.1 :: .sd x.1 :: .cm l pl :: Yp n (l + 1) xs
structure PrI (n:Nat) (s:RS) (G:Tab) (l:Nat):Prop where
 r:RI n s
 ll:s.le.length=l
 w:Wt' n G
 c:Ca n G
 row:∀ i j,i < n->j<=n->ent (s.now.getD i []) i j=ent G i j
 col:∀ i a,i < n->a < n->ent (s.now.getD i []) a i=ent G a i
 le:∀ i a b,i < n->a < n->b<=n->ent (s.now.getD i []) a b<=ent G a b
theorem PrI.rights (I:PrI n s G l) {i:Nat} (hi:i < n):Q8 (s.now.getD i []) i=Q8 G i:=by
 have w:=I.r.wn i hi;rw [Wa w.sz hi,Wa I.w.sz hi,Qi (f:=fun o=>ent (s.now.getD i []) o i) (g:=fun o=>ent G o i) fun o ho=>I.col i o hi ho,Qi (f:=fun j=>ent (s.now.getD i []) i j) (g:=fun j=>ent G i j) fun j hj=>I.row i j hi (O7 hj),I.row i n hi (O4 n),I.row i i hi (O7 hi)]
theorem PrI.own (I:PrI n s G l) {x:Sp2} (o:okV n x) (hr:x.2≠none->1<=Q8 G x.1) :
  Y8 n s (.own (toD n x))=⟨s.now.set x.1 (stR (s.now.getD x.1 []) x),s.last,s.le⟩/\Q77 s (.own (toD n x))=.str "done" /\ (Dx.own (toD n x)).ok n s:=by
 have hf:(toD n x).fits (s.now.getD (toD n x).h [])=true:=by
  rw [Qhe];exact Qhf fun z=>by rw [I.rights o.1]; exact hr z
 refine ⟨?_,bM hf,Qbq o⟩;show (if (toD n x).fits (s.now.getD (toD n x).h [])=true then (⟨s.now.set (toD n x).h ((toD n x).put n (s.now.getD (toD n x).h [])),s.last,s.le⟩:RS) else s)=_;rw [bM hf,Q8h,Qhe]
theorem Xv {T:Tab} (z:Sz n T) {x:Sp2} (o:okV n x) (a b:Nat):ent (stR T x) a b=if a=x.1/\b=x.2.getD x.1 then ent T x.1 (x.2.getD x.1) + 1 else ent T a b:=by
 refine Vm z o.1 ?_ _ a b;obtain ⟨h,p⟩:=x;cases p with
 | none=>exact O7 o.1
 | some pl=>exact (o.2 pl rfl).1
theorem Qre {A B:Tab} (zA:Sz n A) (zB:Sz n B) {x:Sp2} (o:okV n x) (h:∀ a b,a < n->b<=n->ent A a b<=ent B a b) {a b:Nat} (ha:a < n) (hb:b<=n):ent (stR A x) a b<=ent (stR B x) a b:=by
 rw [Xv zA o,Xv zB o]
 by_cases q:a=x.1/\b=x.2.getD x.1
 ·rw [bM q,bM q];have:=h a b ha hb;rw [q.1,q.2] at this;omega
 ·rw [bN q,bN q]; exact h a b ha hb
theorem Qbx {A:Tab} (z:Sz n A) {x:Sp2} (o:okV n x) (a b:Nat):ent A a b<=ent (stR A x) a b:=by
 rw [Xv z o]
 split
 ·rename_i q; rw [q.1,q.2]; omega
 ·exact Int.le_refl _
def isL (n:Nat) (x:Sp2):Bool:=match x.2 with
 | none=>false
 | some pl=>decide (pl≠n)
theorem Q1p (n l:Nat) (x:Sp2) (xs:List Sp2):Yp n l (x :: xs)=Yp n l [x] ++ Yp n (if isL n x=true then l + 1 else l) xs:=by
 obtain ⟨h,p⟩:=x;cases p with
 | none=>rfl
 | some pl=>
  show (if pl=n then _ else _)=(if pl=n then _ else _) ++ Yp n (if decide (pl≠n)=true then l + 1 else l) xs
  by_cases q:pl=n
  ·rw [bM q,bM q,bO (by simpa using q)]; rfl
  ·rw [bN q,bN q,bP q]; rfl
theorem PrI.one (I:PrI n s G l) {x:Sp2} (o:okV n x) (hr:x.2≠none->1<=Q8 G x.1) :
  OkL n s (Yp n l [x])/\(∀ v∈Q0v n s (Yp n l [x]),v=.str "done")/\PrI n (K9 n s (Yp n l [x])) (stR G x) (if isL n x=true then l + 1 else l):=by
 obtain ⟨e1,e2,e3⟩:=I.own o hr;obtain ⟨w',c'⟩:=Q8n I.w I.c o hr;have hh:x.1 < n:=o.1;obtain ⟨V,hV⟩:∃ V,stR (s.now.getD x.1 []) x=V:=⟨_,rfl⟩;have zV:Sz n V:=by rw [<- hV,<- Q8h n x]; exact (Qc9 (I.r.wn _ hh) (Qbq o)).sz
 have hl:x.1 < s.now.length:=by rw [I.r.ln]; exact hh
 have Vle:∀ a b,a < n->b<=n->ent V a b<=ent (stR G x) a b:=fun a b ha hb=>by
  rw [<- hV]; exact Qre (I.r.wn _ hh).sz I.w.sz o (fun a b ha hb=>I.le _ a b hh ha hb) ha hb
 have Vrow:∀ j,j<=n->ent V x.1 j=ent (stR G x) x.1 j:=fun j hj=>by
  rw [<- hV,Xv (I.r.wn _ hh).sz o,Xv I.w.sz o]
  by_cases q:x.1=x.1/\j=x.2.getD x.1
  ·rw [bM q,bM q];have:=I.row x.1 j hh hj;rw [q.2] at this;rw [this]
  ·rw [bN q,bN q]; exact I.row x.1 j hh hj
 have Vcol:∀ a,a < n->ent V a x.1=ent (stR G x) a x.1:=fun a ha=>by
  by_cases q:a=x.1
  ·rw [q]; exact Vrow x.1 (O7 hh)
  ·rw [<- hV,Xv (I.r.wn _ hh).sz o,Xv I.w.sz o,bN (fun z=>q z.1),bN (fun z=>q z.1)];exact I.col x.1 a hh ha
 rw [hV] at e1
 by_cases hL:isL n x=true
 ·obtain ⟨h,p⟩:=x;cases p with
  | none=>cases hL
  | some pl=>
   have hpl:pl≠n:=of_decide_eq_true hL;obtain ⟨p1,p2⟩:=o.2 pl rfl;have p2:pl≠h:=p2;have hpn:pl < n:=by omega
   have er:Yp n l [(h,some pl)]=[.own (toD n (h,some pl)),.kp h,.sd h,.cm l pl]:=by
    show (if pl=n then _ else _)=_;rw [bN hpl]; rfl
   rw [er,bM hL];have hg:(s.now.set h V).getD h []=V:=by rw [Qy hl,bM rfl]
   have lL:h < s.last.length:=by rw [I.r.ll]; exact hh
   have o2:OkL n s [.own (toD n (h,some pl)),.kp h,.sd h,.cm l pl]:=by
    refine ⟨e3,?_⟩;rw [e1];exact ⟨hh,hh,⟨by show l < (s.le ++ [_]).length; rw [D0,I.ll]; simp,hpn⟩,trivial⟩
   have es:K9 n s [.own (toD n (h,some pl)),.kp h,.sd h,.cm l pl]=⟨(s.now.set h V).set pl (W3 (s.now.getD pl []) V),s.last.set h V,s.le ++ [V]⟩:=by
    show Y8 n (Y8 n (Y8 n (Y8 n s _) (.kp h)) (.sd h)) (.cm l pl)=_;rw [e1];show (⟨(s.now.set h V).set pl (W3 ((s.now.set h V).getD pl []) ((s.le ++ [(s.last.set h ((s.now.set h V).getD h [])).getD h []]).getD l [])),s.last.set h ((s.now.set h V).getD h []),s.le ++ [(s.last.set h ((s.now.set h V).getD h [])).getD h []]⟩:RS)=_;rw [hg,Qy lL,bM rfl,Qy hl,bN p2];have:(s.le ++ [V]).getD l []=V:=by
     rw [D9,E2 (by rw [I.ll]; exact O4 _),I.ll,Nat.sub_self]; rfl
    rw [this]
   refine ⟨o2,?_,?_⟩
   ·intro v hv;have:Q0v n s [.own (toD n (h,some pl)),.kp h,.sd h,.cm l pl]=[Q77 s (.own (toD n (h,some pl))),.str "done",.str "done",.str "done"]:=rfl;rw [this,e2] at hv;simp at hv;exact hv
   ·have rr:=I.r.run o2;rw [es] at rr ⊢;have zp:=(I.r.wn pl hpn).sz;have hl2:pl < (s.now.set h V).length:=by rw [F2,I.r.ln]; exact hpn
    have gp:∀ i,((s.now.set h V).set pl (W3 (s.now.getD pl []) V)).getD i []=if i=pl then W3 (s.now.getD pl []) V else if i=h then V else s.now.getD i []:=fun i=>by
     rw [Qy hl2,Qy hl]
    have Gup:∀ a b,ent G a b<=ent (stR G (h,some pl)) a b:=Qbx I.w.sz o;have Gne:∀ a b,¬ (a=h/\b=pl)->ent (stR G (h,some pl)) a b=ent G a b:=fun a b q=>by rw [Xv I.w.sz o]; exact bN q
    refine ⟨rr,by show (s.le ++ [V]).length=_; rw [D0,I.ll]; rfl,w',c',fun i j hi hj=>?_,fun i a hi ha=>?_,fun i a b hi ha hb=>?_⟩
    ·show ent (((s.now.set h V).set pl _).getD i []) i j=_;rw [gp]
     by_cases q:i=pl
     ·rw [bM q,q,qr zp zV hpn hj,Q7q,I.row pl j hpn hj]
      ·exact (Gne pl j (fun z=>p2 z.1)).symm
      ·rw [I.row pl j hpn hj,<- Gne pl j (fun z=>p2 z.1)];exact Vle pl j hpn hj
     ·rw [bN q]
      by_cases q2:i=h
      ·rw [bM q2,q2]; exact Vrow j hj
      ·rw [bN q2,Gne i j (fun z=>q2 z.1)]; exact I.row i j hi hj
    ·show ent (((s.now.set h V).set pl _).getD i []) a i=_;rw [gp]
     by_cases q:i=pl
     ·rw [bM q,q,qr zp zV ha (O7 hpn)]
      by_cases q2:a=h
      ·have v1:ent V a pl=ent (stR G (h,some pl)) a pl:=by rw [q2]; exact Vrow pl (O7 hpn)
       refine Int.le_antisymm ?_ (by rw [<- v1]; exact Qje _ _);rcases Q41 (ent (s.now.getD pl []) a pl) (ent V a pl) with z | z
       ·rw [z]; exact Int.le_trans (I.le pl a pl hpn ha (O7 hpn)) (Gup _ _)
       ·rw [z,v1]; exact Int.le_refl _
      ·rw [Q7q,I.col pl a hpn ha,Gne a pl (fun z=>q2 z.1)];rw [I.col pl a hpn ha,<- Gne a pl (fun z=>q2 z.1)];exact Vle a pl ha (O7 hpn)
     ·rw [bN q]
      by_cases q2:i=h
      ·rw [bM q2,q2]; exact Vcol a ha
      ·rw [bN q2,Gne a i (fun z=>q z.2)]; exact I.col i a hi ha
    ·show ent (((s.now.set h V).set pl _).getD i []) a b<=_;rw [gp]
     by_cases q:i=pl
     ·rw [bM q,qr zp zV ha hb];rcases Q41 (ent (s.now.getD pl []) a b) (ent V a b) with z | z
      ·rw [z]; exact Int.le_trans (I.le pl a b hpn ha hb) (Gup _ _)
      ·rw [z]; exact Vle a b ha hb
     ·rw [bN q]
      by_cases q2:i=h
      ·rw [bM q2]; exact Vle a b ha hb
      ·rw [bN q2]; exact Int.le_trans (I.le i a b hi ha hb) (Gup _ _)
 ·have hno:∀ i,i < n->i≠x.1->x.2.getD x.1≠i:=fun i hi hne=>by
   obtain ⟨h,p⟩:=x;cases p with
   | none=>exact fun z=>hne z.symm
   | some pl=>
    have:¬ pl≠n:=fun z=>hL (bP z)
    show pl≠i;omega
  have er:Yp n l [x]=[.own (toD n x)]:=by
   obtain ⟨h,p⟩:=x;cases p with
   | none=>rfl
   | some pl=>
    have:¬ pl≠n:=fun z=>hL (bP z)
    show (if pl=n then _ else _)=_;rw [bM (by omega)]; rfl
  rw [er,bN hL];have o2:OkL n s [.own (toD n x)]:=⟨e3,trivial⟩;refine ⟨o2,fun v hv=>?_,?_⟩
  ·have:v=Q77 s (.own (toD n x)):=by simpa [Q0v] using hv
   rw [this,e2]
  ·have rr:=I.r.run o2;have es:K9 n s [.own (toD n x)]=⟨s.now.set x.1 V,s.last,s.le⟩:=e1;rw [es] at rr ⊢;have gp:∀ i,(s.now.set x.1 V).getD i []=if i=x.1 then V else s.now.getD i []:=fun i=>Qy hl V [] i
   have Gne:∀ i a,i < n->i≠x.1->ent (stR G x) a i=ent G a i:=fun i a hi hne=>by rw [Xv I.w.sz o]; exact bN fun z=>hno i hi hne z.2.symm
   refine ⟨rr,I.ll,w',c',fun i j hi hj=>?_,fun i a hi ha=>?_,fun i a b hi ha hb=>?_⟩
   ·show ent ((s.now.set x.1 V).getD i []) i j=_;rw [gp]
    by_cases q:i=x.1
    ·rw [bM q,q]; exact Vrow j hj
    ·rw [bN q,Xv I.w.sz o,bN (fun z=>q z.1)]; exact I.row i j hi hj
   ·show ent ((s.now.set x.1 V).getD i []) a i=_;rw [gp]
    by_cases q:i=x.1
    ·rw [bM q,q]; exact Vcol a ha
    ·rw [bN q,Gne i a hi q]; exact I.col i a hi ha
   ·show ent ((s.now.set x.1 V).getD i []) a b<=_;rw [gp]
    by_cases q:i=x.1
    ·rw [bM q]; exact Vle a b ha hb
    ·rw [bN q]; exact Int.le_trans (I.le i a b hi ha hb) (Qbx I.w.sz o a b)
theorem PrI.run :∀ (xs:List Sp2) {s:RS} {G:Tab} {l:Nat},PrI n s G l->OkG n G xs->OkL n s (Yp n l xs)/\(∀ v∈Q0v n s (Yp n l xs),v=.str "done")/\∃ l',PrI n (K9 n s (Yp n l xs)) (xs.foldl stR G) l'
 | [],s,G,l,I,_=>⟨trivial,(fun _ h=>by cases h),l,I⟩
 | x :: xs,s,G,l,I,o=>by
  obtain ⟨a1,a2,a3⟩:=I.one o.1.1 o.1.2;obtain ⟨b1,b2,l',b3⟩:=PrI.run xs a3 o.2;rw [Q1p,List.foldl_cons];refine ⟨(Q8z n _ _ s).mpr ⟨a1,b1⟩,fun v hv=>?_,l',by rw [Q8u]; exact b3⟩
  rw [Qa1] at hv;rcases F7.mp hv with h | h
  ·exact a2 v h
  ·exact b2 v h
theorem PrI.start (w:Wt' n G) (c:Ca n G):PrI n (s0 n G) G 0:=by
 have g:∀ i,i < n->(s0 n G).now.getD i []=G:=fun i hi=>Q4z hi
 exact ⟨RI.start w,rfl,w,c,fun i j hi _=>by rw [g i hi],fun i a hi _=>by rw [g i hi],fun i a b hi _ _=>by rw [g i hi]; exact Int.le_refl _⟩
theorem Qj9 {n:Nat}:∀ (xs:List Sp2) {G:Tab},Wt' n G->Ca n G->OkG n G xs->Wt' n (xs.foldl stR G)/\Ca n (xs.foldl stR G)
 | [],_,w,c,_=>⟨w,c⟩
 | x :: xs,G,w,c,o=>by
  obtain ⟨w',c'⟩:=Q8n w c o.1.1 o.1.2;exact Qj9 xs w' c' o.2
theorem Q93 {n:Nat}:∀ (xs ys:List Sp2) {G:Tab},OkG n G (xs ++ ys) <-> OkG n G xs/\OkG n (xs.foldl stR G) ys
 | [],_,_=>⟨fun h=>⟨trivial,h⟩,fun h=>h.2⟩
 | x :: xs,ys,G=>by
  have ih:=Q93 (n:=n) xs ys (G:=stR G x);exact ⟨fun h=>⟨⟨h.1,(ih.mp h.2).1⟩,(ih.mp h.2).2⟩,fun h=>⟨h.1.1,ih.mpr ⟨h.1.2,h.2⟩⟩⟩
theorem Q8v (n:Nat):∀ (xs:List Sp2) (l:Nat),(Yp n l xs).length<=4 * xs.length
 | [],_=>O4 0
 | x :: xs,l=>by
  rw [Q1p,D0,D2];have h1:=Q8v n xs (if isL n x=true then l + 1 else l);have h2:(Yp n l [x]).length<=4:=by
   obtain ⟨h,p⟩:=x;cases p with
   | none=>show 1<=4; decide
   | some pl=>
    show (if pl=n then _ else _:List Dx).length<=4
    split
    ·show 1<=4; decide
    ·show 4<=4; decide
  omega
theorem Qqw {a b:MT} {r:Res Bool} (h:a Γ S=.ok true S1) (h2:b Γ S1=r):Q1j a b Γ S=r:=by rw [Qa9,h]; exact h2
theorem Qxu {a b:MT} (h:a Γ S=.ok false S1):Q1j a b Γ S=.ok false S1:=by rw [Qa9,h]; rfl
theorem Qs6 (h:m Γ S=.ok v S1):Za m Γ S=.rt v S1:=by rw [Q20,h]; rfl
theorem Qqv (S:Q0) (h:a=b):oEq S (.int a) (.int b)=.ok (.bl true) S:=by simp [h]
theorem Qk2 (S:Q0) (h:¬ a=b):oEq S (.int a) (.int b)=.ok (.bl false) S:=by simp [h]
theorem Qqt (S:Q0) (h:a < b):oLt S (.int a) (.int b)=.ok (.bl true) S:=by simp [h]
theorem Qwx (S:Q0) (h:¬ a < b):oLt S (.int a) (.int b)=.ok (.bl false) S:=by
 have:oLt S (.int a) (.int b)=.ok (.bl (decide (a < b))) S:=by simp
 rw [this,bO h]
theorem Qx6 (S:Q0) (h:b < a):(oI fun a b=>.bl (decide (b < a))) S (.int a) (.int b)=.ok (.bl true) S:=by
 show Res.ok (PV.bl (decide (b < a))) S=_; rw [bP h]
theorem Qx7 (S:Q0) (h:¬ b < a):(oI fun a b=>.bl (decide (b < a))) S (.int a) (.int b)=.ok (.bl false) S:=by
 show Res.ok (PV.bl (decide (b < a))) S=_; rw [bO h]
theorem Qzn (S:Q0) (h:0 < b):Q5g S (.int a) (.int b)=.ok (.int (a % b)) S:=by
 show (if 0 < b then _ else _)=_; rw [bM h]
theorem Qa3 (S:Q0) (a b:Int):Wb S (.int a) (.int b)=.ok (.int (a + b)) S:=by simp
theorem Qz7 (S:Q0) (a b:Int):(oI fun a b=>.int (a - b)) S (.int a) (.int b)=.ok (.int (a - b)) S:=rfl
theorem yx {i:Nat} (z:Sz n tb) (hn:n<=100) (hi:i < n) (hj:j<=n) (k:Int) (st:Q0):Ze [Q3 tb,.int i,.int j,.int k] st=.ok (Q3 (Yg tb i j (ent tb i j + k))) st:=by
 have c0:=Kz z hi hj st;have hrl:=(z.row hi).2;have g1:Qh ((tb.getD i []).set j (ent tb i j + k))=.tup (((tb.getD i []).take j).map .int ++ [.int (ent tb i j + k)] ++ ((tb.getD i []).drop (j + 1)).map .int):=by
  unfold Qh;rw [<- Q3x _ _ _ (by omega),G6,G6]; rfl
 have g2:Q3 (Yg tb i j (ent tb i j + k))=.tup ((tb.take i).map Qh ++ [Qh ((tb.getD i []).set j (ent tb i j + k))] ++ (tb.drop (i + 1)).map Qh):=by
  unfold Q3 Yg;rw [<- Q3x _ _ _ (by rw [z.1]; exact hi),G6,G6]; rfl
 have c3:cut ((tb.getD i []).map PV.int) none (some (j:Int))=((tb.getD i []).take j).map .int:=by rw [Xz,zc]
 have c4:cut ((tb.getD i []).map PV.int) (some ((j:Int) + 1)) none=((tb.getD i []).drop (j + 1)).map .int:=by rw [Xz]; exact congrArg _ (Q04 _ (j + 1))
 have c5:cut (tb.map Qh) none (some (i:Int))=(tb.take i).map Qh:=by rw [Xz,zc]
 have c6:cut (tb.map Qh) (some ((i:Int) + 1)) none=(tb.drop (i + 1)).map Qh:=by rw [Xz]; exact congrArg _ (Q04 _ (i + 1))
 have l3:(((tb.getD i []).take j).map PV.int).length=j:=by rw [O2,List.length_take,hrl]; omega
 have l4:(((tb.getD i []).drop (j + 1)).map PV.int).length=n - j:=by rw [O2,List.length_drop,hrl]; omega
 have l5:((tb.take i).map Qh).length=i:=by rw [O2,List.length_take,z.1]; omega
 have l6:((tb.drop (i + 1)).map Qh).length=n - (i + 1):=by rw [O2,List.length_drop,z.1]
 have b1:j + 1<=1000000:=by omega
 have b2:j + 1 + (n - j)<=1000000:=by omega
 have b3:i + 1<=1000000:=by omega
 have b4:i + 1 + (n - (i + 1))<=1000000:=by omega
 have hf:fin st (Q3 (Yg tb i j (ent tb i j + k))) st=.ok (Q3 (Yg tb i j (ent tb i j + k))) st:=Zw (by simp [Z6,Q3,Qh]);obtain ⟨c1,c2⟩:=c0;have q1:oSl st (Qh (tb.getD i [])) none (some (j:Int))=.ok (.tup (((tb.getD i []).take j).map .int)) st:=by unfold Qh; rw [qv,c3]
 have q2:oSl st (Qh (tb.getD i [])) (some ((j:Int) + 1)) none=.ok (.tup (((tb.getD i []).drop (j + 1)).map .int)) st:=by unfold Qh; rw [qv,c4]
 have q3:oSl st (Q3 tb) none (some (i:Int))=.ok (.tup ((tb.take i).map Qh)) st:=by unfold Q3; rw [qv,c5]
 have q4:oSl st (Q3 tb) (some ((i:Int) + 1)) none=.ok (.tup ((tb.drop (i + 1)).map Qh)) st:=by unfold Q3; rw [qv,c6]
 rw [g2] at hf ⊢;rw [g1] at hf ⊢;generalize ent tb i j=x at *;generalize ((tb.getD i []).take j).map PV.int=v3 at *;generalize ((tb.getD i []).drop (j + 1)).map PV.int=v4 at *;generalize (tb.take i).map Qh=v5 at *;generalize (tb.drop (i + 1)).map Qh=v6 at *;generalize Qh (tb.getD i [])=rv at *;generalize Q3 tb=T at *;simp -implicitDefEqProofs at hf;simp -implicitDefEqProofs [Ze,Qd,qj,c1,c2,q1,q2,q3,q4,Qp,l3,l4,l5,l6,b1,b2,b3,b4,hf]
theorem Qd9 (h:mr Γ S=.ok ps S1) (hl:ps.length<=1000000:=by decide):Q9b mr Γ S=.ok (.lst ps) S1:=by
 unfold Q9b;rw [h,J2];exact bM hl
theorem Qkt (hn:n<=8) (S:Q0):Xa [.int n] S=.ok (Q3 (List.replicate n (W0 n))) S:=by
 have h5:((n:Int) + 1).toNat=n + 1:=by omega
 have ev:X7 [some (.int 0),some (.int n)] S=.ok (Qh (W0 n)) S:=by
  have:Qh (W0 n)=.tup (List.replicate (n + 1) (.int 0)):=by simp [Qh,W0]
  rw [this];have em:Q0u S (.lst [.int 0]) (.int ((n:Int) + 1))=.ok (.lst (List.replicate (n + 1) (.int 0))) S:=by
   rw [Qaw,bM ⟨by omega,by omega,by rw [Qp,h5]; simp; omega⟩,h5,Qs7]
  exact Q06 (Q4 (Qf (Qd9 rfl) (Qf rfl rfl (Qa3 S _ _)) em) rfl) rfl
 have hc:J4 (Qc 0) Zd X7 [] (J1 [none,some 0] [some (.int n)]) (Zu 0 n) S=.ok ((List.range n).map fun _=>Qh (W0 n)) S:=by
  rw [V4];refine Yh _ _ (by simp) fun j hj=>⟨_,rfl,?_⟩
  exact ev
 have hm:((List.range n).map fun _=>Qh (W0 n))=(List.replicate n (W0 n)).map Qh:=by
  rw [List.map_replicate];exact List.eq_replicate_iff.mpr ⟨by simp,fun b hb=>by obtain ⟨_,_,rfl⟩:=List.mem_map.mp hb; rfl⟩
 rw [hm] at hc;have hrg:Yi (Q1 (Q2 0) Q6) [some (.int n)] S=.ok (Zu 0 n,[]) S:=by
  rw [qk,Q4 (m:=Q2 0) (p:=.int n) (S1:=S) rfl (show Q6 _ S=.ok [] S from rfl),J2];show (if -(lim:Int)<=(n:Int)/\(n:Int)<=lim then _ else _)=_;rw [bM (by rw [Qp]; omega),Int.toNat_natCast]
 have ct:Kf S [.lst ((List.replicate n (W0 n)).map Qh)]=.ok (Q3 (List.replicate n (W0 n))) S:=by
  have hl:((List.replicate n (W0 n)).map Qh).length<=1000000:=by simp; omega
  unfold Q3;generalize (List.replicate n (W0 n)).map Qh=q at *;simp [Qp,hl]
 have step:yk [some (.int n)] S=.rt (Q3 (List.replicate n (W0 n))) S:=Qs6 (Q06 (Q4 (Q4g (Q0p hrg hc)) rfl) ct);exact (ze step).trans (Q9j S _)
theorem Qkz {f:Nat->Int} (h:∀ o,o < n->0<=f o):0<=J3 n f:=by
 induction n with
 | zero=>simp [J3]
 | succ n ih=>
  rw [Qx];have h1:=ih fun o ho=>h o (by omega)
  have h2:=h n (by omega);omega
theorem Qa5 {f:Nat->Int} (h:∀ o,o < n->0<=f o) {k:Nat} (hk:k < n):f k<=J3 n f:=by
 induction n with
 | zero=>omega
 | succ n ih=>
  rw [Qx];have h2:=h n (by omega);have h3:=Qkz (n:=n) fun o ho=>h o (by omega)
  by_cases q:k=n
  ·subst q; omega
  ·have h1:=ih (fun o ho=>h o (by omega)) (by omega)
   omega
theorem Qnj {i y:Nat} (hi:i < n) (hy:y < n - 1):∃ q:Nat,((i:Int) + 1 + (y:Int)) % (n:Int)=(q:Int)/\q < n/\q≠i:=by
 by_cases h:i + 1 + y < n
 ·exact ⟨i + 1 + y,by rw [Int.emod_eq_of_lt (by omega) (by omega)]; omega,h,by omega⟩
 ·refine ⟨i + 1 + y - n,?_,by omega,by omega⟩;have e:((i:Int) + 1 + (y:Int))=((i + 1 + y - n:Nat):Int) + (n:Int):=by omega
  rw [e,Int.add_emod_right,Int.emod_eq_of_lt (by omega) (by omega)]
theorem Q2a {i:Nat} (hi:i < n) (hj:j<=n):ent (List.replicate n (W0 n)) i j=0:=by
 unfold ent;rw [D9 (l:=List.replicate n (W0 n)),F8,bM hi,Option.getD_some,W0,D9,F8,bM (by omega)]; rfl
theorem Qdb {i:Nat} {tb:Tab} (z:Sz n tb) (hi:i < n) (hj:j<=n) (k:Int):Q3h n (Yg tb i j (ent tb i j + k))=Q3h n tb + k:=by
 have key:∀ {t:Tab},Sz n t->Q3h n t=J3 n fun g=>J3 (n + 1) fun b=>ent t g b:=fun {t} zt=>by
  unfold Q3h;refine Qi fun g hg=>?_
  rw [Q4m (t.getD g []),(zt.row hg).2]; rfl
 rw [key (Vi z hi _),key z];have e1:(J3 n fun g=>J3 (n + 1) fun b=>ent (Yg tb i j (ent tb i j + k)) g b)=J3 n fun g=>(J3 (n + 1) fun b=>ent tb g b) + if g=i then k else 0:=by
  refine Qi fun g hg=>?_
  have:(J3 (n + 1) fun b=>ent (Yg tb i j (ent tb i j + k)) g b)=J3 (n + 1) fun b=>ent tb g b + if b=j then (if g=i then k else 0) else 0:=by
   refine Qi fun b _=>?_
   rw [Vm z hi hj]
   by_cases q1:g=i <;> by_cases q2:b=j <;> simp [q1,q2]
  rw [this,U8,Va,bM (by omega)]
 rw [e1,U8,Va,bM hi]
structure SmI (n t:Nat) (tb:Tab):Prop where
 w:Wt' n tb
 c:Ca n tb
 s:∃ m:Nat,m<=t/\J3 n (Q8 tb)<=6 * m/\Q3h n tb<=6 * m + (t - m:Nat) * (6 * m)
theorem SmI.rights {t:Nat} {tb:Tab} (I:SmI n t tb) (ht:t<=12) {i:Nat} (hi:i < n):Q8 tb i<=72:=by
 obtain ⟨m,h1,h2,_⟩:=I.s;have:=Qa5 (fun o ho=>I.c.nn o ho) hi;omega
theorem Qzk (a b:Nat):((a + 1:Nat):Int) * (6 * b)=(a:Int) * (6 * b) + 6 * b:=by
 rw [show ((a + 1:Nat):Int)=(a:Int) + 1 by omega,Int.add_mul,Int.one_mul]
theorem SmI.make {t i:Nat} {tb:Tab} (I:SmI n t tb) (hi:i < n) {k:Int} (h1:1<=k) (h6:k<=6):SmI n (t + 1) (Yg tb i i (ent tb i i + k)):=by
 have w':Wt' n (Yg tb i i (ent tb i i + k)):=Wt'.set0 I.w hi (by have:=I.w.ent_nn hi (O7 hi); omega);refine ⟨w',Ca.make I.w I.c hi (by omega) w',?_⟩;obtain ⟨m,a1,a2,a3⟩:=I.s;refine ⟨m + 1,by omega,?_,?_⟩
 ·rw [Qde I.w.sz hi (O7 hi),bM hi,bM rfl];omega
 ·rw [Qdb I.w.sz hi (O7 hi),show t + 1 - (m + 1)=t - m by omega];have:((t - m:Nat):Int) * (6 * ((m + 1:Nat):Int))=((t - m:Nat):Int) * (6 * m) + ((t - m:Nat):Int) * 6:=by
   rw [show (6:Int) * ((m + 1:Nat):Int)=6 * m + 6 by omega,Int.mul_add]
  omega
theorem SmI.give {t i:Nat} {tb:Tab} (I:SmI n t tb) (hi:i < n) (hj:j<=n) (hne:j≠i) {k:Int} (h1:1<=k) (hk:k<=Q8 tb i):SmI n (t + 1) (Yg tb i j (ent tb i j + k)):=by
 have w':Wt' n (Yg tb i j (ent tb i j + k)):=Wt'.set0 I.w hi (by have:=I.w.ent_nn hi hj; omega);refine ⟨w',Ca.give I.w I.c hi hj hne (by omega) hk (by omega) w',?_⟩;obtain ⟨m,a1,a2,a3⟩:=I.s;have h2:=Qa5 (fun o ho=>I.c.nn o ho) hi;refine ⟨m,by omega,?_,?_⟩
 ·rw [Qde I.w.sz hi hj,bN hne]
  split <;> omega
 ·rw [Qdb I.w.sz hi hj,show t + 1 - m=(t - m) + 1 by omega,Qzk];omega
theorem SmI.tot {t:Nat} {tb:Tab} (I:SmI n t tb) (ht:t<=12):Q3h n tb<=300:=by
 obtain ⟨m,a1,_,a3⟩:=I.s;have key:∀ m:Nat,m<=12->6 * m + (12 - m) * (6 * m)<=300:=by decide
 have h1:=key m (by omega);have h2:(t - m) * (6 * m)<=(12 - m) * (6 * m):=Nat.mul_le_mul_right _ (by omega);have e:((t - m:Nat):Int) * (6 * m)=(((t - m) * (6 * m):Nat):Int):=by push_cast; rfl
 rw [e] at a3;omega
abbrev smG (L n:Nat) (tb:Tab) (c3 c4 c5 c6:Option PV):Gam:=[some (.ref L),some (.int n),some (Q3 tb),c3,c4,c5,c6]
theorem Qbm {t:Nat} {tb:Tab} (T:Tp S L) (I:SmI n t tb) (ht:t<=12) (c3 c4 c5 c6:Option PV):∃ (tb':Tab) (S':Q0) (d4 d5 d6:Option PV),SmI n (t + 1) tb'/\Tp S' L/\Mv L S S'/\Uf (smG L n tb c3 c4 c5 c6) S=.nx (smG L n tb' c3 d4 d5 d6) S':=by
 have w:=I.w;have h1:=w.n1;have h8:=w.n8;obtain ⟨i,S1,hi,T1,M1,e1⟩:=Vd T n h1 (by omega);obtain ⟨y,S2,hy,T2,M2,e2⟩:=Vd T1 4 (by decide) (by decide);have e2:Qg [.ref L,.int 4] S1=.ok (.int y) S2:=e2;have e3:=Q6c w.sz (by omega) hi S2;obtain ⟨r,hr⟩:∃ r:Nat,Q8 tb i=(r:Int):=⟨(Q8 tb i).toNat,by have:=I.c.nn i hi; omega⟩;rw [hr] at e3;have hr72:=I.rights ht hi;rw [hr] at hr72;have M12:=M1.trans M2;have k1:Jg 4 (Qb 2 Qg (Q1 (Q2 0) (Q1 (Q2 1) Q6))) (smG L n tb c3 c4 c5 c6) S=.nx (smG L n tb c3 (some (.int i)) c5 c6) S1:=Y4 (Qr (n:=2) (Q4 rfl (Q4 rfl rfl)) rfl e1);have k2:Jg 5 (Qb 2 Qg (Q1 (Q2 0) (Q1 (mC (.int 4)) Q6))) (smG L n tb c3 (some (.int i)) c5 c6) S1=.nx (smG L n tb c3 (some (.int i)) (some (.int y)) c6) S2:=Y4 (Qr (n:=2) (Q4 rfl (Q4 rfl rfl)) rfl e2);have k3:Jg 6 (Qb 2 Yb (Q1 (Q2 2) (Q1 (Q2 4) Q6))) (smG L n tb c3 (some (.int i)) (some (.int y)) c6) S2=.nx (smG L n tb c3 (some (.int i)) (some (.int y)) (some (.int r))) S2:=Y4 (Qr (n:=2) (Q4 rfl (Q4 rfl rfl)) rfl e3)
 by_cases q:y=0\/r=0
 ·obtain ⟨k,S3,hk,T3,M3,e4⟩:=Vd T2 6 (by decide) (by decide);have e4:Qg [.ref L,.int 6] S2=.ok (.int k) S3:=e4;have e5:=yx w.sz (by omega) hi (O7 hi) (1 + (k:Int)) S3;refine ⟨_,S3,_,_,_,I.make hi (show (1:Int)<=1 + (k:Int) by omega) (by omega),T3,M12.trans M3,Qj k1 (Qj k2 (Qj k3 (Q9h ?_ (Y4 (Qr (n:=4) (Q4 rfl (Q4 rfl (Q4 rfl (Q4 (Qf rfl (Qr (n:=2) (Q4 rfl (Q4 rfl rfl)) rfl e4) (Qa3 S3 _ _)) rfl)))) rfl e5)))))⟩
  by_cases q1:y=0
  ·exact Qzf (Y7 (Qf rfl rfl (Qqv S2 (by omega))))
  ·exact Qnm (Y7 (Qf rfl rfl (Qk2 S2 (by omega)))) (Y7 (Qf rfl rfl (Qqv S2 (by omega))))
 ·have hr1:1<=r:=by omega
  have t1:Q2f (toB (mOp oEq (Q2 5) (mC (.int 0)))) (toB (mOp oEq (Q2 6) (mC (.int 0)))) (smG L n tb c3 (some (.int i)) (some (.int y)) (some (.int r))) S2=.ok false S2:=Qnm (Y7 (Qf rfl rfl (Qk2 S2 (by omega)))) (Y7 (Qf rfl rfl (Qk2 S2 (by omega))))
  by_cases q2:y < 3/\1 < n
  ·obtain ⟨z,S3,hz,T3,M3,e4⟩:=Vd T2 (n - 1) (by omega) (by omega);have e4:Qg [.ref L,.int ((n:Int) - 1)] S2=.ok (.int z) S3:=by rw [show ((n:Int) - 1)=((n - 1:Nat):Int) by omega]; exact e4
   obtain ⟨j,ej,hj,hne⟩:=Qnj hi hz;obtain ⟨x,S4,hx,T4,M4,e5⟩:=Vd T3 r hr1 (by omega);have e6:=yx w.sz (by omega) hi (O7 hj) (1 + (x:Int)) S4;refine ⟨_,S4,_,_,_,I.give hi (O7 hj) hne (show (1:Int)<=1 + (x:Int) by omega) (by rw [hr]; omega),T4,(M12.trans M3).trans M4,Qj k1 (Qj k2 (Qj k3 (jm t1 (Q9h (Qqw (Y7 (Qf rfl rfl (Qqt S2 (by omega)))) (Y7 (Qf rfl rfl (Qx6 S2 (by omega))))) (Y4 (Qr (n:=4) (Q4 rfl (Q4 rfl (Q4 (Qf (Qf (Qf rfl rfl (Qa3 S2 _ _)) (Qr (n:=2) (Q4 rfl (Q4 (Qf rfl rfl (Qz7 S2 _ _)) rfl)) rfl e4) (Qa3 S3 _ _)) rfl ?_) (Q4 (Qf rfl (Qr (n:=2) (Q4 rfl (Q4 rfl rfl)) rfl e5) (Qa3 S4 _ _)) rfl)))) rfl e6))))))⟩;rw [Qzn S3 (by omega),ej]
  ·obtain ⟨x,S4,hx,T4,M4,e5⟩:=Vd T2 r hr1 (by omega);have e6:=yx w.sz (by omega) hi (O4 n) (1 + (x:Int)) S4;have t2:Q1j (toB (mOp oLt (Q2 5) (mC (.int 3)))) (toB (mOp (oI fun a b=>.bl (decide (b < a))) (Q2 1) (mC (.int 1)))) (smG L n tb c3 (some (.int i)) (some (.int y)) (some (.int r))) S2=.ok false S2:=by
    by_cases q3:y < 3
    ·exact Qqw (Y7 (Qf rfl rfl (Qqt S2 (by omega)))) (Y7 (Qf rfl rfl (Qx7 S2 (by omega))))
    ·exact Qxu (Y7 (Qf rfl rfl (Qwx S2 (by omega))))
   exact ⟨_,S4,_,_,_,I.give hi (O4 n) (by omega) (show (1:Int)<=1 + (x:Int) by omega) (by rw [hr]; omega),T4,M12.trans M4,Qj k1 (Qj k2 (Qj k3 (jm t1 (jm t2 (Y4 (Qr (n:=4) (Q4 rfl (Q4 rfl (Q4 rfl (Q4 (Qf rfl (Qr (n:=2) (Q4 rfl (Q4 rfl rfl)) rfl e5) (Qa3 S4 _ _)) rfl)))) rfl e6))))))⟩
theorem Q39 {i:Nat} (h1:1<=n) (h8:n<=8) (hi:i < n):Q8 (List.replicate n (W0 n)) i=0:=by
 rw [Wa (Q3v h1 h8).sz hi,Qi (g:=fun _=>0) fun o ho=>Q2a ho (O7 hi),Qi (f:=fun j=>ent _ i j) (g:=fun _=>0) fun o ho=>Q2a hi (O7 ho),Q2a hi (O4 n),Q2a hi (O7 hi)]
 omega
theorem SmI.zero (h1:1<=n) (h8:n<=8):SmI n 0 (List.replicate n (W0 n)):=by
 have w0:=Q3v h1 h8;refine ⟨w0,Ca.zero h1 h8 w0,0,O4 0,?_,?_⟩
 ·rw [Qi (g:=fun _=>0) fun i hi=>Q39 h1 h8 hi,Vg]; decide
 ·unfold Q3h;rw [Qi (g:=fun _=>0) fun i hi=>by
   rw [D9,F8,bM hi,Option.getD_some];simp [W0],Vg]
  decide
theorem Qh0 (T:Tp S L):∃ (n:Nat) (tb:Tab) (S':Q0),SmI n 12 tb/\Mv L S S'/\Uc [.ref L] S=.ok (Q3 tb) S':=by
 obtain ⟨a,S1,ha,T1,M1,e1⟩:=Vd T 8 (by decide) (by decide);have e1:Qg [.ref L,.int 8] S=.ok (.int a) S1:=e1;obtain ⟨n,en⟩:∃ n:Nat,1 + a=n:=⟨_,rfl⟩;obtain ⟨m,S2,hm,T2,M2,e2⟩:=Vd T1 13 (by decide) (by decide);have e2:Qg [.ref L,.int 13] S1=.ok (.int m) S2:=e2;obtain ⟨Γ',S',e,tb,c3,c4,c5,c6,rfl,I,T',M⟩:=qm (g:=fun k:Nat=>PV.int (k:Int)) (xs:=List.range m) (ga:=Qc 3) (body:=Uf) (w:=[]) (Γ:=smG L n (List.replicate n (W0 n)) none none none none) (st:=S2)
  (fun t Γ st=>∃ tb c3 c4 c5 c6,Γ=smG L n tb c3 c4 c5 c6/\SmI n t tb/\Tp st L/\Mv L S2 st) (fun _ _ _ _=>by simp)
  (fun t x Γ st hx ⟨tb,c3,c4,c5,c6,hΓ,I,T,M⟩=>by
   subst hΓ;have htm:t < m:=by simpa using (O1.mp hx).1
   obtain ⟨tb',S',d4,d5,d6,I',T',M',e⟩:=Qbm T I (by omega) (some (.int x)) c4 c5 c6;exact ⟨_,rfl,_,_,e,_,_,_,_,_,rfl,I',T',M.trans M'⟩)
  ⟨_,_,_,_,_,rfl,SmI.zero (by omega) (by omega),T2,Mv.refl L S2⟩
 rw [F4] at I;rw [<- V4] at e;have up:SmI n 12 tb:=by
  obtain ⟨w,c,mm,a1,a2,a3⟩:=I;refine ⟨w,c,mm,by omega,a2,Int.le_trans a3 ?_⟩;have h2:(m - mm) * (6 * mm)<=(12 - mm) * (6 * mm):=Nat.mul_le_mul_right _ (by omega);have e1:((m - mm:Nat):Int) * (6 * mm)=(((m - mm) * (6 * mm):Nat):Int):=by push_cast; rfl
  have e2:((12 - mm:Nat):Int) * (6 * mm)=(((12 - mm) * (6 * mm):Nat):Int):=by push_cast; rfl
  rw [e1,e2];omega
 have hd1:Jg 1 (mOp Wb (mC (.int 1)) (Qb 2 Qg (Q1 (Q2 0) (Q1 (mC (.int 8)) Q6)))) [some (.ref L),none,none,none,none,none,none] S=.nx [some (.ref L),some (.int n),none,none,none,none,none] S1:=by
  rw [show (n:Int)=1 + (a:Int) by omega];exact Y4 (Qf rfl (Qr (n:=2) (Q4 rfl (Q4 rfl rfl)) rfl e1) (Qa3 S1 _ _))
 have MM:=(M1.trans M2).trans M;have hrg:Yi (Q1 (Qb 2 Qg (Q1 (Q2 0) (Q1 (mC (.int 13)) Q6))) Q6) (smG L n (List.replicate n (W0 n)) none none none none) S1=.ok (Zu 0 m,[]) S2:=by
  rw [qk,Q4 (Qr (n:=2) (Q4 rfl (Q4 rfl rfl)) rfl e2) (show Q6 _ S2=.ok [] S2 from rfl),J2];show (if -(lim:Int)<=(m:Int)/\(m:Int)<=lim then _ else _)=_;rw [bM (by rw [Qp]; omega),Int.toNat_natCast]
 have step:jj [some (.ref L),none,none,none,none,none,none] S=.rt (Q3 tb) S':=
  Qj hd1 (Qj (Y4 (Qr (n:=1) (Q4 rfl rfl) rfl (Qkt (by omega) S1))) (Qj (Q1f hrg e) rfl))
 exact ⟨n,tb,S',up,MM,(ze step).trans (Qgd MM.len (by simp [Z6,Q3,Qh]))⟩
theorem Qpx {ys:List PV} (h:S[L]?=some (.lst xs)) (hl:xs.length + ys.length<=1000000):Wj S (.ref L) [.lst ys]=.ok .non (S.set L (.lst (xs ++ ys))):=by
 unfold Wj;show (match yz S (.lst ys) with | some ys=>chg S (.ref L) fun xs=>if xs.length + ys.length<=lim then some (.non,xs ++ ys) else none | none=>.stuck)=_
 show chg S (.ref L) (fun xs=>if xs.length + ys.length<=lim then some (.non,xs ++ ys) else none)=_
 simp only [chg,h];rw [bM (show xs.length + ys.length<=lim from hl)]
theorem Qtm (h:S[L]?=some (.lst xs)):U7 S (.ref L)=some xs:=by
 show (match S[L]? with | some (.lst xs)=>some xs | _=>none)=_
 rw [h]
def jx (n:Nat) (l:Nat) (xs:List Sp2):Nat:=xs.foldl (fun l x=>if isL n x=true then l + 1 else l) l
theorem Qae (n:Nat):∀ (xs:List Sp2) (l:Nat) (x:Sp2),Yp n l (xs ++ [x])=Yp n l xs ++ Yp n (jx n l xs) [x]
 | [],_,_=>rfl
 | y :: xs,l,x=>by
  rw [List.cons_append,Q1p n l y (xs ++ [x]),Qae n xs _ x,Q1p n l y xs,L5]; rfl
abbrev lG (c0 c1 c2 c3 c4 c5 c6 c7 c8 c9 c10 c11 c12 c13 c14 c15:Option PV):Gam:=[c0,c1,c2,c3,c4,c5,c6,c7,c8,c9,c10,c11,c12,c13,c14,c15]
theorem Qpg {C:aA} {R:Nat} {pre:List Sp2} {x:Sp2} (hl:pre.length < 100) (hS:S[R]?=some (.lst ((Yp n 0 pre).map Dx.V))) (c0 c1 c2 c3 c4 c5 c6 c7 c11 c12 c13 c14 c15:Option PV) :
  ∃ S',Q48 C (lG c0 c1 c2 c3 c4 c5 c6 c7 (some (.ref R)) (some (.int (jx n 0 pre:Nat))) (some (spV n x)) c11 c12 c13 c14 c15) S=.nx (lG c0 c1 c2 c3 c4 c5 c6 c7 (some (.ref R)) (some (.int (jx n 0 (pre ++ [x]):Nat))) (some (spV n x)) c11 c12 c13 c14 c15) S'/\S'[R]?=some (.lst ((Yp n 0 (pre ++ [x])).map Dx.V))/\S'.length=S.length/\∀ t,t≠R->S'[t]?=S[t]?:=by
 have hlen:=Q8v n pre 0;have hRl:=(O1.mp hS).1;obtain ⟨xs,hxs⟩:∃ xs,(Yp n 0 pre).map Dx.V=xs:=⟨_,rfl⟩;have hxl:xs.length<=400:=by rw [<- hxs,O2]; omega
 rw [hxs] at hS;obtain ⟨S1,hS1⟩:∃ S1,S.set R (.lst (xs ++ [spV n x]))=S1:=⟨_,rfl⟩;have c1S:S1[R]?=some (.lst (xs ++ [spV n x])):=by rw [<- hS1]; exact D7 hRl
 have k1:=Q9x (f:=Wk) (mo:=Q2 8) (mr:=Q1 (Q2 10) Q6) (Γ:=lG c0 c1 c2 c3 c4 c5 c6 c7 (some (.ref R)) (some (.int (jx n 0 pre:Nat))) (some (spV n x)) c11 c12 c13 c14 c15) (S:=S) rfl (Qtm hS) (Q4 rfl rfl) (Q9y hS (by omega) (spV n x));rw [hS1] at k1;have old1:∀ t,t≠R->S1[t]?=S[t]?:=fun t ht=>by rw [<- hS1,D5 (fun z=>ht z.symm)]
 have len1:S1.length=S.length:=by rw [<- hS1,F2]
 have ec:jx n 0 (pre ++ [x])=if isL n x=true then jx n 0 pre + 1 else jx n 0 pre:=by unfold jx; rw [List.foldl_append]; rfl
 rw [Qae,G6,hxs,ec]
 by_cases hL:isL n x=true
 ·obtain ⟨h,p⟩:=x;cases p with
  | none=>cases hL
  | some pl=>
   have hpl:pl≠n:=of_decide_eq_true hL;have ev:spV n (h,some pl)=.tup [.str "lend",.int h,.int pl,.int 1]:=by
    show stV n (h,pl)=_;unfold stV; rw [bN hpl]
   have er:Yp n (jx n 0 pre) [(h,some pl)]=[.own (toD n (h,some pl)),.kp h,.sd h,.cm (jx n 0 pre) pl]:=by
    show (if pl=n then _ else _)=_;rw [bN hpl]; rfl
   rw [er,bM hL];have eV:([.own (toD n (h,some pl)),.kp h,.sd h,.cm (jx n 0 pre) pl]:List Dx).map Dx.V=[spV n (h,some pl),.tup [.str "keep",.int h],.tup [.str "send",.int h],.tup [.str "come",.int (jx n 0 pre:Nat),.int pl]]:=by
    show [(toD n (h,some pl)).V,_,_,_]=_;rw [Qqb]; rfl
   rw [eV];have k2:=Qpx (ys:=[.tup [.str "keep",.int h],.tup [.str "send",.int h],.tup [.str "come",.int (jx n 0 pre:Nat),.int pl]]) c1S (by simp; omega);refine ⟨S1.set R (.lst (xs ++ [spV n (h,some pl)] ++ [.tup [.str "keep",.int h],.tup [.str "send",.int h],.tup [.str "come",.int (jx n 0 pre:Nat),.int pl]])),Qj k1 (Q9h (Y7 (Qf (Qf rfl rfl (show oIx S1 (spV n (h,some pl)) (.int 0)=.ok (.str "lend") S1 by rw [ev]; rfl)) rfl (Q85 S1 _))) (Qj (Q9x rfl (Qtm c1S) (Q4 (Qd9 (Q4 (xh (Q4 rfl (Q4 (Qf rfl rfl (show oIx S1 (spV n (h,some pl)) (.int 1)=.ok (.int h) S1 by rw [ev]; rfl)) rfl)) (show 2<=1000000 by decide)) (Q4 (xh (Q4 rfl (Q4 (Qf rfl rfl (show oIx S1 (spV n (h,some pl)) (.int 1)=.ok (.int h) S1 by rw [ev]; rfl)) rfl)) (show 2<=1000000 by decide)) (Q4 (xh (Q4 rfl (Q4 rfl (Q4 (Qf rfl rfl (show oIx S1 (spV n (h,some pl)) (.int 2)=.ok (.int pl) S1 by rw [ev]; rfl)) rfl))) (show 3<=1000000 by decide)) rfl))) (show 3<=1000000 by decide)) rfl) k2) (Y4 (Qf rfl rfl (Qa3 _ _ _))))),?_,?_,?_⟩
   ·rw [D7 (by rw [len1]; exact hRl),L5]; rfl
   ·rw [F2,len1]
   ·intro t ht;rw [D5 (fun z=>ht z.symm)]; exact old1 t ht
 ·have er:Yp n (jx n 0 pre) [x]=[.own (toD n x)]:=by
   obtain ⟨h,p⟩:=x;cases p with
   | none=>rfl
   | some pl=>
    have:¬ pl≠n:=fun z=>hL (bP z)
    show (if pl=n then _ else _)=_;rw [bM (by omega)]; rfl
  rw [er,bN hL];have eV:([.own (toD n x)]:List Dx).map Dx.V=[spV n x]:=by show [(toD n x).V]=_; rw [Qqb]
  rw [eV];obtain ⟨wd,e0,hne⟩:∃ wd:Str,oIx S1 (spV n x) (.int 0)=.ok (.str wd) S1/\¬ wd=Str.ofString "lend" := by
   obtain ⟨h,p⟩:=x;cases p with
   | none=>exact ⟨_,rfl,J8⟩
   | some pl=>
    have:¬ pl≠n:=fun z=>hL (bP z)
    have ev:spV n (h,some pl)=.tup [.str "use",.int h,.int 1]:=by
     show stV n (h,pl)=_;unfold stV; rw [bM (by omega)]
    exact ⟨_,by rw [ev]; rfl,Jh⟩
  exact ⟨S1,Qj k1 (jm (Y7 (Qf (Qf rfl rfl e0) rfl (Q0x S1 hne))) rfl),c1S,len1,old1⟩
theorem Qb9 {n:Nat} {G:Tab} (wG:Wt' n G):∀ (ts:List Tab) {J:Tab},Sz n J->(∀ t∈ts,Sz n t)->(∀ a b,a < n->b<=n->ent J a b<=ent G a b)->(∀ t∈ts,∀ a b,a < n->b<=n->ent t a b<=ent G a b) ->
  Sz n (ts.foldl W3 J)/\(∀ a b,a < n->b<=n->ent (ts.foldl W3 J) a b<=ent G a b/\ent J a b<=ent (ts.foldl W3 J) a b/\∀ t∈ts,ent t a b<=ent (ts.foldl W3 J) a b)
 | [],J,zJ,_,hJ,_=>⟨zJ,fun a b ha hb=>⟨hJ a b ha hb,Int.le_refl _,fun _ h=>by cases h⟩⟩
 | t :: ts,J,zJ,zt,hJ,ht=>by
  have z1:=zt t (by simp);have e:=fun a b (ha:a < n) (hb:b<=n)=>qr zJ z1 ha hb
  obtain ⟨h1,h2⟩:=Qb9 wG ts (Q8k zJ z1) (fun u hu=>zt u (O6 _ hu)) (fun a b ha hb=>by
   rw [e a b ha hb];rcases Q41 (ent J a b) (ent t a b) with q | q
   ·rw [q]; exact hJ a b ha hb
   ·rw [q]; exact ht t (by simp) a b ha hb) (fun u hu=>ht u (O6 _ hu))
  refine ⟨h1,fun a b ha hb=>?_⟩;obtain ⟨g1,g2,g3⟩:=h2 a b ha hb;rw [e a b ha hb] at g2;refine ⟨g1,Int.le_trans (Qcm _ _) g2,fun u hu=>?_⟩;rcases E7.mp hu with rfl | hu
  ·exact Int.le_trans (Qje _ _) g2
  ·exact g3 u hu
theorem Qtc (g:Z6 dep v=true) (hd:der S v=v):oNe S v v=.ok (.bl false) S:=by
 have hp:peq v v=true:=Q1r g;unfold oNe;rw [hd];simp [g,hp]
theorem Qtb (S:Q0):oNe S (.lst []) (.lst [])=.ok (.bl false) S:=Qtc rfl rfl
theorem Qpz (xs:List α) (a k:Nat):cut xs (some (a:Int)) (some ((a + k:Nat):Int))=(xs.drop a).take k:=by
 unfold cut;rw [HT.sIx_nat,HT.sIx_nat];rcases Nat.le_total a xs.length with h | h
 ·rw [Nat.min_eq_left h];rcases Nat.le_total (a + k) xs.length with h2 | h2
  ·rw [Nat.min_eq_left h2,Nat.add_sub_cancel_left]
  ·rw [Nat.min_eq_right h2,List.take_of_length_le (by rw [List.length_drop]; omega),List.take_of_length_le (by rw [List.length_drop]; omega)]
 ·rw [Nat.min_eq_right h,List.drop_of_length_le (O4 _),List.drop_of_length_le h]; simp
theorem Qey {J:Tab} (I:PrI n s G l) (zJ:Sz n J) (hJ:∀ a b,a < n->b<=n->ent J a b<=ent G a b):s.now.foldl W3 J=G:=by
 have mem:∀ t∈s.now,∃ i,i < n/\t=s.now.getD i []:=fun t ht=>by
  obtain ⟨i,hi⟩:=List.getElem?_of_mem ht;have hl:=(O1.mp hi).1;exact ⟨i,by rw [<- I.r.ln]; exact hl,by rw [D9,hi]; rfl⟩
 obtain ⟨h1,h2⟩:=Qb9 I.w s.now zJ (fun t ht=>by
  obtain ⟨i,hi,rfl⟩:=mem t ht;exact (I.r.wn i hi).sz) hJ (fun t ht a b ha hb=>by
  obtain ⟨i,hi,rfl⟩:=mem t ht;exact I.le i a b hi ha hb)
 refine Qdc h1 I.w.sz fun a b ha hb=>?_
 obtain ⟨g1,_,g3⟩:=h2 a b ha hb;refine Int.le_antisymm g1 ?_;have hl:a < s.now.length:=by rw [I.r.ln]; exact ha
 have hm:s.now.getD a []∈s.now:=by rw [D9,O3 hl]; exact List.getElem_mem hl
 have:=g3 _ hm;rw [I.row a b ha hb] at this;exact this
theorem Qeb {n:Nat}:∀ (ys:List Sp2) {J:Tab},Wt' n J->Ca n J->OkG n J ys->∀ a b,ent J a b<=ent (ys.foldl stR J) a b
 | [],_,_,_,_,_,_=>Int.le_refl _
 | x :: ys,J,w,c,o,a,b=>by
  obtain ⟨w',c'⟩:=Q8n w c o.1.1 o.1.2;exact Int.le_trans (Qbx w.sz o.1.1 a b) (Qeb ys w' c' o.2 a b)
theorem Qq4 {C:aA} {P q:Nat} {xs:List Sp2} {J:Tab} (hP:S[P]?=some (.lst (xs.map (spV n)))) (hxl:xs.length<=300) (w:Wt' n J) (c:Ca n J) (ok:OkG n J (xs.drop (60 * q))) (c0 c1 c2 c3 c4 c8 c9 c10 c11 c12 c13 c14 c15:Option PV) :
  ∃ S' d8 d9 d10 d11 d12 d13,Q49 C (lG c0 c1 c2 c3 c4 (some (Q3 J)) (some (.ref P)) (some (.int (0 + (q:Int) * 60))) c8 c9 c10 c11 c12 c13 c14 c15) S=.nx (lG c0 c1 c2 c3 c4 (some (Q3 (((xs.drop (60 * q)).take 60).foldl stR J))) (some (.ref P)) (some (.int (0 + (q:Int) * 60))) d8 d9 d10 d11 d12 d13 c14 c15) S'/\S'[P]?=some (.lst (xs.map (spV n))):=by
 obtain ⟨ys,hys⟩:∃ ys,(xs.drop (60 * q)).take 60=ys:=⟨_,rfl⟩;have hyl:ys.length<=60:=by rw [<- hys,List.length_take]; omega
 have oky:OkG n J ys:=by
  rw [<- List.take_append_drop 60 (xs.drop (60 * q)),hys] at ok;exact ((Q93 _ _).mp ok).1
 rw [hys];have hPl:=(O1.mp hP).1;have n1:=w.n1;have n8:=w.n8;obtain ⟨R,hR⟩:∃ R,S.length=R:=⟨_,rfl⟩;obtain ⟨S1,hS1⟩:∃ S1,S ++ [Cell.lst []]=S1:=⟨_,rfl⟩;have l1:S1.length=R + 1:=by rw [<- hS1,D0,hR]; rfl
 have P1:S1[P]?=some (.lst (xs.map (spV n))):=by rw [<- hS1,O9 hPl]; exact hP
 have R1:S1[R]?=some (.lst []):=by rw [<- hS1,<- hR]; simp
 have hPR:P≠R:=by omega
 have k8:Jg 8 (Q1z (yy Q6)) (lG c0 c1 c2 c3 c4 (some (Q3 J)) (some (.ref P)) (some (.int (0 + (q:Int) * 60))) c8 c9 c10 c11 c12 c13 c14 c15) S=.nx (lG c0 c1 c2 c3 c4 (some (Q3 J)) (some (.ref P)) (some (.int (0 + (q:Int) * 60))) (some (.ref R)) c9 c10 c11 c12 c13 c14 c15) S1:=by
  rw [<- hS1,<- hR]; exact Y4 (Q8g rfl)
 have sl:Kc (mSl (Q2 6) (Xc (Q2 7)) (Xc (mOp Wb (Q2 7) (mC (.int 60))))) (lG c0 c1 c2 c3 c4 (some (Q3 J)) (some (.ref P)) (some (.int (0 + (q:Int) * 60))) (some (.ref R)) (some (.int 0)) c10 c11 c12 c13 c14 c15) S1=.ok (ys.map (spV n),[]) S1:=by
  refine Q7c (p:=.lst (ys.map (spV n))) ?_ rfl (by rw [O2]; omega);rw [Qte];show (Res.ok (PV.ref P) S1).bind _=_;rw [J2];show (Res.ok (some (0 + (q:Int) * 60)) S1).bind _=_;rw [J2];show (Res.ok (some (0 + (q:Int) * 60 + 60)) S1).bind _=_;rw [J2];show (match U7 S1 (.ref P) with | some xs=>Res.ok (PV.lst (cut xs (some (0 + (q:Int) * 60)) (some (0 + (q:Int) * 60 + 60)))) S1 | none=>.stuck)=_
  rw [Qtm P1];show Res.ok (PV.lst (cut (xs.map (spV n)) (some (0 + (q:Int) * 60)) (some (0 + (q:Int) * 60 + 60)))) S1=_;rw [show (0 + (q:Int) * 60)=((60 * q:Nat):Int) by omega,show (((60 * q:Nat):Int) + 60)=((60 * q + 60:Nat):Int) by omega,Xz,Qpz,hys]
 obtain ⟨Γ',S2,e2,⟨d10,rfl⟩,R2,l2,old2⟩:=Q35 (g:=spV n) (xs:=ys) (ga:=Qc 10) (body:=Q48 C) (w:=[]) (Γ:=lG c0 c1 c2 c3 c4 (some (Q3 J)) (some (.ref P)) (some (.int (0 + (q:Int) * 60))) (some (.ref R)) (some (.int 0)) c10 c11 c12 c13 c14 c15) (st:=S1)
  (I:=fun pre Γ st=>(∃ d10,Γ=lG c0 c1 c2 c3 c4 (some (Q3 J)) (some (.ref P)) (some (.int (0 + (q:Int) * 60))) (some (.ref R)) (some (.int (jx n 0 pre:Nat))) d10 c11 c12 c13 c14 c15)/\st[R]?=some (.lst ((Yp n 0 pre).map Dx.V))/\st.length=S1.length/\∀ t,t≠R->st[t]?=S1[t]?) (fun _ _ st _=>Xu st)
  (fun pre x post Γ st hx ⟨⟨d10,hΓ⟩,h1,h2,h3⟩=>by
   subst hΓ;have hpl:pre.length < 100:=by have:=congrArg List.length hx; simp at this; omega
   obtain ⟨S',e,g1,g2,g3⟩:=Qpg (C:=C) (x:=x) hpl h1 c0 c1 c2 c3 c4 (some (Q3 J)) (some (.ref P)) (some (.int (0 + (q:Int) * 60))) c11 c12 c13 c14 c15;exact ⟨_,rfl,_,_,e,⟨_,rfl⟩,g1,g2.trans h2,fun t ht=>(g3 t ht).trans (h3 t ht)⟩)
  ⟨⟨c10,rfl⟩,R1,rfl,fun _ _=>rfl⟩
 have P2:S2[P]?=some (.lst (xs.map (spV n))):=by rw [old2 P hPR]; exact P1
 obtain ⟨okl,ans,l',I⟩:=PrI.run ys (PrI.start w c) oky;have rl:=Q8v n ys 0;obtain ⟨S3,e3,l3,old3,A3,B3⟩:=Qfg (C:=C) w c (S:=S2) (DV:=.ref R) (xs:=Yp n 0 ys) (wt:=[(R,.lst ((Yp n 0 ys).map Dx.V))]) (fun st hst=>by
  have:st[R]?=some (.lst ((Yp n 0 ys).map Dx.V)):=by rw [hst R (by rw [l2,l1]; omega)]; exact R2
  exact ⟨Q2g this,fun y hy=>by rw [List.mem_singleton.mp hy]; exact this⟩) (by omega) okl
 obtain ⟨A,hA⟩:∃ A,S2.length + n + 1=A:=⟨_,rfl⟩;obtain ⟨B,hB⟩:∃ B,S2.length + n + 2=B:=⟨_,rfl⟩;rw [hA] at e3 A3;rw [hB] at e3 B3;have P3:S3[P]?=some (.lst (xs.map (spV n))):=by rw [old3 P (by rw [l2,l1]; omega)]; exact P2
 obtain ⟨as,has⟩:∃ as,Q0v n (s0 n J) (Yp n 0 ys)=as:=⟨_,rfl⟩;rw [has] at ans A3;have asl:as.length<=1000000:=by rw [<- has,Qa0]; omega
 obtain ⟨s,hs⟩:∃ s,K9 n (s0 n J) (Yp n 0 ys)=s:=⟨_,rfl⟩;rw [hs] at B3 I;have cf:=Xq (ga:=Qc 0) (mt:=Q8i C) (me:=Q9n C) (w:=[(A,.lst as)]) (Γ0:=J1 [none] (lG c0 c1 c2 c3 c4 (some (Q3 J)) (some (.ref P)) (some (.int (0 + (q:Int) * 60))) (some (.ref R)) (some (.int (jx n 0 ys:Nat))) d10 (some (.ref A)) (some (.ref B)) c13 c14 c15)) (st:=S3) (g:=fun v:PV=>v) (f:=fun v=>v) (t:=fun _=>false) (ys:=as) (fun y hy=>by rw [List.mem_singleton.mp hy]; exact A3) fun v hv=>⟨[some v],rfl,by
  rw [ans v hv];exact Y7 (Qf rfl rfl (show oNe S3 (.str "done") (.str "done")=.ok (.bl false) S3 by simp)),fun h=>by cases h⟩
 rw [List.map_id',List.filter_eq_nil_iff.mpr (fun _ _ h=>by cases h)] at cf;obtain ⟨Γ',S4,e4,⟨d13,rfl⟩,hS4⟩:=Q35 (g:=Q3) (xs:=s.now) (ga:=Qc 13) (body:=Q9w C) (w:=[(B,.lst (s.now.map Q3))]) (Γ:=lG c0 c1 c2 c3 c4 (some (Q3 J)) (some (.ref P)) (some (.int (0 + (q:Int) * 60))) (some (.ref R)) (some (.int (jx n 0 ys:Nat))) d10 (some (.ref A)) (some (.ref B)) c13 c14 c15) (st:=S3)
  (I:=fun pre Γ st=>(∃ d13,Γ=lG c0 c1 c2 c3 c4 (some (Q3 (pre.foldl W3 J))) (some (.ref P)) (some (.int (0 + (q:Int) * 60))) (some (.ref R)) (some (.int (jx n 0 ys:Nat))) d10 (some (.ref A)) (some (.ref B)) d13 c14 c15)/\st=S3) (fun _ _ st ⟨_,h⟩=>by
   rw [h];exact fun y hy=>by rw [List.mem_singleton.mp hy]; exact B3)
  (fun pre t post Γ st hx ⟨⟨d13,hΓ⟩,hst⟩=>by
   subst hΓ;rw [hst];have mem:∀ t∈s.now,Sz n t:=fun t ht=>by
    obtain ⟨i,hi⟩:=List.getElem?_of_mem ht;have hl:=(O1.mp hi).1;have:t=s.now.getD i []:=by rw [D9,hi]; rfl
    rw [this]; exact (I.r.wn i (by rw [<- I.r.ln]; exact hl)).sz
   have zf:∀ (us:List Tab) {K:Tab},Sz n K->(∀ t∈us,Sz n t)->Sz n (us.foldl W3 K):=fun us=>by
    induction us with
    | nil=>exact fun {K} z _=>z
    | cons u us ih=>exact fun {K} z h=>ih (Q8k z (h u (by simp))) fun t ht=>h t (O6 _ ht)
   have z1:Sz n (pre.foldl W3 J):=zf pre w.sz fun t ht=>mem t (by rw [hx]; simp [ht])
   have z2:Sz n t:=mem t (by rw [hx]; simp);have ej:=Q7z (a:=pre.foldl W3 J) (b:=t) (by rw [z1.1,z2.1]) (by rw [z1.1,Qp]; omega) (fun r hr=>by rw [z1.2 r hr,Qp]; omega) S3;refine ⟨_,rfl,_,_,Y4 (Qr (n:=2) (Q4 rfl (Q4 rfl rfl)) rfl ej),⟨some (Q3 t),?_⟩,rfl⟩;rw [List.foldl_append]; rfl)
  ⟨⟨c13,rfl⟩,rfl⟩
 have ej:=Qey I w.sz fun a b _ _=>Qeb ys w c oky a b
 rw [ej,hS4] at e4;have hnl:(s.now.map Q3).length<=1000000:=by rw [O2,I.r.ln]; omega
 refine ⟨S3,some (.ref R),some (.int (jx n 0 ys:Nat)),d10,some (.ref A),some (.ref B),d13,Qj k8 (Qj rfl (Qj (Q1f sl e2) (Qj (Qug (Qr (n:=2) (Q4 rfl (Q4 rfl rfl)) rfl e3) rfl) (Qj (jm (Y7 (Qf (Q4g (Q0p (Q7c rfl (Q2g A3) asl) cf)) (Qd9 rfl) (Qtb S3))) rfl) (Q1f (Q7c rfl (Q2g B3) hnl) e4))))),P3⟩
theorem Qbh {i:Nat} {tb:Tab} (z:Sz n tb) (hn:n<=100) (hi:i < n) (hneg:Q8 tb i < 0) (hoth:∀ h,h < n->h≠i->0<=Q8 tb h) (st:Q0):Qw [Q3 tb] st=.ok (.tup [.str "short",.int i]) st:=by
 have hn1:-1000000<=(n:Int)/\(n:Int)<=1000000:=by omega
 have hln:∀ S,Y1 S [Q3 tb]=.ok (.int n) S:=fun S=>by simp [Q3,z.1]
 have L:=qp (fun k:Nat=>PV.int (k:Int)) (fun Γ=>∃ a,Γ=[some (Q3 tb),a,none]) (fun h=>decide (0<=Q8 tb h)) (fun h=>.tup [.str "short",.int h]) (ga:=Qc 1) (body:=J5) (w:=[]) (st:=st) (by simp) (xs:=List.range n) (fun h hh Γ ⟨a,e⟩=>by
  subst e;have hr:=Q0a z hn (D4.mp hh) st;refine ⟨_,rfl,fun hp=>⟨[some (Q3 tb),some (.int h),none],⟨_,rfl⟩,?_⟩,fun hp=>?_⟩
  ·have hnn:0<=Q8 tb h:=by simpa using hp
   have:¬ (Q8 tb h < 0):=by omega
   generalize Q8 tb h=x at *;simp -implicitDefEqProofs [J5,hr,this]
  ·have hnn:¬ 0<=Q8 tb h:=by simpa using hp
   have:Q8 tb h < 0:=by omega
   generalize Q8 tb h=x at *;simp -implicitDefEqProofs [J5,hr,this,Qp])
 have L:=L [some (Q3 tb),none,none] ⟨_,rfl⟩;rw [<- V4] at L;have ha:((List.range n).all fun h=>decide (0<=Q8 tb h))=false:=by
  rw [Bool.eq_false_iff];intro q;have:=F0.mp q i (D4.mpr hi);have:=of_decide_eq_true this;omega
 obtain ⟨h,hh,hp,e⟩:=L.2 ha;have hhi:h=i:=by
  have h1:=of_decide_eq_false hp
  by_cases q:h=i
  ·exact q
  ·exact absurd (hoth h (D4.mp hh) q) h1
 rw [hhi] at e;have hg:fin st (.tup [.str "short",.int i]) st=.ok (.tup [.str "short",.int i]) st:=Zw (by simp [Z6]);simp -implicitDefEqProofs [Qw,Qd,W1,hln,hn1,Qp,e,hg]
theorem Q9r {i:Nat} {tb:Tab} (hi:i < n) (hneg:Q8 tb i < 0):jn n tb=false:=by
 unfold jn;have:((List.range n).all fun h=>decide (0<=Q8 tb h))=false:=by
  rw [Bool.eq_false_iff];intro q;have:=F0.mp q i (D4.mpr hi);have:=of_decide_eq_true this;omega
 rw [this]; rfl
theorem Quh {tb:Tab} (w:Wt' n tb) (hc:jn n tb=false) (st:Q0):Vv [Q3 tb] st=.ok (.bl true) st:=by
 have e:=Qaa w hc st;have k:Qb1 "NoTable" 1 (Yj (Qb 1 Ug (Q1 (Q2 0) Q6))) [some (Q3 tb),some (.bl false)] st=.nx [none,some (.bl true)] st:=by
  have e1:Yj (Qb 1 Ug (Q1 (Q2 0) Q6)) [some (Q3 tb),some (.bl false)] st=.exc ⟨"NoTable",none⟩ st:=by
   rw [Q23,Qei (n:=1) (Q4 rfl rfl) rfl e]; rfl
  unfold Qb1;rw [e1];exact bM ⟨rfl,(show 1 < 2 by decide)⟩
 have step:Xj [some (Q3 tb),none] st=.rt (.bl true) st:=Qj rfl (Qj k rfl);exact (ze (nl:=2) (ps:=[Q3 tb]) step).trans (by simp)
theorem Qpf {C:aA} {t i:Nat} {tb:Tab} {S:Q0} (I:SmI n t tb) (hi:i < n) (c0 c1 c4 c5 c6 c7 c8 c9 c10 c11 c12 c13 c15:Option PV) :
  ∃ d15,Q47 C (lG c0 c1 (some (Q3 tb)) (some (.int n)) c4 c5 c6 c7 c8 c9 c10 c11 c12 c13 (some (.int i)) c15) S=.nx (lG c0 c1 (some (Q3 tb)) (some (.int n)) c4 c5 c6 c7 c8 c9 c10 c11 c12 c13 (some (.int i)) d15) S:=by
 have w:=I.w;have h8:=w.n8;have e1:=Q6c w.sz (by omega) hi S;have e2:=yx w.sz (by omega) hi (O4 n) (Q8 tb i + 1) S;obtain ⟨more,hm⟩:∃ more,Yg tb i n (ent tb i n + (Q8 tb i + 1))=more:=⟨_,rfl⟩;rw [hm] at e2;have hr0:=I.c.nn i hi;have w':Wt' n more:=by rw [<- hm]; exact Wt'.set0 w hi (by have:=w.ent_nn hi (O4 n); omega)
 have rg:∀ h,h < n->Q8 more h=Q8 tb h - if h=i then Q8 tb i + 1 else 0:=fun h hh=>by
  rw [<- hm,W9 w.sz hi (O4 n) _ hh,bN (c:=h=n) (by omega),bN (c:=h=i/\n=i) (by omega)];omega
 have hneg:Q8 more i < 0:=by rw [rg i hi,bM rfl]; omega
 have e3:=Qbh w'.sz (by omega) hi hneg (fun h hh q=>by rw [rg h hh,bN q]; have:=I.c.nn h hh; omega) S;have e4:=Quh w' (Q9r hi hneg) S;exact ⟨_,Qj (Y4 (Qr (n:=4) (Q4 rfl (Q4 rfl (Q4 rfl (Q4 (Qf (Qr (n:=2) (Q4 rfl (Q4 rfl rfl)) rfl e1) rfl (Qa3 S _ _)) rfl)))) rfl e2)) (jm (Qnm (Y7 (Qf (Qr (n:=1) (Q4 rfl rfl) rfl e3) (xh (Q4 rfl (Q4 rfl rfl)) (show 2<=1000000 by decide)) (Qtc (v:=.tup [.str "short",.int i]) rfl rfl))) (Qch (b:=true) (Y7 (Qr (n:=1) (Q4 rfl rfl) rfl e4)))) rfl)⟩
theorem Qvj (m:Nat):m<=60 * rsz 0 (m:Int) 60/\60 * rsz 0 (m:Int) 60<=m + 59:=by
 unfold rsz Builtin.Range.rangeSize;simp only [show ((60:Int) > 0) from by decide,if_true]
 split
 ·omega
 ·omega
theorem Qph {C:aA} {ns:List Int} {k:Nat} {S:Q0} (c2 c3 c4 c5 c6 c7 c8 c9 c10 c11 c12 c13 c14 c15:Option PV) :
  ∃ S' d2 d3 d4 d5 d6 d7 d8 d9 d10 d11 d12 d13 d14 d15,Q4a C (lG (some (.fro (ns.map .int))) (some (.int k)) c2 c3 c4 c5 c6 c7 c8 c9 c10 c11 c12 c13 c14 c15) S=.nx (lG (some (.fro (ns.map .int))) (some (.int k)) d2 d3 d4 d5 d6 d7 d8 d9 d10 d11 d12 d13 d14 d15) S':=by
 obtain ⟨c,e0⟩:=Qkr ns k S;have T0:Tp (S ++ [.lst [.int c]]) S.length:=⟨c,by simp⟩;obtain ⟨n,tb,S1,I,M1,e1⟩:=Qh0 T0;have w:=I.w;have ca:=I.c;have n1:=w.n1;have n8:=w.n8;have ln:∀ S,Y1 S [Q3 tb]=.ok (.int n) S:=fun S=>by simp [Q3,w.len]
 obtain ⟨fs,hfs,hfl,e2⟩:=Qgj w ca S1;have e3:=Q8w w.sz (by omega) (hs:=Wn fs) (by unfold Wn; rw [O2]; omega) (V:=.lst (fs.map Qs)) (st:=S1) (.inl (by unfold Wn; rw [L9]; rfl));rw [hfs] at e3;have e4:=Qq5 n n1 n8 S1;obtain ⟨ps,pth,hpl,e5⟩:=Qhi w ca (I.tot (O4 12)) S1;obtain ⟨xs,hxs⟩:∃ xs,mkL tb n ++ psL ps=xs:=⟨_,rfl⟩;have hxV:mkU tb n ++ ps.map (stV n)=xs.map (spV n):=by rw [<- hxs,G6,Qqr,Qvy]
 rw [hxV] at hpl e5;rw [O2] at hpl;obtain ⟨okT,fold⟩:=J00 w pth;rw [hxs] at okT fold;have w0:=Q3v n1 n8;have okG:OkG n (List.replicate n (W0 n)) xs:=Qdu xs w0 (Ca.zero n1 n8 w0) (fun a ha=>(Q39 n1 n8 ha).symm) okT
 have e4:Q1h [.int n] S1=.ok (Q3 (List.replicate n (W0 n))) S1:=e4;obtain ⟨P,hP⟩:∃ P,S1.length=P:=⟨_,rfl⟩;obtain ⟨S2,hS2⟩:∃ S2,S1 ++ [Cell.lst (xs.map (spV n))]=S2:=⟨_,rfl⟩;rw [hP,hS2] at e5;have P2:S2[P]?=some (.lst (xs.map (spV n))):=by rw [<- hS2,<- hP]; simp
 obtain ⟨m,hm⟩:∃ m,rsz 0 (xs.length:Int) 60=m:=⟨_,rfl⟩;have hm60:=Qvj xs.length;rw [hm] at hm60;obtain ⟨Γ',S3,e6,d7,d8,d9,d10,d11,d12,d13,rfl,P3⟩:=qm (g:=fun k:Nat=>PV.int (0 + (k:Int) * 60)) (xs:=List.range m) (ga:=Qc 7) (body:=Q49 C) (w:=[]) (Γ:=lG (some (.fro (ns.map .int))) (some (.int k)) (some (Q3 tb)) (some (.int n)) (some (.tup [.str "comes",.lst (fs.map Qs)])) (some (Q3 (List.replicate n (W0 n)))) (some (.ref P)) c7 c8 c9 c10 c11 c12 c13 c14 c15) (st:=S2)
  (fun q Γ st=>∃ d7 d8 d9 d10 d11 d12 d13,Γ=lG (some (.fro (ns.map .int))) (some (.int k)) (some (Q3 tb)) (some (.int n)) (some (.tup [.str "comes",.lst (fs.map Qs)])) (some (Q3 ((xs.take (60 * q)).foldl stR (List.replicate n (W0 n))))) (some (.ref P)) d7 d8 d9 d10 d11 d12 d13 c14 c15/\st[P]?=some (.lst (xs.map (spV n)))) (fun _ _ st _=>Xu st)
  (fun q x Γ st hx ⟨d7,d8,d9,d10,d11,d12,d13,hΓ,hst⟩=>by
   subst hΓ;have hqm:q < m:=by simpa using (O1.mp hx).1
   rw [F5 hqm] at hx;cases hx;have ok2:OkG n (List.replicate n (W0 n)) (xs.take (60 * q) ++ xs.drop (60 * q)):=by rw [List.take_append_drop]; exact okG
   obtain ⟨ok3,ok4⟩:=(Q93 _ _).mp ok2;obtain ⟨wJ,cJ⟩:=Qj9 _ w0 (Ca.zero n1 n8 w0) ok3;obtain ⟨S',f8,f9,f10,f11,f12,f13,e,hS'⟩:=Qq4 (C:=C) hst hpl wJ cJ ok4 (some (.fro (ns.map .int))) (some (.int k)) (some (Q3 tb)) (some (.int n)) (some (.tup [.str "comes",.lst (fs.map Qs)])) d8 d9 d10 d11 d12 d13 c14 c15;refine ⟨_,rfl,_,_,e,some (.int (0 + (q:Int) * 60)),f8,f9,f10,f11,f12,f13,?_,hS'⟩;rw [<- List.foldl_append,show 60 * (q + 1)=60 * q + 60 by omega,<- List.take_add])
  ⟨_,_,_,_,_,_,_,rfl,P2⟩
 rw [F4,List.take_of_length_le hm60.1,fold] at e6;obtain ⟨Γ',S4,e7,d14,d15,rfl,rfl⟩:=qm (g:=fun k:Nat=>PV.int (k:Int)) (xs:=List.range n) (ga:=Qc 14) (body:=Q47 C) (w:=[]) (Γ:=lG (some (.fro (ns.map .int))) (some (.int k)) (some (Q3 tb)) (some (.int n)) (some (.tup [.str "comes",.lst (fs.map Qs)])) (some (Q3 tb)) (some (.ref P)) d7 d8 d9 d10 d11 d12 d13 c14 c15) (st:=S3)
  (fun _ Γ st=>∃ d14 d15,Γ=lG (some (.fro (ns.map .int))) (some (.int k)) (some (Q3 tb)) (some (.int n)) (some (.tup [.str "comes",.lst (fs.map Qs)])) (some (Q3 tb)) (some (.ref P)) d7 d8 d9 d10 d11 d12 d13 d14 d15/\st=S3) (fun _ _ st _=>Xu st)
  (fun i x Γ st hx ⟨d14,d15,hΓ,hst⟩=>by
   subst hΓ;have hin:i < n:=by simpa using (O1.mp hx).1
   rw [F5 hin] at hx;cases hx;obtain ⟨f15,e⟩:=Qpf (C:=C) (S:=st) I hin (some (.fro (ns.map .int))) (some (.int k)) (some (.tup [.str "comes",.lst (fs.map Qs)])) (some (Q3 tb)) (some (.ref P)) d7 d8 d9 d10 d11 d12 d13 d15;exact ⟨_,rfl,_,_,e,_,_,rfl,hst⟩)
  ⟨_,_,rfl,rfl⟩
 rw [<- V4] at e7;have lenP:Qq Y1 (Q1 (Q2 6) Q6) (lG (some (.fro (ns.map .int))) (some (.int k)) (some (Q3 tb)) (some (.int n)) (some (.tup [.str "comes",.lst (fs.map Qs)])) (some (Q3 (List.replicate n (W0 n)))) (some (.ref P)) c7 c8 c9 c10 c11 c12 c13 c14 c15) S2=.ok (.int xs.length) S2:=by
  refine Q06 (S1:=S2) (ps:=[.ref P]) rfl ?_;rw [Q9u,P2];show Res.ok (PV.int (xs.map (spV n)).length) S2=_;rw [O2]
 have hr3:Q21 (Q1 (mC (.int 0)) (Q1 (Qq Y1 (Q1 (Q2 6) Q6)) (Q1 (mC (.int 60)) Q6))) (lG (some (.fro (ns.map .int))) (some (.int k)) (some (Q3 tb)) (some (.int n)) (some (.tup [.str "comes",.lst (fs.map Qs)])) (some (Q3 (List.replicate n (W0 n)))) (some (.ref P)) c7 c8 c9 c10 c11 c12 c13 c14 c15) S2=.ok ((List.range m).map fun k:Nat=>PV.int (0 + (k:Int) * 60),[]) S2:=by
  unfold Q21;rw [Q4 (p:=.int 0) rfl (Q4 lenP (Q4 (p:=.int 60) rfl (show Q6 _ _=.ok [] _ from rfl))),J2];show (if (60:Int)≠0/\-1000000<=(0:Int)/\(0:Int)<=1000000/\-1000000<=(xs.length:Int)/\(xs.length:Int)<=1000000/\-1000000<=(60:Int)/\(60:Int)<=1000000 then Res.ok (y6 0 60 (rsz 0 (xs.length:Int) 60),[]) S2 else .stuck)=_;rw [bM (by omega),hm];rfl
 have hrg:Yi (Q1 (Q2 3) Q6) (lG (some (.fro (ns.map .int))) (some (.int k)) (some (Q3 tb)) (some (.int n)) (some (.tup [.str "comes",.lst (fs.map Qs)])) (some (Q3 tb)) (some (.ref P)) d7 d8 d9 d10 d11 d12 d13 c14 c15) S4=.ok (Zu 0 n,[]) S4:=by
  rw [qk,Q4 (p:=.int n) (S1:=S4) rfl (show Q6 _ S4=.ok [] S4 from rfl),J2];show (if -(lim:Int)<=(n:Int)/\(n:Int)<=lim then _ else _)=_;rw [bM (by rw [Qp]; omega),Int.toNat_natCast]
 have i0:oIx S1 (.tup [.str "comes",.lst (fs.map Qs)]) (.int 0)=.ok (.str "comes") S1:=rfl;have i1:oIx S1 (.tup [.str "comes",.lst (fs.map Qs)]) (.int 1)=.ok (.lst (fs.map Qs)) S1:=rfl;have nn:oNe S1 (.str "comes") (.str "comes")=.ok (.bl false) S1:=by simp
 have nt:oNe S4 (Q3 tb) (Q3 tb)=.ok (.bl false) S4:=Qtc (by simp [Z6,Q3,Qh,dep]) rfl;exact ⟨S4,_,_,_,_,_,_,_,_,_,_,_,_,_,_,Qj (Y4 (Qr (n:=1) (Q4 (Qr (n:=2) (Q4 rfl (Q4 rfl rfl)) rfl e0) rfl) rfl e1)) (Qj (Y4 (Q06 (Q4 rfl rfl) (ln S1))) (Qj (Y4 (Qr (n:=1) (Q4 rfl rfl) rfl e2)) (Qj (jm (Qnm (Y7 (Qf (Qf rfl rfl i0) rfl nn)) (Y7 (Qf (Qr (n:=2) (Q4 rfl (Q4 (Qf rfl rfl i1) rfl)) rfl e3) rfl rfl))) rfl) (Qj (Y4 (Qr (n:=1) (Q4 rfl rfl) rfl e4)) (Qj (Y4 (Qr (n:=1) (Q4 rfl rfl) rfl e5)) (Qj (Q1f hr3 e6) (Qj (jm (Y7 (Qf rfl rfl nt)) rfl) (Q1f hrg e7))))))))⟩
theorem Qpe (C:aA):∀ ns:List Int,ns.length<=63->∃ st',Qku C [.fro (ns.map .int)] []=.ok (.bl true) st':=by
 intro ns hns;obtain ⟨m,hm,em⟩:∃ m:Nat,m<=4/\(if (if (ns.length:Int) < 4 then (ns.length:Int) else 4) > 1 then (if (ns.length:Int) < 4 then (ns.length:Int) else 4) else 1)=(m:Int):=by
  refine ⟨(if (if (ns.length:Int) < 4 then (ns.length:Int) else 4) > 1 then (if (ns.length:Int) < 4 then (ns.length:Int) else 4) else 1).toNat,?_,?_⟩ <;> split <;> split <;> omega
 obtain ⟨Γ',S',e,d1,d2,d3,d4,d5,d6,d7,d8,d9,d10,d11,d12,d13,d14,d15,rfl⟩:=qm (g:=fun k:Nat=>PV.int (k:Int)) (xs:=List.range m) (ga:=Qc 1) (body:=Q4a C) (w:=[]) (Γ:=lG (some (.fro (ns.map .int))) none none none none none none none none none none none none none none none) (st:=[])
  (fun _ Γ st=>∃ d1 d2 d3 d4 d5 d6 d7 d8 d9 d10 d11 d12 d13 d14 d15,Γ=lG (some (.fro (ns.map .int))) d1 d2 d3 d4 d5 d6 d7 d8 d9 d10 d11 d12 d13 d14 d15) (fun _ _ st _=>Xu st)
  (fun i x Γ st hx ⟨d1,d2,d3,d4,d5,d6,d7,d8,d9,d10,d11,d12,d13,d14,d15,hΓ⟩=>by
   subst hΓ;obtain ⟨S',f2,f3,f4,f5,f6,f7,f8,f9,f10,f11,f12,f13,f14,f15,e⟩:=Qph (C:=C) (ns:=ns) (k:=x) (S:=st) d2 d3 d4 d5 d6 d7 d8 d9 d10 d11 d12 d13 d14 d15;exact ⟨_,rfl,_,_,e,_,_,_,_,_,_,_,_,_,_,_,_,_,_,_,rfl⟩) ⟨_,_,_,_,_,_,_,_,_,_,_,_,_,_,_,rfl⟩
 rw [<- V4] at e;have ln:Y1 [] [.fro (ns.map .int)]=.ok (.int ns.length) []:=by rw [Qkd,O2]
 have emin:Qgu [] [.int 4,.int ns.length]=.ok (.int (if (ns.length:Int) < 4 then (ns.length:Int) else 4)) []:=rfl;have emax:Qd7 [] [.int 1,.int (if (ns.length:Int) < 4 then (ns.length:Int) else 4)]=.ok (.int m) []:=by
  rw [<- em]; rfl
 have hrg:Q22 (Q1 (mC (.int 0)) (Q1 (Qq Qd7 (Q1 (mC (.int 1)) (Q1 (Qq Qgu (Q1 (mC (.int 4)) (Q1 (Qq Y1 (Q1 (Q2 0) Q6)) Q6))) Q6))) Q6)) (lG (some (.fro (ns.map .int))) none none none none none none none none none none none none none none none) []=.ok (Zu 0 m,[]) []:=by
  rw [Qcu,Q4 (m:=mC (.int 0)) (p:=.int 0) rfl (Q4 (Q06 (Q4 rfl (Q4 (Q06 (Q4 rfl (Q4 (Q06 (Q4 rfl rfl) ln) rfl)) emin) rfl)) emax) (show Q6 _ _=.ok [] _ from rfl)),J2];show (if -(lim:Int)<=0/\(0:Int)<=lim/\-(lim:Int)<=(m:Int)/\(m:Int)<=lim then _ else _)=_;rw [bM (by rw [Qp]; omega)];rfl
 exact ⟨_,(ze (m:=Qjg C) (nl:=16) (ps:=[.fro (ns.map .int)]) (v:=.bl true) (S':=S') (Qj (Q1f hrg e) rfl)).trans (Qge (st:=[]) rfl)⟩
theorem all_mk {l:PySem.W.OpenLaw} {w:aN} {h:Heap} {fa f1 f2 f3 f4 f5 f6 f7 f8 f9 f10 f11 f12 f13 f14 f15 f16 f17 f18 f19 f20 f21 f22 f23 f24 f25 f26 f27 f28 f29 f30 f31 f32 f33 f34 f35 f36 f37 f38 f39 f40 f41 f42 f43 f44 f45 f46 f47 f48 f49 f50 f51 f52 f53 f54 f55 f56 f57 f58 f59 f60:aA} (X:K.In h) (G:h.Ns aR mg) (hfa:mg "law" = some (.ref fa))
  {od60 an60:Option aA} {sl60:Array (Option aB)} {oc60 kV60 dc60 pm60 cd60 ct60:aB}
  {e_NoDeed e_NoHouse e_NoLetter e_NoTable e_TooMany:aA}
  {eH:aA}
  {t_MOST_HOUSES:Tok}
  {t_MOST_STEPS:Tok}
  {eW eS fI pd xN:aA} {xnm xqn:Str} {xbs xsub:List aB} {xsn:List Str} {xab:Bool} {xcol:Option Bool} {xdd odI anI:Option aA} {xk0 xk1 xk2 xk3 xk5:Option aB} {slI:Array (Option aB)} {kVI dcI pmI cdI ctI:aB} {pt1 pt2 pt3 pu1 pu2 pu3:Tok} {pep:Nat} {cdx:ClassData} {pdO:aA} {qt1 qt2 qt3 qt4 qu1 qu2 qu3 qu4:Tok} {pepO:Nat} {eTx:aA}
  (aH:PySem.W.nsIn K aR "House" = some (some (.ref eH)))
  (Hpg:PySem.W.plainGet K eH Str.empty=true)
  (Hhd:PySem.W.hasDictIn K eH=true)
  (Hpo:PySem.W.plainOver K eH=true)
  (Hsa:PySem.W.findIn K (.ref eH) "__setattr__" = some (some (.builtin "object.__setattr__")))
  (Hmk:PySem.W.makesIn K eH=true)
  (Hkc:PySem.W.keepIn K (.ref eH)=true)
  (Hn_number:PySem.W.findIn K (.ref eH) "number" = some none)
  (Hn_now:PySem.W.findIn K (.ref eH) "now" = some none)
  (Hn_kept:PySem.W.findIn K (.ref eH) "kept" = some none)
  (a60:PySem.W.nsIn K aR "law" = some (some (.ref f60)))
  (l60:K.lookup f60=some ⟨oc60,od60,.func (PySem.W.fnOf "law" "law" (W6 Q1n) (Y2 Q1n) (Q5 Q1n) .none kV60 dc60 pm60 an60 cd60 ct60),sl60⟩)
  (c60:PySem.W.codeIn K cd60 "law" = true)
  (k60:PySem.W.keepIn K (.ref f60)=true)
  (al_rights_tables:PySem.W.nsIn K aR "rights_tables" = some (some (.ref f8)))
  (z_all:PySem.W.nsIn K aR "all" = some none)
  (z_any:PySem.W.nsIn K aR "any" = some none)
  (z_bool:PySem.W.nsIn K aR "bool" = some none)
  (z_enumerate:PySem.W.nsIn K aR "enumerate" = some none)
  (z_int:PySem.W.nsIn K aR "int" = some none)
  (z_isinstance:PySem.W.nsIn K aR "isinstance" = some none)
  (z_len:PySem.W.nsIn K aR "len" = some none)
  (z_max:PySem.W.nsIn K aR "max" = some none)
  (z_min:PySem.W.nsIn K aR "min" = some none)
  (z_range:PySem.W.nsIn K aR "range" = some none)
  (z_set:PySem.W.nsIn K aR "set" = some none)
  (z_str:PySem.W.nsIn K aR "str" = some none)
  (z_sum:PySem.W.nsIn K aR "sum" = some none)
  (z_tuple:PySem.W.nsIn K aR "tuple" = some none)
  (z_zip:PySem.W.nsIn K aR "zip" = some none)
  (v_MOST_HOUSES:PySem.W.nsIn K aR "MOST_HOUSES" = some (some (.int 8 t_MOST_HOUSES)))
  (v_MOST_STEPS:PySem.W.nsIn K aR "MOST_STEPS" = some (some (.int 300 t_MOST_STEPS)))
  (n_NoDeed:PySem.W.nsIn K aR "NoDeed" = some (some (.ref e_NoDeed)))
  (n_NoHouse:PySem.W.nsIn K aR "NoHouse" = some (some (.ref e_NoHouse)))
  (n_NoLetter:PySem.W.nsIn K aR "NoLetter" = some (some (.ref e_NoLetter)))
  (n_NoTable:PySem.W.nsIn K aR "NoTable" = some (some (.ref e_NoTable)))
  (n_TooMany:PySem.W.nsIn K aR "TooMany" = some (some (.ref e_TooMany)))
  (nW:PySem.W.nsIn K aR "WharfError" = some (some (.ref eW)))
  (nS:PySem.W.nsIn K aR "Short" = some (some (.ref eS)))
  (xlk:K.lookup eS=some (excClassObj xnm xqn eS xN xbs (.ref eW :: Vr) true xsn xsub xab xcol xdd xk0 xk1 xk2 xk3 xk5 "ValueError.__new__"))
  (xfi:PySem.W.findIn K (.ref eS) "__init__" = some (some (.ref fI)))
  (li:K.lookup fI=some ⟨.type "function",odI,.func (PySem.W.fnOf "__init__" "Short.__init__" (W6 Q7e) (Y2 Q7e) (Q5 Q7e) .none kVI dcI pmI anI cdI ctI),slI⟩)
  (ci:PySem.W.codeIn K cdI "Short.__init__" = true)
  (ki:PySem.W.keepIn K (.ref fI)=true)
  (xkp:PySem.W.keepIn K (.ref eS)=true)
  (xcga:PySem.W.specialIn K (.ref eW) "__getattribute__" = some (some (.builtin "type.__getattribute__")))
  (xcrd:PySem.W.readsIn K eW (.type "type")=true)
  (xcfc:PySem.W.findCls K (.ref eW) (.type "type") "__init__" = some (.val (.builtin "ValueError.__init__")))
  (xsa:PySem.W.findIn K (.ref eS) "__setattr__" = some (some (.builtin "object.__setattr__")))
  (xno:PySem.W.findIn K (.ref eS) "had" = some none)
  (xob:PySem.W.mroIn K eS (.type "object")=some true)
  (pns:PySem.W.nsIn K aR "PARTS_OF_DEED" = some (some (.ref pd)))
  (plk:K.lookup pd=some ⟨.type "dict",none,.dict #[⟨PyData.keyHash w.params "make",.str "make" pt1,.int 3 pu1⟩,⟨PyData.keyHash w.params "lend",.str "lend" pt2,.int 4 pu2⟩,⟨PyData.keyHash w.params "use",.str "use" pt3,.int 3 pu3⟩] pep,#[]⟩)
  (xcls:PySem.W.clsIn K eS=some cdx)
  (xga:PySem.W.findIn K (.ref eS) "__getattribute__" = some (some (.builtin "BaseException.__getattribute__")))
  (xgt:PySem.W.findIn K (.ref eS) "__getattr__" = some none)
  (xcl:PySem.W.findIn K (.ref eS) "__class__" = some (some (.builtin "object.__class__")))
  (xgs:PySem.W.specialIn K (.builtin "object.__class__") "__get__" = some (some (.builtin "getset_descriptor.__get__")))
  (xtk:PySem.W.takesIn K (.builtin "object.__class__")=some true)
  (xbe:PySem.W.mroIn K eS (.type "BaseException")=some true)
  (pnsO:PySem.W.nsIn K aR "PARTS_OF_OTHER_DEED" = some (some (.ref pdO)))
  (plkO:K.lookup pdO=some ⟨.type "dict",none,.dict #[⟨PyData.keyHash w.params "keep",.str "keep" qt1,.int 2 qu1⟩,⟨PyData.keyHash w.params "fall",.str "fall" qt2,.int 2 qu2⟩,⟨PyData.keyHash w.params "send",.str "send" qt3,.int 2 qu3⟩,⟨PyData.keyHash w.params "come",.str "come" qt4,.int 3 qu4⟩] pepO,#[]⟩)
  (nTx:PySem.W.nsIn K aR "NoTable" = some (some (.ref eTx)))
  (h35:FM K eH "__init__" "House.__init__" Xh f35)
  (h36:FM K eH "make" "House.make" zy f36)
  (h37:FM K eH "lend" "House.lend" zz f37)
  (h38:FM K eH "use" "House.use" xm f38)
  (h39:FM K eH "keep" "House.keep" y0 f39)
  (h40:FM K eH "fall" "House.fall" y3 f40)
  (h41:FM K eH "letter" "House.letter" qg f41)
  (h42:FM K eH "come" "House.come" y4 f42)
  (h43:FM K eH "table" "House.table" je f43)
  (h44:FM K eH "rights" "House.rights" qf f44)
  (h45:FM K eH "used" "House.used" zx f45)
  (h1:FA K "_wall" Q8t f1)
  (h2:FA K "is_whole" Q0z f2)
  (h3:FA K "is_between" zn f3)
  (h4:FA K "is_row" Q4y f4)
  (h5:FA K "is_table" Q10 f5)
  (h6:FA K "bare" Qc4 f6)
  (h7:FA K "is_house" Q11 f7)
  (h8:FA K "rights" Q4u f8)
  (h9:FA K "need_as_many_houses" Wv f9)
  (h10:FA K "is_row_within" K6 f10)
  (h11:FA K "joined_row" zm f11)
  (h12:FA K "joined" Q4x f12)
  (h13:FA K "is_text_and_numbers" Ww f13)
  (h14:FA K "is_deed" Q2j f14)
  (h15:FA K "need_houses_of_deed" Wu f15)
  (h16:FA K "place_in_row" qb f16)
  (h17:FA K "raised" Q4v f17)
  (h18:FA K "done" Qc3 f18)
  (h19:FA K "made_some" xj f19)
  (h20:FA K "lent_or_used_some" U4 f20)
  (h21:FA K "was_lent_some" K4 f21)
  (h22:FA K "has_root" Q12 f22)
  (h23:FA K "rooted_houses" K5 f23)
  (h24:FA K "rootless_houses" Ut f24)
  (h25:FA K "comes_about" jb f25)
  (h26:FA K "does_come_about" Uu f26)
  (h27:FA K "need_comes_about" Ui f27)
  (h28:FA K "are_houses" zq f28)
  (h29:FA K "is_root_list" qc f29)
  (h30:FA K "open_places" j9 f30)
  (h31:FA K "rest_behind" j8 f31)
  (h32:FA K "next_place" zk f32)
  (h33:FA K "step_at" Q2i f33)
  (h34:FA K "steps" Q8s f34)
  (h46:FA K "is_other_deed" K7 f46)
  (h47:FA K "need_deed_of_run" Uh f47)
  (h48:FA K "do_own_deed" ja f48)
  (h49:FA K "do_other_deed" K8 f49)
  (h50:FA K "answer_to" xk f50)
  (h51:FA K "played" Q4w f51)
  (h52:FA K "_law_acell" zu f52)
  (h53:FA K "_law_atape" zr f53)
  (h54:FA K "_law_adigit" jd f54)
  (h55:FA K "_law_arights" qd f55)
  (h56:FA K "_law_abare" zw f56)
  (h57:FA K "_law_araised" qe f57)
  (h58:FA K "_law_ano_steps" Xg f58)
  (h59:FA K "_law_asmall" jc f59)
  (x_NoDeed:PySem.W.excIn K e_NoDeed Vr "ValueError.__new__" = true)
  (x_NoHouse:PySem.W.excIn K e_NoHouse Vr "ValueError.__new__" = true)
  (x_NoLetter:PySem.W.excIn K e_NoLetter Vr "ValueError.__new__" = true)
  (x_NoTable:PySem.W.excIn K e_NoTable Vr "ValueError.__new__" = true)
  (x_TooMany:PySem.W.excIn K e_TooMany Vr "ValueError.__new__" = true)
  (xw:PySem.W.excIn K eW Vr "ValueError.__new__" = true)
  (psm:(pd == au)=false)
  (psmO:(pdO == au)=false)
  (xes:PySem.W.exmOne K (.ref eS) (.ref eS)=some true)
  (xet:PySem.W.exmOne K (.ref eTx) (.ref eTx)=some true)
  (hL:noL K=true) :
  ∃ fd:aO,(∀ (s:aC) (v:aB),BindsTo s fd ⟨[v],[]⟩ [("script",v)])/\∀ base:Heap,K.In base->base.Ns aR mg->FnOk l.prog w K mg base (CXD l.prog w) 11 fa fd ["script"] (Q8q K):=by
 have e:=hfa.symm.trans (PySem.W.mg_of X G a60);cases e;have T:Txt mg:=⟨PySem.W.mg_none_of X G z_all,PySem.W.mg_none_of X G z_any,PySem.W.mg_none_of X G z_bool,PySem.W.mg_none_of X G z_enumerate,PySem.W.mg_none_of X G z_int,PySem.W.mg_none_of X G z_isinstance,PySem.W.mg_none_of X G z_len,PySem.W.mg_none_of X G z_max,PySem.W.mg_none_of X G z_min,PySem.W.mg_none_of X G z_range,PySem.W.mg_none_of X G z_set,PySem.W.mg_none_of X G z_str,PySem.W.mg_none_of X G z_sum,PySem.W.mg_none_of X G z_tuple,PySem.W.mg_none_of X G z_zip,⟨_,PySem.W.mg_of X G v_MOST_HOUSES⟩,⟨_,PySem.W.mg_of X G v_MOST_STEPS⟩⟩;have C_NoDeed:∃ C,mg "NoDeed" = some (.ref C)/\PySem.W.excIn K C Vr "ValueError.__new__" = true:=⟨_,PySem.W.mg_of X G n_NoDeed,x_NoDeed⟩;have C_NoHouse:∃ C,mg "NoHouse" = some (.ref C)/\PySem.W.excIn K C Vr "ValueError.__new__" = true:=⟨_,PySem.W.mg_of X G n_NoHouse,x_NoHouse⟩;have C_NoLetter:∃ C,mg "NoLetter" = some (.ref C)/\PySem.W.excIn K C Vr "ValueError.__new__" = true:=⟨_,PySem.W.mg_of X G n_NoLetter,x_NoLetter⟩
 have C_NoTable:∃ C,mg "NoTable" = some (.ref C)/\PySem.W.excIn K C Vr "ValueError.__new__" = true:=⟨_,PySem.W.mg_of X G n_NoTable,x_NoTable⟩;have C_TooMany:∃ C,mg "TooMany" = some (.ref C)/\PySem.W.excIn K C Vr "ValueError.__new__" = true:=⟨_,PySem.W.mg_of X G n_TooMany,x_TooMany⟩;have CD:∃ cd,PySem.W.clsIn K eS=some cd/\cd.mro=.ref eS :: .ref eW :: Vr/\cd.hasDict=true:=⟨_,by unfold PySem.W.clsIn; rw [xlk],rfl,rfl⟩;have OS:ShortOk K mg eW eS fI:=⟨PySem.W.mg_of X G nW,PySem.W.mg_of X G nS,⟨⟨_,_,_,_,_,_,_,_,_,_,_,_,_,_,xlk⟩,xw,xfi,⟨_,li,rfl⟩,xkp⟩,⟨xcga,xcrd,xcfc⟩,⟨xsa,xob,CD,xno⟩⟩;have FI:=Qd0 (x := "__init__") (qual := "Short.__init__") (st:=Q7e) li ci ki;have BI:=FI.binds (ps:=["self", "had"]) fun _ _ _ _ _ _ us hl=>match us,hl with | [_,_],_=>rfl
 have PK:PartsOk l.prog w K mg:=Qj1 (PySem.W.mg_of X G pns) plk psm;have PO:PartsO l.prog w K mg:=Qfk (PySem.W.mg_of X G pnsO) plkO psmO;have XC:XCls K eS:=⟨show (PySem.W.clsIn K eS).isSome=true by rw [xcls]; rfl,xga,xgt,xcl,xgs,xtk,xob,xbe⟩;have Sx:∃ C,mg "Short" = some (.ref C)/\PySem.W.exmOne K (.ref C) (.ref C)=some true/\XGet K C "had" := ⟨_,OS.ms,xes,XC,(let ⟨cd,a,_,b⟩:=CD; ⟨cd,a,b⟩),xno⟩;have Tx:∃ C,mg "NoTable" = some (.ref C)/\PySem.W.exmOne K (.ref C) (.ref C)=some true:=⟨_,PySem.W.mg_of X G nTx,xet⟩;have TC:ClsT K eH:=⟨⟨Hpg,Hhd,Hpo,Hsa⟩,Hn_number,Hn_now,Hn_kept⟩;obtain ⟨_,A1⟩:=Yn ["k"] X G h1;obtain ⟨_,A2⟩:=Yn ["thing"] X G h2;obtain ⟨_,A3⟩:=Yn ["thing", "least", "most"] X G h3;obtain ⟨_,A4⟩:=Yn ["thing", "n"] X G h4;obtain ⟨_,A5⟩:=Yn ["thing"] X G h5;obtain ⟨_,A6⟩:=Yn ["n"] X G h6;obtain ⟨_,A7⟩:=Yn ["table", "thing"] X G h7;obtain ⟨_,A8⟩:=Yn ["table", "house"] X G h8;obtain ⟨_,A9⟩:=Yn ["one", "other"] X G h9
 obtain ⟨_,A10⟩:=Yn ["one", "other"] X G h10;obtain ⟨_,A11⟩:=Yn ["one", "other"] X G h11;obtain ⟨_,A12⟩:=Yn ["one", "other"] X G h12;obtain ⟨_,A13⟩:=Yn ["thing"] X G h13;obtain ⟨_,A14⟩:=Yn ["thing"] X G h14;obtain ⟨_,A15⟩:=Yn ["table", "deed"] X G h15;obtain ⟨_,A16⟩:=Yn ["table", "deed"] X G h16;obtain ⟨_,A17⟩:=Yn ["table", "house", "place", "k"] X G h17;obtain ⟨_,A18⟩:=Yn ["table", "deed"] X G h18;obtain ⟨_,A19⟩:=Yn ["table", "house"] X G h19;obtain ⟨_,A20⟩:=Yn ["table", "house"] X G h20;obtain ⟨_,A21⟩:=Yn ["table", "house", "lenders"] X G h21;obtain ⟨_,A22⟩:=Yn ["table", "house", "ahead"] X G h22;obtain ⟨_,A23⟩:=Yn ["table"] X G h23;obtain ⟨_,A24⟩:=Yn ["table"] X G h24;obtain ⟨_,A25⟩:=Yn ["table"] X G h25;obtain ⟨_,A26⟩:=Yn ["thing"] X G h26;obtain ⟨_,A27⟩:=Yn ["thing"] X G h27;obtain ⟨_,A28⟩:=Yn ["table", "houses"] X G h28;obtain ⟨_,A29⟩:=Yn ["table", "houses"] X G h29;obtain ⟨_,A30⟩:=Yn ["rest"] X G h30
 obtain ⟨_,A31⟩:=Yn ["rest", "house", "place"] X G h31;obtain ⟨_,A32⟩:=Yn ["rest"] X G h32;obtain ⟨_,A33⟩:=Yn ["rest", "house", "place"] X G h33;obtain ⟨_,A34⟩:=Yn ["table"] X G h34;obtain ⟨_,A35,B35⟩:=h35.at ["self", "number", "table"];obtain ⟨_,A36,B36⟩:=h36.at ["self", "k"];obtain ⟨_,A37,B37⟩:=h37.at ["self", "to", "k"];obtain ⟨_,A38,B38⟩:=h38.at ["self", "k"];obtain ⟨_,A39,B39⟩:=h39.at ["self"];obtain ⟨_,A40,B40⟩:=h40.at ["self"];obtain ⟨_,A41,B41⟩:=h41.at ["self"];obtain ⟨_,A42,B42⟩:=h42.at ["self", "table"];obtain ⟨_,A43,B43⟩:=h43.at ["self"];obtain ⟨_,A44,B44⟩:=h44.at ["self"];obtain ⟨_,A45,B45⟩:=h45.at ["self"];obtain ⟨_,A46⟩:=Yn ["thing"] X G h46;obtain ⟨_,A47⟩:=Yn ["table", "letters", "deed"] X G h47;obtain ⟨_,A48⟩:=Yn ["houses", "deed"] X G h48;obtain ⟨_,A49⟩:=Yn ["houses", "letters", "deed"] X G h49;obtain ⟨_,A50⟩:=Yn ["houses", "letters", "deed"] X G h50;obtain ⟨_,A51⟩:=Yn ["table", "deeds"] X G h51
 obtain ⟨_,A52⟩:=Yn ["script", "k"] X G h52;obtain ⟨_,A53⟩:=Yn ["script", "k"] X G h53;obtain ⟨_,A54⟩:=Yn ["tape", "many"] X G h54;obtain ⟨_,A55⟩:=Yn ["table", "i"] X G h55;obtain ⟨_,A56⟩:=Yn ["size"] X G h56;obtain ⟨_,A57⟩:=Yn ["table", "i", "at", "k"] X G h57;obtain ⟨_,A58⟩:=Yn ["table"] X G h58;obtain ⟨_,A59⟩:=Yn ["tape"] X G h59;have A60:=Quf (st:=Q1n) (ps:=["script"]) X G a60 l60 c60 k60 fun _ _ _ _ _ _ us hl=>match us,hl with | [_],_=>rfl
 refine ⟨PySem.W.fnOf "law" "law" (W6 Q1n) (Y2 Q1n) (Q5 Q1n) .none kV60 dc60 pm60 an60 cd60 ct60,fun s v=>.of_eq rfl,fun base kb nb=>?_⟩;have O_Short:ShortS l.prog w K mg base:=⟨_,_,_,_,OS.M,Qnu FI OS,BI,OS.ms⟩;have D__wall:=A1.d l.prog w base rfl (Qj8 A1.F T    );have D_is_whole:=A2.d l.prog w base rfl (Qar A2.F T    );have D_is_between:=A3.d l.prog w base rfl (Q6q A3.F T   D_is_whole );have D_is_row:=A4.d l.prog w base rfl (Qfr A4.F T   D_is_whole );have D_is_table:=A5.d l.prog w base rfl (Qas A5.F T   D_is_row );have D_bare:=A6.d l.prog w base rfl (Qnw A6.F T    );have D_is_house:=A7.d l.prog w base rfl (Qat A7.F T   D_is_between );have D_rights:=A8.d l.prog w base rfl (Q7m A8.F T  C_NoHouse D_is_house );have D_rights_tables:DefS l.prog w K mg base 4 "rights_tables" 2 Ve:=⟨_,_,_,Q7m A8.F T  C_NoHouse D_is_house ,PySem.W.mg_of X G al_rights_tables,A8.F.kp,A8.b,rfl⟩;have D_need_as_many_houses:=A9.d l.prog w base rfl (yc A9.F T  C_NoTable  )
 have D_is_row_within:=A10.d l.prog w base rfl (Q2s A10.F T    );have D_joined_row:=A11.d l.prog w base rfl (Q6p A11.F T    );have D_joined:=A12.d l.prog w base rfl (Qfq A12.F T   D_need_as_many_houses D_joined_row );have D_is_text_and_numbers:=A13.d l.prog w base rfl (yd A13.F T   D_is_whole );have D_is_deed:=A14.d l.prog w base rfl (Qcf A14.F T PK   D_is_text_and_numbers );have D_need_houses_of_deed:=A15.d l.prog w base rfl (y9 A15.F T  C_NoHouse D_is_house );have D_place_in_row:=A16.d l.prog w base rfl (Q3j A16.F T    );have D_raised:=A17.d l.prog w base rfl (Qfn A17.F T    );have D_done:=A18.d l.prog w base rfl (Qnv A18.F T O_Short  C_NoDeed D_is_deed D_need_houses_of_deed D_rights_tables D_raised D_place_in_row );have D_made_some:=A19.d l.prog w base rfl (Q90 A19.F T    );have D_lent_or_used_some:=A20.d l.prog w base rfl (xr A20.F T    );have D_was_lent_some:=A21.d l.prog w base rfl (Q2q A21.F T    )
 have D_has_root:=A22.d l.prog w base rfl (Qau A22.F T   D_made_some D_was_lent_some );have D_rooted_houses:=A23.d l.prog w base rfl (Q2r A23.F T   D_has_root );have D_rootless_houses:=A24.d l.prog w base rfl (Q16 A24.F T   D_rooted_houses D_lent_or_used_some );have D_comes_about:=A25.d l.prog w base rfl (Q5b A25.F T   D_rights_tables D_rootless_houses D_rooted_houses );have D_does_come_about:=A26.d l.prog w base rfl (Q17 A26.F T   D_is_table D_comes_about );have D_need_comes_about:=A27.d l.prog w base rfl (Q0t A27.F T  C_NoTable D_does_come_about );have D_are_houses:=A28.d l.prog w base rfl (Q6r A28.F T   D_is_house );have D_is_root_list:=A29.d l.prog w base rfl (Q3k A29.F T   D_are_houses D_lent_or_used_some D_has_root );have D_open_places:=A30.d l.prog w base rfl (Q59 A30.F T   D_made_some );have D_rest_behind:=A31.d l.prog w base rfl (Q58 A31.F T   D_raised );have D_next_place:=A32.d l.prog w base rfl (Q6n A32.F T   D_open_places D_rootless_houses D_rest_behind )
 have D_step_at:=A33.d l.prog w base rfl (Qce A33.F T    );have D_steps:=A34.d l.prog w base rfl (Qj7 A34.F T  C_TooMany D_need_comes_about D_next_place D_step_at D_rest_behind );have M_House:MakeS l.prog w K mg base 8 eH "House" 3 (Y6 eH):=⟨_,_,_,Q1u A35 T TC  C_NoHouse D_need_comes_about D_is_house ,⟨Hmk,h35.1,h35.2.1,Hkc⟩,PySem.W.mg_of X G aH,B35,rfl⟩;have D_House_make:MethS l.prog w K mg base 6 eH "make" 2 (Vw eH):=⟨_,_,_,Q6w A36 T TC   D_done ,⟨h36.1,h36.2.1,A36.kp⟩,B36,rfl⟩;have D_House_lend:MethS l.prog w K mg base 6 eH "lend" 3 (Vx eH):=⟨_,_,_,Q6x A37 T TC   D_done ,⟨h37.1,h37.2.1,A37.kp⟩,B37,rfl⟩;have D_House_use:MethS l.prog w K mg base 6 eH "use" 2 (Um eH):=⟨_,_,_,Q92 A38 T TC   D_done ,⟨h38.1,h38.2.1,A38.kp⟩,B38,rfl⟩;have D_House_keep:MethS l.prog w K mg base 1 eH "keep" 1 (Vy eH):=⟨_,_,_,Q6y A39 T TC    ,⟨h39.1,h39.2.1,A39.kp⟩,B39,rfl⟩;have D_House_fall:MethS l.prog w K mg base 1 eH "fall" 1 (Vz eH):=⟨_,_,_,Q6z A40 T TC    ,⟨h40.1,h40.2.1,A40.kp⟩,B40,rfl⟩
 have D_House_letter:MethS l.prog w K mg base 1 eH "letter" 1 (Yq eH):=⟨_,_,_,Q3q A41 T TC    ,⟨h41.1,h41.2.1,A41.kp⟩,B41,rfl⟩;have D_House_come:MethS l.prog w K mg base 3 eH "come" 2 (U0 eH):=⟨_,_,_,Q70 A42 T TC  C_NoLetter D_need_as_many_houses D_is_row_within D_joined ,⟨h42.1,h42.2.1,A42.kp⟩,B42,rfl⟩;have D_House_table:MethS l.prog w K mg base 1 eH "table" 1 (Ws eH):=⟨_,_,_,Q5e A43 T TC    ,⟨h43.1,h43.2.1,A43.kp⟩,B43,rfl⟩;have D_House_rights:MethS l.prog w K mg base 5 eH "rights" 1 (qu eH):=⟨_,_,_,Q3p A44 T TC   D_rights_tables ,⟨h44.1,h44.2.1,A44.kp⟩,B44,rfl⟩;have D_House_used:MethS l.prog w K mg base 2 eH "used" 1 (Q2e eH):=⟨_,_,_,Q6v A45 T TC   D__wall ,⟨h45.1,h45.2.1,A45.kp⟩,B45,rfl⟩;have D_is_other_deed:=A46.d l.prog w base rfl (Q2t A46.F T PO   D_is_text_and_numbers );have D_need_deed_of_run:=A47.d l.prog w base rfl (Q0s A47.F T  C_NoDeed C_NoHouse C_NoLetter D_is_deed D_need_houses_of_deed D_is_other_deed D_is_house )
 have D_do_own_deed:=A48.d l.prog w base rfl (Q5a A48.F T TC    D_House_make D_House_lend D_House_use);have D_do_other_deed:=A49.d l.prog w base rfl (Q2u A49.F T TC    D_House_keep D_House_fall D_House_letter D_House_come);have D_answer_to:=A50.d l.prog w base rfl (Q91 A50.F T TC Sx   D_is_other_deed D_do_other_deed D_do_own_deed );have D_played:=A51.d l.prog w base rfl (Qfp A51.F T TC   D_need_comes_about D_need_deed_of_run D_answer_to M_House D_House_table);have D__law_acell:=A52.d l.prog w base rfl (Q6t A52.F T    );have D__law_atape:=A53.d l.prog w base rfl (Q6s A53.F T   D__law_acell );have D__law_adigit:=A54.d l.prog w base rfl (Q5d A54.F T    );have D__law_arights:=A55.d l.prog w base rfl (Q3m A55.F T    );have D__law_abare:=A56.d l.prog w base rfl (Q6u A56.F T    );have D__law_araised:=A57.d l.prog w base rfl (Q3n A57.F T    );have D__law_ano_steps:=A58.d l.prog w base rfl (Q1t A58.F T Tx  D_steps )
 have D__law_asmall:=A59.d l.prog w base rfl (Q5c A59.F T   D__law_adigit D__law_abare D__law_arights D__law_araised );exact Qpd hL (Qt7 A60.F T TC   D__law_asmall D__law_atape D_comes_about D_is_root_list D_bare D_steps D_played D_joined D__law_araised D__law_arights D__law_ano_steps ) (Qpe _)
end Lw
namespace PySem.W.Fast
local macro_rules|`(command|open $n*)=>return Lean.mkNullNode (<-n.mapM λn=>`(command|theorem $n:ident:True:=trivial))
open tw5737671961702015327 tw10295972012630271306 tw8477817345321590162 tw17209224989325549674 tw16050746735033515553 tw574575954893150757 tw14934708061591352989 tw12191913253660826976 tw15056722490008011174 tw14503353591185112673 tw17650659160948666409 tw5492158641817298511 tw10369828947551501957 tw650540150473902459 tw6182754463520220894 tw7560851627085433100 te11827989867443174108 te10425559990446673053 te10420991320502796858 te15468504630921536054 te2773711021080717024 te3637044213602240378 te10636980065144759026 te14704147979701281763 te17509129846910805911 te16241362201765499734 te16122330654977775810 te5308496108916479892 te6499387069723189764 te7530032770219072860 te10422155395154255843 te16991302509727849349 te1493554086001364987 te206911082584795328 te9187708457716252881 te10887372088672645570 te9798547845091383505 te15229420229880654217 te17597092060316233175 te7908079857379298072 te7628848233949785987 te902146746383441768 te12378866309261529413 te2231319225880177754 te17540437889783522162 te6605502195139075049 te11024710063215013351 te9409016703796664943 te2009473357231005370 te2618652520807274155 te2729464668692500732 te13674690248658690789 te11764837399665343217 te5614145715867857132 te1539074037657416472 te14150961881392919788 te2226869711273971192 te13802293164467429500 te10989993368702711338 te13404768312945403974 te8612558907178761365 te1073837812249640792 te8728501469229483026 te12329268997222479143 te16245292567394462940 te8008017130368973799 te4857412161426396430 te9278774448878416374 te5692952155551402653 te3032271815998902746 te4197768839637089380 te17452110598789404588 te9849833411055914159 te493427823761422842 te16215884960823421647 te138393203381775659 te17988358166969747752 te12605822315724790824 te9753197085813104232 te14129608563697764713 te3953876488782934673 te14000665215903459068 te11365341828059632209 te18349563446526024662 te3834845465480526045 te11719903776944082183 te8634930381221796188 te15647812301026239175 te17408099949085558874 te5712048229810003465 te14288450555847576609 te10458603126369753208 te5111167378218849001 te8715932892099370277 te4136170748259181584 te5772969087336689564 te2514383718284301337 te11521021196545647950 te7960617509503937315 te16420020934158297205 te1740918929296034255 te16398900984629135147 te1237708945074973950 te7764320254236409931 te9042575425216288011 te1430312173154224917 te11043542502609394301 te13834810992406680304 te3001785727512620157 te6885212373229597716 te7900723211850078631 te12793328383619950239 te9751924889286451914 te13286740871355546172 te5447996644047200937 te18133540468228011013 te8562817733435629207 te5747197936298665699 te2457484498994167566 te12280295918628918418 te1624607309217667452 te9261137315641740298 te9080633848067652530 te2272344264317465298 te510085597621497426 te15883524007364504187 te16770903443231695124 te5849972218578012120 te17338258834464520782 te6336366818187589092 te12209357134922098675 te8288070074536620273 te7269943152323426711 te1584254688577107713 te7802547051423808729 te1814320248592463552 te8873538125770950455 te15487781144958500285 te2748803258540055073 te13779436845992061200 te152399483847571706 te17393700769796147608
end PySem.W.Fast
open PySem PySem.W PyProof.Rows Sm
set_option maxRecDepth 100000 in
set_option maxHeartbeats 0 in
theorem PySem.Challenge.cw_lendwharf_k80_whole_steps_carried_out_holds : PySem.Challenge.rw_lendwharf_k80_whole_steps_carried_out.Holds := by
 w_on; o_law; k_head; (case hw=>w_witness2)
 k_fill
 refine Sm.walkS (l:=PySem.Challenge.rw_lendwharf_k80_whole_steps_carried_out) (k:=11) rfl ⟨rfl,by decide,by decide⟩ rfl (fun w h Y=>PySem.W.kIn_of Y) ?F
 case F=>
  intro w mg fa h KX G hmg;refine' Lw.all_mk KX G hmg ..
  any_goals k_is
  any_goals exact FA.mk (by k_is) (by k_is) (by k_is) (by k_is)
  any_goals exact FM.mk (by k_is) (by k_is) (by k_is) (by k_is) (by k_is)
  any_goals k_exc
  all_goals first | kts_exm | rfl | decide
