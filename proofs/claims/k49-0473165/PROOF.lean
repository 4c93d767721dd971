import PyProof.Rows.All
import Wide.All
import OpenK.AllK
import Wide.FinOn
import Lean
import PyProof.EqAt
import PyProof.EqKinds
import PyProof.TupleCall
import PyProof.ZipIter
import PyProof.Draws
import PyProof.SumAny
import PyProof.EnumMake
import PyProof.WalkInts
import PyProof.ExcArgsOwn
import PyProof.ExcAttrAll.ValueError
import PyProof.NsDelKeeps
import KE.KTryMore
import OpenK.KOwn
import PyProof.ListMulRoad
import PyProof.FactsAll.tuple_2
import PyProof.NeKinds
import PyProof.Rows.RuleIs
import PyProof.ExcInit
import PyProof.ExcClass3
import OpenK.KCls
import PyProof.InstStoreFacts
import OpenK.KMake
import PyProof.DictRoads
import PyProof.Rows.CountFlat
import PyProof.ListRange
import PyProof.Rows.SetFrom
import PyProof.CollectStr
import PyProof.Rows.TupMore
import PyProof.AttrMissHeap
import KE.KDictOf
import PyProof.DictWalks
import KE.KSortTup
import PyProof.DictItemsLoops
import KE.KDictList
import PyProof.CallStr
import PyProof.StrWalks
import PyProof.StrOps
import PyProof.StrCalls2
import KE.KRevIter
import PyProof.Rows.StrOrd
import PyProof.Rows.StrNews
import PyProof.JoinWalk
import PyProof.CollectIter
import PyProof.Conv_int
import PyProof.FactsAll.str
import PyProof.Conv_int_bool
import PySem.Challenge.RW_lendwharf_k49_whole_least_of_all_cuts
open Lean Parser Command in
local macro_rules|`(command|def $i:declId $s:optDeclSig $v:declVal)=>`(command|noncomputable def $i $s:optDeclSig $v:declVal)
open Lean Parser Command in
local macro_rules|`(command|abbrev $i:declId $s:optDeclSig $v:declVal)=>`(command|noncomputable abbrev $i $s:optDeclSig $v:declVal)
set_option Elab.async false
set_option linter.all false
set_option maxRecDepth 100000
set_option maxHeartbeats 4000000
open List renaming getElem?_eq_some_iff -> O0, length_map -> O1, getElem?_eq_getElem -> O2, getD_eq_getElem?_getD -> O3, length_append -> O4, getElem?_append_left -> O5, mem_cons_of_mem -> O7, getElem?_set_ne -> O9, mem_append -> D0, mem_cons_self -> D1, size_toArray -> D3, getElem?_set_self -> D4, length_set -> D5, getElem?_append_right -> D7, mem_map -> D8, map_cons -> D9, mem_cons -> E2, map_append -> E3, length_range -> E5, length_cons -> E7, getElem?_map -> E8, mem_of_getElem? -> F3, map_map -> F4, getElem_mem -> F5, mem_append_right -> F7, append_nil -> F9, mem_singleton -> G7, map_congr_left -> G8, mem_range -> G9, getElem?_eq_none -> L0, mem_append_left -> L5, nodup_cons -> L7, append_assoc -> L9, all_eq_true -> M5, sum_cons -> M6
open PySem.Heap renaming get?_push_of_some -> O6, lt_size -> E6, get?_push_size -> E9, size_push -> L3, get?_update_other -> M0, get?_update_self -> N0
open Nat renaming le_refl -> O8, lt_of_lt_of_le -> E4, le_trans -> F6, ne_of_lt -> F8, le_of_ble_eq_true -> G6, sub_self -> N4
open Bool renaming false_ne_true -> F0, false_eq_true -> L6, and_eq_true -> L8
open PySem renaming Value -> aA, Addr -> aB, Shared -> aC, wpAny_bind -> aD, wpAny -> aF, Expr -> aH, model -> aI, World -> aJ, Stmt -> aK, Program -> aL, eval -> aM, starEach -> aN, cLine -> aO, FuncData -> aP, Around -> aQ, mainGlobals -> aR, compareOp -> aS, IsPair -> aU, binaryOp -> aV, bootBuiltins -> aW, backTo -> aX, wpAny_field -> aY, wpAny_holding -> aZ, sysModules -> aa, rawInt -> ae, cellsFrom -> af, wpAny_call_entry -> ag, wpAny_rule -> ah, wpAny_mono -> ak, NameKind -> ao, Paired -> aq, assignEach -> ar, pyNext -> au, holding -> av, foldedSetIterable -> aw, wpAny_seqItems -> ay, wpAny_truthy_bool -> az, wpAny_newObj_type -> bA, call_meets -> bB, wpAny_passesOwn -> bC, sliceBounds -> bD, valueAt -> bF, behindInMarks -> bG, attributeBase -> bH, wpAny_setField_rec -> bI, wpAny_pyIter_tuple -> bJ, wpAny_isInstance -> bK, codeAny_mono -> bL, wpAny_typeOf -> bM
noncomputable section
theorem bN {c:Prop}{h:Decidable c}(hc:c){α:Sort _}{t e:α}:ite c t e=t:=if_pos hc
theorem bO {c:Prop}{h:Decidable c}(hc:¬c){α:Sort _}{t e:α}:ite c t e=e:=if_neg hc
theorem bP {p:Prop}[i:Decidable p](h:¬p):decide p=false:=decide_eq_false h
theorem bQ {p:Prop}[i:Decidable p](h:p):decide p=true:=decide_eq_true h
namespace L2
open PySem PySem.Spec PyProof.Rows
variable {h:Heap} {a b it dx:aB} {α:Type} {es:Array DictEntry} {k t' n:Nat} {Q:Unit->aC->Prop} {us:List aA} {u:aA} {g':Array GenState} {d':Drawn} {ch fp:List aB} {M:Model} {A:aQ} {E:aA->aC->Prop} {c tg l:aH} {K:PySem.W.Frag} {g:Int->Int->Int} {op:Operator} {f:aA->aA->Sem aA} {mA mg:Str->Option aA} {fd:aP} {ps:List Str}
section
abbrev Key:=Sum Int Str
def Q2w:Key->aA->Bool
 | .inl k,v=>Value.isInt k v
 | .inr x,v=>Value.isStrOf x v
def Qv2 (w:aJ):Key->Int
 | .inl k=>hashInt k
 | .inr x=>hashStr w x
theorem Z3:∀ {k:Key} {v:aA},Q2w k v=true->(∃ i t,k=Sum.inl i/\v=Value.int i t)\/(∃ x t,k=Sum.inr x/\v=Value.str x t)
 | .inl i,v,h=>by
  obtain ⟨t,e⟩:=Value.isInt_shape (k:=i) (v:=v) h;exact .inl ⟨i,t,rfl,e⟩
 | .inr x,v,h=>by
  obtain ⟨t,e⟩:=Value.isStrOf_shape (x:=x) (v:=v) h;exact .inr ⟨x,t,rfl,e⟩
theorem yg (i:Int) (t:Tok):Q2w (.inl i) (.int i t)=true:=by simp [Q2w,Value.isInt]
theorem yf (x:Str) (t:Tok):Q2w (.inr x) (.str x t)=true:=by simp [Q2w,Value.isStrOf]
theorem Qnm (a b:Int):decide ((Sum.inl a:Key)=Sum.inl b)=(a == b):=by
 by_cases e:a=b
 ·subst e; simp
 ·have h:¬ (Sum.inl a:Key)=Sum.inl b:=fun q=>e (Sum.inl.inj q)
  rw [bP h];exact (beq_eq_false_iff_ne.mpr e).symm
theorem Qni (a b:Str):decide ((Sum.inr a:Key)=Sum.inr b)=decide (a=b):=by
 by_cases e:a=b
 ·subst e; simp
 ·have h:¬ (Sum.inr a:Key)=Sum.inr b:=fun q=>e (Sum.inr.inj q)
  rw [bP h,bP e]
theorem Qnk (a:Int) (b:Str):decide ((Sum.inl a:Key)=Sum.inr b)=false:=bP (fun q=>nomatch q)
theorem Qnj (a:Str) (b:Int):decide ((Sum.inr a:Key)=Sum.inl b)=false:=bP (fun q=>nomatch q)
def Y8 (prog:aL) (w:aJ):PySem.KeyKind prog w Key where
 is:=Q2w
 hash:=Qv2 w
 inj:=fun v a b ha hb=>by
  rcases Z3 ha with ⟨i,t,rfl,rfl⟩ | ⟨x,t,rfl,rfl⟩
  ·rcases Z3 hb with ⟨j,u,rfl,e⟩ | ⟨y,u,rfl,e⟩
   ·injection e with e1 _; rw [e1]
   ·exact nomatch e
  ·rcases Z3 hb with ⟨j,u,rfl,e⟩ | ⟨y,u,rfl,e⟩
   ·exact nomatch e
   ·injection e with e1 _; rw [e1]
 byValue:=fun k v h=>by
  rcases Z3 h with ⟨i,t,rfl,rfl⟩ | ⟨x,t,rfl,rfl⟩ <;> rfl
 pyHash:=fun hv h=>by
  rcases Z3 hv with ⟨i,t,rfl,rfl⟩ | ⟨x,t,rfl,rfl⟩
  ·exact wpAny_pyHash_int h
  ·exact wpAny_pyHash_str h
 eqBool:=fun hu hv h=>by
  rcases Z3 hu with ⟨i,t,rfl,rfl⟩ | ⟨x,t,rfl,rfl⟩
  ·rcases Z3 hv with ⟨j,u,rfl,rfl⟩ | ⟨y,u,rfl,rfl⟩
   ·rw [Qnm] at h; exact wpAny_eqBool_int h
   ·rw [Qnk] at h; exact SeqAt.EqAt.int_str i t y u _ _ _ _ h
  ·rcases Z3 hv with ⟨j,u,rfl,rfl⟩ | ⟨y,u,rfl,rfl⟩
   ·rw [Qnj] at h; exact SeqAt.EqAt.str_int x t j u _ _ _ _ h
   ·rw [Qni] at h; exact wpAny_eqBool_str h
 «strs»:=fun k x t v h=>by
  rcases Z3 h with ⟨i,u,rfl,e⟩ | ⟨y,u,rfl,e⟩
  ·exact nomatch e
  ·injection e with e1 _
   subst e1;cases v <;> rfl
inductive HK where
 | int (i:Int) | str (x:Str) | tup (l:List HK)
variable {xs:List (HK × aA × aA)}
instance:DecidableEq HK:=fun _ _=>Classical.propDecidable _
mutual
def KIs (h:Heap):HK->aA->Prop
 | .int i,v=>∃ t,v=.int i t
 | .str x,v=>∃ t,v=.str x t
 | .tup l,v=>∃ a items,v=.ref a/\IsTup h a items/\KIsL h l items.toList
def KIsL (h:Heap):List HK->List aA->Prop
 | [],vs=>vs=[]
 | k :: l,vs=>∃ v r,vs=v :: r/\KIs h k v/\KIsL h l r
end
def Dp:Nat->HK->Prop
 | _,.int _=>True
 | _,.str _=>True
 | 0,.tup _=>False
 | d + 1,.tup l=>∀ k∈l,Dp d k
theorem KIsL.len :∀ {l:List HK} {vs:List aA},KIsL h l vs->l.length=vs.length
 | [],_,r=>by cases r; rfl
 | k :: l,_,⟨v,r,e,_,q⟩=>by subst e; rw [E7,E7,q.len]
theorem KIsL.get :∀ {l:List HK} {vs:List aA},KIsL h l vs->∀ (j:Nat) (h1:j < l.length) (h2:j < vs.length),KIs h l[j] vs[j]
 | [],_,_,j,h1,_=>by simp at h1
 | k :: l,_,⟨v,r,e,q,t⟩,0,h1,h2=>by subst e; exact q
 | k :: l,_,⟨v,r,e,q,t⟩,j + 1,h1,h2=>by subst e; exact t.get j (by simpa using h1) (by simpa using h2)
theorem KIsL.of {h':Heap}:∀ {l:List HK} {vs:List aA},KIsL h l vs->(∀ k v,k∈l->KIs h k v->KIs h' k v)->KIsL h' l vs
 | [],_,r,_=>r
 | k :: l,_,⟨v,r,e,q,t⟩,f=>⟨v,r,e,f k v (by simp) q,t.of fun k v hk=>f k v (O7 _ hk)⟩
theorem KIs.keep {h':Heap} (hk:∀ a its,IsTup h a its->IsTup h' a its):∀ (d:Nat) {k:HK} {v:aA},Dp d k->KIs h k v->KIs h' k v
 | d,.int _,_,_,r=>r
 | d,.str _,_,_,r=>r
 | 0,.tup _,_,p,_=>p.elim
 | d + 1,.tup l,_,p,⟨a,its,e,i,r⟩=>⟨a,its,e,hk a its i,r.of fun k v hm=>KIs.keep hk d (p k hm)⟩
theorem Qbi {x y:Array aA} (p:IsTup h a x) (q:IsTup h a y):x=y:=by
 obtain ⟨o,h1,h2,n,h3⟩:=p;obtain ⟨o',g1,g2,n',g3⟩:=q;rw [h1] at g1; cases g1;rw [h3] at g3; cases g3; rfl
theorem KIs.inj :∀ (d:Nat) {x y:HK} {v:aA},Dp d x->Dp d y->KIs h x v->KIs h y v->x=y:=by
 intro d
 induction d with
 | zero=>
  intro x y v dx dy p q;cases x with
  | tup l=>exact dx.elim
  | int i=>
   obtain ⟨t,rfl⟩:=p;cases y with
   | tup l=>exact dy.elim
   | int j=>obtain ⟨u,e⟩:=q; cases e; rfl
   | str j=>obtain ⟨u,e⟩:=q; cases e
  | str i=>
   obtain ⟨t,rfl⟩:=p;cases y with
   | tup l=>exact dy.elim
   | int j=>obtain ⟨u,e⟩:=q; cases e
   | str j=>obtain ⟨u,e⟩:=q; cases e; rfl
 | succ d ih=>
  intro x y v dx dy p q;cases x with
  | int i=>
   obtain ⟨t,rfl⟩:=p;cases y with
   | tup l=>obtain ⟨_,_,e,_⟩:=q; cases e
   | int j=>obtain ⟨u,e⟩:=q; cases e; rfl
   | str j=>obtain ⟨u,e⟩:=q; cases e
  | str i=>
   obtain ⟨t,rfl⟩:=p;cases y with
   | tup l=>obtain ⟨_,_,e,_⟩:=q; cases e
   | int j=>obtain ⟨u,e⟩:=q; cases e
   | str j=>obtain ⟨u,e⟩:=q; cases e; rfl
  | tup l=>
   obtain ⟨a,its,rfl,p1,p2⟩:=p;cases y with
   | int j=>obtain ⟨u,e⟩:=q; cases e
   | str j=>obtain ⟨u,e⟩:=q; cases e
   | tup m=>
    obtain ⟨b,jts,e,q1,q2⟩:=q;cases e;have e:=Qbi p1 q1;subst e;have l1:=p2.len;have l2:=q2.len;congr 1;refine List.ext_getElem (by omega) fun j h1 h2=>?_
    exact ih (dx _ (F5 h1)) (dy _ (F5 h2)) (p2.get j h1 (by omega)) (q2.get j h2 (by omega))
theorem Qip [DecidableEq α] (d:α) (xs ys:List α):((List.range (min xs.length ys.length)).all (fun j=>decide (xs.getD j d=ys.getD j d)) && xs.length == ys.length)=decide (xs=ys):=by
 rw [Bool.eq_iff_iff];simp only [L8,M5,G9,decide_eq_true_eq,beq_iff_eq];constructor
 ·rintro ⟨h,e⟩;refine List.ext_getElem e fun i h1 h2=>?_
  have:=h i (by omega);simpa [O3,h1,h2] using this
 ·rintro rfl;simp
section
variable {prog:aL} {w:aJ}
mutual
def hkH (prog:aL) (w:aJ):HK->Int
 | .int i=>(Y8 prog w).hash (.inl i)
 | .str x=>(Y8 prog w).hash (.inr x)
 | .tup l=>reduceHash (Builtin.Tuple.tupleHashOf (hkHL prog w l))
def hkHL (prog:aL) (w:aJ):List HK->List Int
 | []=>[]
 | k :: l=>hkH prog w k :: hkHL prog w l
end
mutual
def hkD:HK->Nat
 | .int _=>1
 | .str _=>1
 | .tup l=>hkDL l + 1
def hkDL:List HK->Nat
 | []=>0
 | k :: l=>hkD k + hkDL l
end
theorem Qe5 (l:List HK):hkHL prog w l=l.map (hkH prog w):=by
 induction l with
 | nil=>rfl
 | cons k l ih=>rw [hkHL,ih]; rfl
theorem Qe6 (l m:List HK):hkDL (l ++ m)=hkDL l + hkDL m:=by
 induction l with
 | nil=>simp [hkDL]
 | cons k l ih=>rw [List.cons_append,hkDL,hkDL,ih]; omega
variable {A:aQ} {E:aA->aC->Prop}
theorem Qin (xs ys:List HK):((List.range (min xs.length ys.length)).all (fun j=>decide (xs.getD j (.int 0)=ys.getD j (.int 0))) && xs.length == ys.length)=decide (xs=ys):=Qip (.int 0) xs ys
theorem Q02:∀ (d:Nat) {A:aQ} {s:aC} {k:HK} {v:aA} {Q:Int->aC->Prop},Dp d k->A.units + d < aO->KIs s.heap k v->Q (hkH prog w k) { s with toks:=s.toks + hkD k } ->
  aF (aI prog w) A (pyHash v) Q E s:=by
 intro d
 induction d with
 | zero=>
  intro A s k v Q dk hu r q;cases k with
  | tup l=>exact dk.elim
  | int i=>obtain ⟨t,rfl⟩:=r; exact (Y8 prog w).pyHash (k:=.inl i) (yg i t) q
  | str i=>obtain ⟨t,rfl⟩:=r; exact (Y8 prog w).pyHash (k:=.inr i) (yf i t) q
 | succ d ih=>
  intro A s k v Q dk hu r q;cases k with
  | int i=>obtain ⟨t,rfl⟩:=r; exact (Y8 prog w).pyHash (k:=.inl i) (yg i t) q
  | str i=>obtain ⟨t,rfl⟩:=r; exact (Y8 prog w).pyHash (k:=.inr i) (yf i t) q
  | tup ks=>
   obtain ⟨a,items,rfl,⟨o,ho,hc,n,hd⟩,hi⟩:=r;have hT:s.TypeIs (.ref a) "tuple" := ⟨o,ho,hc⟩;have hu0:A.units < aO:=by omega
   unfold pyHash;unfold pyHashByItsType;have nb:¬ (some (Value.builtin "tuple.__hash__") == some Value.none)=true:=by rw [beq_builtin_none]; exact F0
   have sp {Q:Option aA->aC->Prop} (h:Q (some (.builtin "tuple.__hash__")) s):aF (aI prog w) A (specialOf (.ref a) "__hash__") Q E s:=wpAny_specialOf hT F.slot_tuple_hash.lookup h;refine aD (wpAny_cRoomFor_or (.inr hu0) (aD (sp ?_)));show aF _ _ (if (some (Value.builtin "tuple.__hash__") == some Value.none)=true then _ else _) _ _ _;rw [bO nb];refine aD (sp (aD (wpAny_callSpecialIfBoundUnlessNone?_slot hT F.slot_tuple_hash (ag F.slot_tuple_hash hT F.entry_tuple_hash ?_ (F.args_tuple_hash_1 _)))));show aF _ A.in1 (Builtin.Tuple.tupleItemsOf (.ref a) >>= _) _ _ s;refine aD (wpAny_tupleItemsOf ho hd (aD ?_));rw [<- Array.forIn_toList];have hin:A.in1.units + d < aO:=by show A.units + 1 + d < aO; omega
   refine wpAny_forIn_list _ (fun rest (b:Array Int) s'=>∃ dn lf,ks=dn ++ lf/\KIsL s.heap lf rest/\b.toList=dn.map (hkH prog w)/\s'={ s with toks:=s.toks + hkDL dn }) _ ?_ ?_ _ _ ⟨[],ks,rfl,hi,rfl,rfl⟩
   ·rintro x rest b s' ⟨dn,lf,rfl,hl,hb,rfl⟩;cases lf with
    | nil=>cases hl
    | cons k lf=>
     obtain ⟨v,r,e,h1,h2⟩:=hl;cases e;refine aD (ih (s:={ s with toks:=s.toks + hkDL dn }) (dk k (by simp)) hin h1 ?_);exact wpAny_pure ⟨dn ++ [k],lf,by simp,h2,by simp [hb],by simp [Qe6,hkDL,Nat.add_assoc]⟩
   ·rintro b s' ⟨dn,lf,rfl,hl,hb,rfl⟩;cases lf with
    | cons k lf=>obtain ⟨_,_,e,_⟩:=hl; cases e
    | nil=>
     rw [F9] at q;show aF _ _ (retInt (Builtin.Tuple.tupleHashOf b.toList)) _ _ _;rw [hb,<- Qe5];refine wpAny_ret_mkInt ?_;have q:Q (reduceHash (Builtin.Tuple.tupleHashOf (hkHL prog w dn))) { s with toks:=s.toks + (hkDL dn + 1) }:=q;generalize Builtin.Tuple.tupleHashOf (hkHL prog w dn)=z at *;show aF _ _ (if (decide (-(2:Int) ^ 63<=z) && decide (z < 2 ^ 63))=true then _ else _) Q E _;unfold reduceHash at q
     split
     ·rename_i hr;rw [bN hr] at q;exact wpAny_pure (by simpa [Nat.add_assoc] using q)
     ·rename_i hr;rw [bO hr] at q;exact aD (ah (wpAny_pure (by simpa [Nat.add_assoc] using q)))
theorem Qj7:∀ (d:Nat) {A:aQ} {s:aC} {x y:HK} {u v:aA},Dp d x->Dp d y->A.units + d < aO->KIs s.heap x u->KIs s.heap y v->SeqAt.EqAt A s u v (decide (x=y)):=by
 intro d;have leaf:∀ {A:aQ} {s:aC} {x y:HK} {u v:aA},(∀ l,x≠.tup l)->(∀ l,y≠.tup l)->KIs s.heap x u->KIs s.heap y v->SeqAt.EqAt A s u v (decide (x=y)):=by
  intro A s x y u v nx ny p q;cases x with
  | tup l=>exact absurd rfl (nx l)
  | int i=>
   obtain ⟨t,rfl⟩:=p;cases y with
   | tup l=>exact absurd rfl (ny l)
   | int j=>
    obtain ⟨t',rfl⟩:=q;have:=SeqAt.EqAt.int_int (A:=A) (s:=s) i t j t'
    rwa [show (i == j)=decide (HK.int i=HK.int j) by by_cases e:i=j <;> simp [e]] at this
   | str j=>
    obtain ⟨t',rfl⟩:=q;rw [bP (by simp)];exact SeqAt.EqAt.int_str _ _ _ _
  | str i=>
   obtain ⟨t,rfl⟩:=p;cases y with
   | tup l=>exact absurd rfl (ny l)
   | int j=>
    obtain ⟨t',rfl⟩:=q;rw [bP (by simp)];exact SeqAt.EqAt.str_int _ _ _ _
   | str j=>
    obtain ⟨t',rfl⟩:=q;have:=SeqAt.EqAt.str_str (A:=A) (s:=s) i t j t'
    rwa [show (i == j)=decide (HK.str i=HK.str j) by by_cases e:i=j <;> simp [e]] at this
 induction d with
 | zero=>
  intro A s x y u v dx dy hu p q;exact leaf (fun l e=>by subst e; exact dx) (fun l e=>by subst e; exact dy) p q
 | succ d ih=>
  intro A s x y u v dx dy hu p q;have hu0:A.units < aO:=by omega
  cases x with
  | tup l=>
   obtain ⟨a,its,rfl,p1,p2⟩:=p;cases y with
   | int j=>
    obtain ⟨t',rfl⟩:=q;rw [bP (by simp)];exact SeqAt.EqAt.tuple_int _ _ p1 hu0
   | str j=>
    obtain ⟨t',rfl⟩:=q;rw [bP (by simp)];exact SeqAt.EqAt.tuple_str _ _ p1 hu0
   | tup m=>
    obtain ⟨b,jts,rfl,q1,q2⟩:=q
    by_cases e:a=b
    ·subst e;have e:=KIs.inj (d + 1) (h:=s.heap) dx dy ⟨a,its,rfl,p1,p2⟩ ⟨a,jts,rfl,q1,q2⟩;rw [bQ e];exact SeqAt.EqAt.same _
    ·have l1:=p2.len;have l2:=q2.len;have he:∀ j (h1:j < its.size) (h2:j < jts.size),SeqAt.EqAt A.in1 s its[j] jts[j] (decide (l.getD j (.int 0)=m.getD j (.int 0))):=fun j h1 h2=>by
      have k1:j < l.length:=by rw [l1,Array.length_toList]; exact h1
      have k2:j < m.length:=by rw [l2,Array.length_toList]; exact h2
      have e1:l.getD j (.int 0)=l[j]:=by rw [O3,O2 k1]; rfl
      have e2:m.getD j (.int 0)=m[j]:=by rw [O3,O2 k2]; rfl
      rw [e1,e2];exact ih (dx _ (F5 k1)) (dy _ (F5 k2)) (by show A.units + 1 + d < aO; omega) (p2.get j k1 (by simpa using h1)) (q2.get j k2 (by simpa using h2))
     have rc:=SeqAt.RcAt.tuples p1 q1 hu0 he;have s1:its.size=l.length:=by rw [l1,Array.length_toList]
     have s2:jts.size=m.length:=by rw [l2,Array.length_toList]
     rw [s1,s2,Qin] at rc;exact SeqAt.EqAt.of_refs e (by simpa using rc)
  | int i=>
   cases y with
   | tup m=>
    obtain ⟨t',rfl⟩:=p;obtain ⟨b,jts,rfl,q1,q2⟩:=q;rw [bP (by simp)];exact SeqAt.EqAt.int_tuple _ _ q1 hu0
   | _=>exact leaf (by simp) (by simp) p q
  | str i=>
   cases y with
   | tup m=>
    obtain ⟨t',rfl⟩:=p;obtain ⟨b,jts,rfl,q1,q2⟩:=q;rw [bP (by simp)];exact SeqAt.EqAt.str_tuple _ _ q1 hu0
   | _=>exact leaf (by simp) (by simp) p q
theorem Q1i:∀ (d:Nat) {A:aQ} {s:aC} {k:HK} {v:aA} {Q:Bool->aC->Prop} (m:Nat),d < m->Dp d k->KIs s.heap k v->Q true s->aF (aI prog w) A (eqIsQuiet m v) Q E s:=by
 intro d;have leaf:∀ {A:aQ} {s:aC} {v:aA} {Q:Bool->aC->Prop} (m:Nat),carriedByValue v=true->Q true s->aF (aI prog w) A (eqIsQuiet m v) Q E s:=by
  intro A s v Q m hv q;rw [eqIsQuiet_byValue m hv];exact wpAny_pure q
 induction d with
 | zero=>
  intro A s k v Q m hm dk r q;cases k with
  | tup l=>exact dk.elim
  | int i=>obtain ⟨t,rfl⟩:=r; exact leaf m rfl q
  | str i=>obtain ⟨t,rfl⟩:=r; exact leaf m rfl q
 | succ d ih=>
  intro A s k v Q m hm dk r q;cases k with
  | int i=>obtain ⟨t,rfl⟩:=r; exact leaf m rfl q
  | str i=>obtain ⟨t,rfl⟩:=r; exact leaf m rfl q
  | tup ks=>
   obtain ⟨a,items,rfl,⟨o,ho,hc,n,hd⟩,hi⟩:=r;have hT:s.TypeIs (.ref a) "tuple" := ⟨o,ho,hc⟩;obtain ⟨m,rfl⟩:∃ m',m=m' + 1:=⟨m - 1,by omega⟩;unfold eqIsQuiet;refine aD (wpAny_specialOf hT F.slot_tuple_eq.lookup ?_);show aF _ _ (isInstance (.ref a) (.type "tuple") >>= _) _ _ s;refine aD (bK hT isSubtype_tuple_tuple ?_);simp only [Bool.not_true,L6,if_false];refine aD (ay ho hd (aD ?_));show aF _ _ (forIn items _ _) _ _ s;rw [<- Array.forIn_toList];refine wpAny_forIn_list _ (fun rest r s'=>r.1=none/\s'=s/\∃ l,KIsL s.heap l rest/\∀ k∈l,k∈ks) _ ?_ ?_ _ _ ⟨rfl,rfl,ks,hi,fun _ h=>h⟩
   ·rintro v rest r s' ⟨hr,rfl,l,hl,hall⟩;cases l with
    | nil=>cases hl
    | cons k l=>
     obtain ⟨v',r',e,h1,h2⟩:=hl;cases e;refine aD (ih m (by omega) (dk k (hall k (by simp))) h1 ?_);simp only [Bool.not_true,L6,if_false];exact wpAny_pure ⟨rfl,rfl,l,h2,fun x hx=>hall x (O7 _ hx)⟩
   ·rintro ⟨r1,r2⟩ s' ⟨hr,rfl,_⟩;simp only at hr;subst hr;exact wpAny_pure q
def nk (prog:aL) (w:aJ):HeapKind prog w HK where
 is:=fun h k a=>KIs h k (.ref a)/\Dp 5 k
 hash:=hkH prog w
 draws:=hkD
 room:=fun A=>A.units + 5 < aO
 inj:=fun hx hy=>KIs.inj 5 hx.2 hy.2 hx.1 hy.1
 keeps:=fun {h h' k a d o es ep} x ho hd hs=>⟨KIs.keep (fun b its ⟨ob,h1,h2,n,h3⟩=>⟨ob,(hs.2 b fun e=>by
  subst e;rw [ho] at h1; cases h1;rw [hd] at h3; cases h3).trans h1,h2,n,h3⟩) 5 x.2 x.1,x.2⟩
 pyHash:=fun hu hk h=>Q02 5 hk.2 hu hk.1 h
 eqBool:=fun hu hx hy h=>Qj7 5 hx.2 hy.2 hu hx.1 hy.1 prog w _ _ h
 quiet:=fun hk h=>Q1i 5 8 (by decide) hk.2 hk.1 h
end
section
variable {prog:aL} {w:aJ}
def vE (prog:aL) (w:aJ) (x:HK × aA × aA):DictEntry:=⟨hkH prog w x.1,x.2.1,x.2.2⟩
theorem Q0f (he:es.toList=xs.map (vE prog w)) (j:Nat):es[j]?=(xs[j]?).map (vE prog w):=by
 rw [<- Array.getElem?_toList,he,E8]
theorem jh (he:es.toList=xs.map (vE prog w)):es.size=xs.length:=by
 rw [<- Array.length_toList,he,O1]
theorem Qjh (hn:(xs.map (·.1)).Nodup) {i j:Nat} {k:HK} {p q:aA × aA} (h1:xs[i]?=some (k,p)) (h2:xs[j]?=some (k,q)):i=j:=by
 have li:=(O0.mp h1).1;have lj:=(O0.mp h2).1;refine (List.getElem_inj (xs:=xs.map (·.1)) (i:=i) (j:=j) (h₀:=by simpa using li) (h₁:=by simpa using lj) hn).mp ?_;rw [List.getElem_map,List.getElem_map,(O0.mp h1).2,(O0.mp h2).2]
variable {A:aQ} {E:aA->aC->Prop} {s:aC} {d:aB} {o:Obj} {es:Array DictEntry} {ep:Nat} {xs:List (HK × aA × aA)} {k:HK} {key:aA}
theorem Q3h {stored:List aA} {Q:Bool->aC->Prop} (hkey:KIs s.heap k key/\Dp 5 k) (hst:∀ v∈stored,∃ k',KIs s.heap k' v/\Dp 5 k') (h:Q false s):aF (aI prog w) A (tableMayTell key stored) Q E s:=by
 unfold tableMayTell
 by_cases q:stored.isEmpty=true
 ·rw [bN q]; exact wpAny_pure h
 rw [bO q];refine aD (Q1i 5 8 (by decide) hkey.2 hkey.1 ?_);simp only [Bool.not_true,L6,if_false];refine aD (wpAny_forIn_list _ (fun rest r s'=>(s'=s/\r=(none,()))/\∀ v∈rest,∃ k',KIs s.heap k' v/\Dp 5 k') _ ?_ ?_ _ _ ⟨⟨rfl,rfl⟩,hst⟩)
 ·rintro v rest r s' ⟨⟨rfl,rfl⟩,hr⟩;obtain ⟨k',hk',dk'⟩:=hr v D1;refine aD (Q1i 5 8 (by decide) dk' hk' ?_);simp only [Bool.not_true,L6,if_false];exact wpAny_pure ⟨⟨rfl,rfl⟩,fun u hu=>hr u (O7 _ hu)⟩
 ·rintro r s' ⟨⟨rfl,rfl⟩,_⟩;exact wpAny_pure h
def vSeen (prog:aL) (w:aJ) (es:Array DictEntry) (xs:List (HK × aA × aA)) (k:HK) (rest:List Nat) (hit:Option Nat):Prop:=
 ∃ i,rest=(List.range' i (es.size - i)).filter (fun i=>(es[i]?.map (·.hash)) == some (hkH prog w k))/\i<=es.size /\
  ((hit=none/\∀ j p,j < i->xs[j]?≠some (k,p))\/∃ j p,hit=some j/\j < i/\xs[j]?=some (k,p))
theorem vSeen.start:vSeen prog w es xs k (placesWithHash es.size (fun i=>es[i]?.map (·.hash)) (hkH prog w k)) none:=
 ⟨0,by rw [placesWithHash,List.range_eq_range',Nat.sub_zero],Nat.zero_le _,.inl ⟨rfl,fun _ _ h=>absurd h (Nat.not_lt_zero _)⟩⟩
theorem vSeen.step (he:es.toList=xs.map (vE prog w)) {x:Nat} {rest:List Nat} {hit:Option Nat} (h:vSeen prog w es xs k (x :: rest) hit) :
  ∃ k' kv v,xs[x]?=some (k',kv,v)/\es[x]?=some ⟨hkH prog w k',kv,v⟩/\hkH prog w k'=hkH prog w k/\(hit=none\/∃ j p,hit=some j/\j < x/\xs[j]?=some (k,p))/\(k'≠k->vSeen prog w es xs k rest hit)/\(k'=k->vSeen prog w es xs k rest (some x)):=by
 obtain ⟨i,hr,hi,hH⟩:=h;have hsz:=jh he;obtain ⟨h1,h2,h3,h4,h5⟩:=filter_range'_cons _ _ _ _ _ hr.symm;have hlt:x < es.size:=by omega
 obtain ⟨⟨k',kv,v⟩,hx⟩:∃ y,xs[x]?=some y:=⟨_,O2 (by omega)⟩;have hex:es[x]?=some ⟨hkH prog w k',kv,v⟩:=by rw [Q0f he x,hx]; rfl
 have hh:hkH prog w k'=hkH prog w k:=by
  rw [hex] at h3;simpa using h3
 have rest':rest=(List.range' (x + 1) (es.size - (x + 1))).filter (fun i=>(es[i]?.map (·.hash)) == some (hkH prog w k)):=by rw [h5]; congr 2; omega
 have has:∀ (j:Nat) (p:aA × aA),xs[j]?=some (k,p)->((es[j]?.map (·.hash)) == some (hkH prog w k))=true:=fun j p hj=>by
  rw [Q0f he j,hj]; simp [vE]
 have hHx:(hit=none/\∀ j p,j < x->xs[j]?≠some (k,p))\/∃ j p,hit=some j/\j < x/\xs[j]?=some (k,p):=by
  rcases hH with ⟨h0,hno⟩ | ⟨j,p,q1,q2,q3⟩
  ·refine .inl ⟨h0,fun j p hj hjx=>?_⟩
   by_cases z:j < i
   ·exact hno j p z hjx
   ·have:=h4 j (by omega) hj;rw [has j p hjx] at this;cases this
  ·exact .inr ⟨j,p,q1,by omega,q3⟩
 refine ⟨k',kv,v,hx,hex,hh,hHx.imp (·.1) id,fun hne=>⟨x + 1,rest',hlt,?_⟩,fun e=>⟨x + 1,rest',hlt,.inr ⟨x,(kv,v),rfl,Nat.lt_succ_self x,by rw [hx,e]⟩⟩⟩
 rcases hHx with ⟨h0,hno⟩ | ⟨j,p,q1,q2,q3⟩
 ·refine .inl ⟨h0,fun j p hj hjx=>?_⟩
  by_cases z:j < x
  ·exact hno j p z hjx
  ·have e:j=x:=by omega
   rw [e,hx] at hjx;cases hjx;exact hne rfl
 ·exact .inr ⟨j,p,q1,by omega,q3⟩
theorem vSeen.fin (he:es.toList=xs.map (vE prog w)) {hit:Option Nat} (h:vSeen prog w es xs k [] hit):(hit=none/\∀ (j:Nat) (p:aA × aA),xs[j]?≠some (k,p))\/∃ (j:Nat) (p:aA × aA),hit=some j/\xs[j]?=some (k,p):=by
 obtain ⟨i,hr,hi,hH⟩:=h;have hsz:=jh he;rcases hH with ⟨h0,hno⟩ | ⟨j,p,q1,q2,q3⟩
 ·refine .inl ⟨h0,fun j p hj=>?_⟩
  by_cases z:j < i
  ·exact hno j p z hj
  ·have hjl:=(O0.mp hj).1;have:=List.filter_eq_nil_iff.mp hr.symm j (List.mem_range'_1.mpr ⟨by omega,by omega⟩);rw [Q0f he j,hj] at this;simp [vE] at this
 ·exact .inr ⟨j,p,q1,q3⟩
theorem Q6n {Q:Option Nat->aC->Prop} (hu:A.units + 5 < aO) (hkey:KIs s.heap k key/\Dp 5 k) (ho:s.heap.get? d=some o) (hd:o.data=.dict es ep) (he:es.toList=xs.map (vE prog w)) (his:∀ x∈xs,KIs s.heap x.1 x.2.1/\Dp 5 x.1) (hn:(xs.map (·.1)).Nodup)
  (hnone:(∀ (j:Nat) (p:aA × aA),xs[j]?≠some (k,p))->Q none s) (hsome:∀ (j:Nat) (p:aA × aA),xs[j]?=some (k,p)->Q (some j) s):aF (aI prog w) A (dictFind d key (hkH prog w k)) Q E s:=by
 have hmem:∀ e∈es,∃ x∈xs,e=vE prog w x:=fun e hin=>by
  have:e∈xs.map (vE prog w):=he ▸ Array.mem_toList_iff.mpr hin;obtain ⟨x,hx,rfl⟩:=D8.mp this;exact ⟨x,hx,rfl⟩
 have eqs:∀ {k':HK} {kv:aA} {Q:Bool->aC->Prop},KIs s.heap k' kv->Dp 5 k'->Q (decide (k'=k)) s->aF (aI prog w) A (eqBool kv key) Q E s:=fun {k' kv Q} h1 h2 h3=>Qj7 5 h2 hkey.2 hu h1 hkey.1 prog w _ _ h3
 obtain ⟨pl,hpl⟩:∃ pl,placesWithHash es.size (fun i=>es[i]?.map (·.hash)) (hkH prog w k)=pl:=⟨_,rfl⟩
 have S0:vSeen prog w es xs k pl none:=hpl ▸ vSeen.start;have hst:∀ v∈pl.filterMap (fun i=>es[i]?.map (·.key)),∃ k',KIs s.heap k' v/\Dp 5 k':=fun v hv=>by
  obtain ⟨i,_,hi⟩:=List.mem_filterMap.mp hv;cases hei:es[i]? with
  | none=>rw [hei] at hi; cases hi
  | some e=>
   rw [hei] at hi;obtain rfl:e.key=v:=by simpa using hi
   obtain ⟨x,hx,rfl⟩:=hmem e (Array.mem_of_getElem? hei);exact ⟨x.1,his x hx⟩
 have fin:∀ {hit:Option Nat},vSeen prog w es xs k [] hit->Q hit s:=fun {hit} h=>by
  rcases h.fin he with ⟨rfl,z⟩ | ⟨j,p,rfl,z⟩
  ·exact hnone z
  ·exact hsome j p z
 have plain:aF (aI prog w) A (dictWalkPlain d key (hkH prog w k) es pl) Q E s:=by
  unfold dictWalkPlain;refine aD (wpAny_forIn_list _ (fun rest b s'=>(s'=s/\b=(none,()))/\vSeen prog w es xs k rest none) _ ?_ ?_ _ _ ⟨⟨rfl,rfl⟩,S0⟩)
  ·rintro x rest b s' ⟨⟨rfl,rfl⟩,hS⟩;obtain ⟨k',kv,v,hx,hex,hh,_,h1,h2⟩:=hS.step he;rw [hex];dsimp only;rw [bN (by rw [hh]; simp)];have hk':=his _ (F3 hx);refine aD (wpAny_dictEpoch ho hd (aD (eqs hk'.1 hk'.2 (aD (wpAny_dictEpoch ho hd ?_)))));show aF _ _ (if (ep != ep)=true then _ else _) _ E _;rw [bO (by simp)]
   by_cases e:k'=k
   ·rw [bQ e];exact aD (ah (wpAny_pure (wpAny_pure (hsome x (kv,v) (by rw [hx,e])))))
   ·rw [bP e];exact aD (ah (wpAny_pure ⟨⟨rfl,rfl⟩,h1 e⟩))
  ·rintro b s' ⟨⟨rfl,rfl⟩,hS⟩;exact wpAny_pure (fin hS)
 have walk:∀ tells:Bool,tells=false->aF (aI prog w) A (do
   if (tells && decide ((pl.filterMap fun i=>es[i]?.map (·.key)).length>=2))=true then unsupported "dict.find:order-among-keys-of-one-hash"
   let mut hit:Option Nat:=none
   for i in pl do
    if let some e:=es[i]? then
     if e.hash == hkH prog w k then
      let before <- dictEpoch d (keyPart key)
      let same <- eqBool e.key key
      if (<- dictEpoch d (keyPart key)) != before then unsupported "dict.changed-during-lookup"
      if same then
       if hit.isSome then unsupported "dict.find:order-among-keys-of-one-hash"
       rule "dict.find.hit"
       if (pl.filterMap fun i=>es[i]?.map (·.key)).length < 2 then return some i
       hit:=some i
      else
       rule "dict.find.same-hash-other-key"
       if tells && !(0<=hkH prog w k && hkH prog w k < 32) then unsupported "dict.find:asked-again-or-not-hangs-on-the-table"
   return hit) Q E s:=by
  rintro _ rfl;rw [bO (by simp)];refine aD (wpAny_forIn_list _ (fun rest b s'=>∃ hit,(s'=s/\b=(none,hit))/\vSeen prog w es xs k rest hit) _ ?_ ?_ _ _ ⟨none,⟨rfl,rfl⟩,S0⟩)
  ·rintro x rest b s' ⟨hit,⟨rfl,rfl⟩,hS⟩;obtain ⟨k',kv,v,hx,hex,hh,hj,h1,h2⟩:=hS.step he;rw [hex];dsimp only;rw [bN (by rw [hh]; simp)];have hk':=his _ (F3 hx);refine aD (wpAny_dictEpoch ho hd (aD (eqs hk'.1 hk'.2 (aD (wpAny_dictEpoch ho hd ?_)))));show aF _ _ (if (ep != ep)=true then _ else _) _ E _;rw [bO (by simp)]
   by_cases e:k'=k
   ·rw [bQ e];have h0:hit=none:=by
     rcases hj with z | ⟨j,p,_,z2,z3⟩
     ·exact z
     ·exact absurd (Qjh hn z3 (show xs[x]?=some (k,kv,v) by rw [hx,e])) (by omega)
    subst h0
    first | rw [bN rfl] | skip
    simp only [Option.isSome_none,L6,if_false]
    first | refine aD (wpAny_pure ?_) | skip
    refine aD (ah ?_)
    split
    ·exact wpAny_pure (wpAny_pure (hsome x (kv,v) (by rw [hx,e])))
    ·exact wpAny_pure ⟨some x,⟨rfl,rfl⟩,h2 e⟩
   ·rw [bP e];simp only [L6,if_false];refine aD (ah ?_)
    first | rw [bO (by simp)] | skip
    first
     | exact wpAny_pure ⟨hit,⟨rfl,rfl⟩,h1 e⟩
     | exact aD (wpAny_pure (wpAny_pure ⟨hit,⟨rfl,rfl⟩,h1 e⟩))
  ·rintro b s' ⟨hit,⟨rfl,rfl⟩,hS⟩;exact wpAny_pure (fin hS)
 unfold dictFind
 try with_reducible refine aZ ?_
 refine aD (wpAny_dictEntries ho hd ?_);dsimp only;rw [hpl];have hany:∀ a,key=.ref a->¬ (es.any fun e=>e.key == key && e.hash != hkH prog w k)=true:=fun a ea z=>by
  rw [<- Array.any_toList,List.any_eq_true] at z;obtain ⟨e,hin,hc⟩:=z;obtain ⟨x,hx,rfl⟩:=hmem e (Array.mem_toList_iff.mp hin);have hc:((x.2.1 == key) && (hkH prog w x.1 != hkH prog w k))=true:=hc;rw [L8,beq_iff_eq,bne_iff_ne] at hc;have hx':=his x hx;rw [hc.1] at hx';exact hc.2 (by rw [KIs.inj 5 hx'.2 hkey.2 hx'.1 hkey.1])
 obtain ⟨st,est⟩:∃ st,pl.filterMap (fun i=>es[i]?.map (·.key))=st:=⟨_,rfl⟩
 rw [est] at hst;have hkey0:=hkey;cases k with
 | int i=>
  obtain ⟨t,rfl⟩:=hkey.1;dsimp only
  by_cases c:(Value.int i t :: pl.filterMap (fun i=>es[i]?.map (·.key))).all carriedByValue=true
  ·rw [bN c]; exact plain
  ·rw [bO c]
   by_cases h1:(pl.filterMap (fun i=>es[i]?.map (·.key)) == [Value.int i t])=true
   ·rw [bN h1]; exact aD (wpAny_pure (walk false rfl))
   ·rw [bO h1]; exact aD (Q3h hkey0 (by rw [est]; exact hst) (walk false rfl))
 | tup l=>
  obtain ⟨a,its,rfl,_⟩:=hkey.1;dsimp only
  by_cases c:(Value.ref a :: pl.filterMap (fun i=>es[i]?.map (·.key))).all carriedByValue=true
  ·rw [bN c]; exact plain
  ·rw [bO c,bO (hany a rfl)]
   by_cases h1:(pl.filterMap (fun i=>es[i]?.map (·.key)) == [Value.ref a])=true
   ·rw [bN h1]; exact aD (wpAny_pure (walk false rfl))
   ·rw [bO h1]; exact aD (Q3h hkey0 (by rw [est]; exact hst) (walk false rfl))
 | str x=>
  obtain ⟨t,rfl⟩:=hkey.1;dsimp only
  by_cases hall:(es.all fun e=>isExactStrKey e.key)=true
  ·rw [bN hall];unfold foundByValue;have key_of:∀ (j:Nat) (y:HK × aA × aA),xs[j]?=some y->(y.2.1.isStr x=true <-> y.1=.str x):=fun j y hj=>by
    have hy:=his y (F3 hj);constructor
    ·intro z;obtain ⟨k',kv,v⟩:=y;cases kv with
     | str z' t'=>
      have:z'=x:=by simpa [Value.isStr] using z
      subst this;exact KIs.inj 5 hy.2 hkey0.2 hy.1 ⟨t',rfl⟩
     | _=>simp [Value.isStr] at z
    ·intro z;have hy1:=hy.1;rw [z] at hy1;obtain ⟨t',e⟩:=hy1;rw [e];simp [Value.isStr]
   cases hf:es.findIdx? (fun e=>e.key.isStr x) with
   | none=>
    refine wpAny_pure (hnone fun j p hj=>?_);have:=Array.findIdx?_eq_none_iff.mp hf (vE prog w (.str x,p)) (Array.mem_of_getElem? (by rw [Q0f he j,hj]; rfl));have h2:=(key_of j (.str x,p) hj).mpr rfl;have h3:p.1.isStr x=false:=this;rw [show ((HK.str x,p).2.1)=p.1 from rfl] at h2;rw [h2] at h3;cases h3
   | some i=>
    obtain ⟨hlt,hi,_⟩:=Array.findIdx?_eq_some_iff_getElem.mp hf;have hsz:=jh he;obtain ⟨y,hy⟩:∃ y,xs[i]?=some y:=⟨_,O2 (by omega)⟩;have hei:es[i]?=some (vE prog w y):=by rw [Q0f he i,hy]; rfl
    have hi2:es[i]=vE prog w y:=by rw [Array.getElem?_eq_getElem hlt] at hei; exact Option.some.inj hei
    have hyk:y.1=.str x:=(key_of i y hy).mp (by
     have:(es[i]).key.isStr x=true:=hi;rw [hi2] at this;exact this)
    have hy':=his y (F3 hy);dsimp only;rw [hei];dsimp only;refine aD (wpAny_dictEpoch ho hd (aD (eqs hy'.1 hy'.2 (aD (wpAny_dictEpoch ho hd ?_)))));show aF _ _ (if (ep != ep)=true then _ else _) _ E _;rw [bO (by simp),bQ hyk];exact aD (ah (wpAny_pure (hsome i y.2 (by rw [hy,<- hyk]))))
  ·rw [bO hall]
   by_cases c:(Value.str x t :: pl.filterMap (fun i=>es[i]?.map (·.key))).all carriedByValue=true
   ·rw [bN c]; exact plain
   ·rw [bO c]
    by_cases h1:(pl.filterMap (fun i=>es[i]?.map (·.key)) == [Value.str x t])=true
    ·rw [bN h1]; exact aD (wpAny_pure (walk false rfl))
    ·rw [bO h1]; exact aD (Q3h hkey0 (by rw [est]; exact hst) (walk false rfl))
def vAt (xs:List (HK × aA × aA)) (k:HK):Option (aA × aA):=(xs.find? fun x=>decide (x.1=k)).map (·.2)
def Wn (k:HK) (v:aA) (x:HK × aA × aA):HK × aA × aA:=if x.1=k then (x.1,x.2.1,v) else x
def xf (xs:List (HK × aA × aA)) (k:HK) (kv v:aA):List (HK × aA × aA):=if (vAt xs k).isSome=true then xs.map (Wn k v) else xs ++ [(k,kv,v)]
def DictV (P:aL) (w:aJ) (h:Heap) (d:aB) (xs:List (HK × aA × aA)):Prop:=
 ∃ o es ep,h.get? d=some o/\o.ExactDict/\o.data=.dict es ep/\es.toList=xs.map (vE P w)/\(∀ x∈xs,KIs h x.1 x.2.1/\Dp 5 x.1)/\(xs.map (·.1)).Nodup
theorem DictV.typeIs {P:aL} (hm:DictV P w s.heap d xs):s.TypeIs (.ref d) "dict" := let ⟨o,_,_,ho,hc,_⟩:=hm; ⟨o,ho,hc.1⟩
theorem Q4q (x:HK × aA × aA) (xs:List (HK × aA × aA)) (k:HK):vAt (x :: xs) k=if x.1=k then some x.2 else vAt xs k:=by
 unfold vAt
 by_cases e:x.1=k
 ·rw [List.find?_cons_of_pos (by simpa using e),bN e]; rfl
 ·rw [List.find?_cons_of_neg (by simpa using e),bO e]
theorem xt:∀ {xs:List (HK × aA × aA)},(xs.map (·.1)).Nodup->∀ {j:Nat} {k:HK} {p:aA × aA},xs[j]?=some (k,p)->vAt xs k=some p
 | [],_,_,_,_,h=>by simp at h
 | x :: xs,hn,0,k,p,h=>by
  rw [List.getElem?_cons_zero] at h;cases h;rw [Q4q,bN rfl]
 | x :: xs,hn,j + 1,k,p,h=>by
  rw [List.getElem?_cons_succ] at h;rw [D9,L7] at hn;rw [Q4q,bO fun e=>hn.1 (by rw [e]; exact D8.mpr ⟨_,F3 h,rfl⟩)]
  exact xt hn.2 h
theorem ji (h:∀ (j:Nat) (p:aA × aA),xs[j]?≠some (k,p)):vAt xs k=none:=by
 unfold vAt;rw [Option.map_eq_none_iff,List.find?_eq_none];intro x hx e;obtain ⟨j,hj⟩:=List.getElem?_of_mem hx;have e:x.1=k:=of_decide_eq_true e;exact h j x.2 (by rw [hj,<- e])
theorem KIs.stays {h':Heap} {v:aA} (x:KIs h k v/\Dp 5 k) (ho:h.get? d=some o) (hd:o.data=.dict es ep) (hs:Heap.SameBut d h h'):KIs h' k v/\Dp 5 k:=
 ⟨KIs.keep (fun b its ⟨ob,h1,h2,n,h3⟩=>⟨ob,(hs.2 b fun e=>by
  subst e;rw [ho] at h1; cases h1;rw [hd] at h3; cases h3).trans h1,h2,n,h3⟩) 5 x.2 x.1,x.2⟩
theorem Qiv {Q:Option aA->aC->Prop} (hu:A.units + 5 < aO) (hkey:KIs s.heap k key/\Dp 5 k) (hm:DictV prog w s.heap d xs) (h:Q ((vAt xs k).map (·.2)) { s with toks:=s.toks + hkD k }):aF (aI prog w) A (dictGet d key) Q E s:=by
 obtain ⟨o,es,ep,ho,_,hd,he,his,hn⟩:=hm;unfold dictGet
 try with_reducible refine aZ ?_
 refine aD (Q02 5 hkey.2 hu hkey.1 (aD (Q6n (s:={ s with toks:=s.toks + hkD k }) hu hkey ho hd he his hn (fun hno=>?_) fun j p hj=>?_)))
 ·rw [ji hno] at h;exact wpAny_pure h
 ·rw [xt hn hj] at h;refine aD (wpAny_dictEntries (s:={ s with toks:=s.toks + hkD k }) ho hd ?_);rw [Q0f he j,hj];exact wpAny_pure h
theorem Q4p (v:aA):∀ {xs:List (HK × aA × aA)} {j:Nat} {p:aA × aA},(xs.map (·.1)).Nodup->xs[j]?=some (k,p)->(xs.map (vE prog w)).modify j (fun e=>{ e with val:=v })=(xs.map (Wn k v)).map (vE prog w)
 | [],_,_,_,h=>by simp at h
 | x :: xs,0,p,hn,h=>by
  rw [List.getElem?_cons_zero] at h;cases h;rw [D9,L7] at hn;have e:xs.map (Wn k v)=xs:=(G8 fun y hy=>by
   unfold Wn;exact bO fun z=>hn.1 (by rw [<- z]; exact D8.mpr ⟨y,hy,rfl⟩)).trans (List.map_id' xs)
  rw [D9,D9,D9,e];show _ :: _=vE prog w (if k=k then _ else _) :: _;rw [bN rfl]; rfl
 | x :: xs,j + 1,p,hn,h=>by
  rw [List.getElem?_cons_succ] at h;rw [D9,L7] at hn;rw [D9,D9,D9,List.modify_succ_cons,Q4p v hn.2 h];have:Wn k v x=x:=by
   unfold Wn;exact bO fun z=>hn.1 (by rw [z]; exact D8.mpr ⟨_,F3 h,rfl⟩)
  rw [this]
theorem Qji (xs:List (HK × aA × aA)) (v:aA):(xs.map (Wn k v)).map (·.1)=xs.map (·.1):=by
 rw [F4];refine G8 fun x _=>?_
 show (Wn k v x).1=x.1;unfold Wn
 split <;> rfl
theorem Qit {v:aA} {Q:Unit->aC->Prop} (hu:A.units + 5 < aO) (hkey:KIs s.heap k key/\Dp 5 k) (hm:DictV prog w s.heap d xs)
  (hQ:∀ h',DictV prog w h' d (xf xs k key v)->Heap.SameBut d s.heap h'->Q () { s with heap:=h',toks:=s.toks + hkD k }) (hsz:xs.length<=sizeLine):aF (aI prog w) A (dictSet d key v) Q E s:=by
 obtain ⟨o,es,ep,ho,hc,hd,he,his,hn⟩:=hm;unfold dictSet
 try with_reducible refine aZ ?_
 refine aD (Q02 5 hkey.2 hu hkey.1 ?_);unfold dictSetHashed
 try with_reducible refine aZ ?_
 refine aD (Q6n (s:={ s with toks:=s.toks + hkD k }) hu hkey ho hd he his hn (fun hno=>?_) fun j p hj=>?_)
 ·have e0:xf xs k key v=xs ++ [(k,key,v)]:=by unfold xf; rw [ji hno]; rfl
  refine aD (ah (wpAny_updateDictKeys (hz:=by have e:=jh he; omega) (s:={ s with toks:=s.toks + hkD k }) ho hd (hQ _ ⟨_,_,ep + 1,N0 _ ho (Obj.isFreed_of_dict (Obj.data_mapDictKeys hd _)),hc.mapDictKeys _,Obj.data_mapDictKeys hd _,?_,?_,?_⟩ (Heap.SameBut.update ..))))
  ·rw [e0]; simp [he,vE]
  ·rw [e0];intro x hx;rcases D0.mp hx with hx | hx
   ·exact KIs.stays (his x hx) ho hd (Heap.SameBut.update ..)
   ·rw [G7.mp hx];exact KIs.stays hkey ho hd (Heap.SameBut.update ..)
  ·rw [e0,E3,List.nodup_append];refine ⟨hn,by simp,fun x hx y hy e=>?_⟩;rw [G7.mp hy] at e;obtain ⟨z,hz,ez⟩:=D8.mp hx;obtain ⟨j,hj⟩:=List.getElem?_of_mem hz;exact hno j z.2 (by rw [hj,show z=(z.1,z.2) from rfl,ez,e])
 ·have e0:xf xs k key v=xs.map (Wn k v):=by unfold xf; rw [xt hn hj]; rfl
  refine aD (ah (aD (wpAny_updateDict (s:={ s with toks:=s.toks + hkD k }) ho hd (wpAny_point (hQ _ ⟨_,_,ep,N0 _ ho (Obj.isFreed_of_dict (Obj.data_mapDict hd _)),hc.mapDict _,Obj.data_mapDict hd _,?_,?_,?_⟩ (Heap.SameBut.update ..))))))
  ·rw [e0];have:=Q4p (prog:=prog) (w:=w) v hn hj;rw [<- he] at this;obtain ⟨l⟩:=es;simpa using this
  ·rw [e0];intro x hx;obtain ⟨y,hy,rfl⟩:=D8.mp hx;unfold Wn
   split <;> exact KIs.stays (his y hy) ho hd (Heap.SameBut.update ..)
  ·rw [e0,Qji]; exact hn
theorem Qiu {Q:Bool->aC->Prop} (hu:A.units + 6 < aO) (hkey:KIs s.heap k key/\Dp 5 k) (hd:(d == aa)=false) (hm:DictV prog w s.heap d xs) (h:Q (vAt xs k).isSome { s with toks:=s.toks + hkD k }):aF (aI prog w) A (contains (.ref d) key) Q E s:=by
 have T:=hm.typeIs;have nb:¬ (some (Value.builtin "dict.__contains__") == some Value.none)=true:=by rw [beq_builtin_none]; exact F0
 unfold contains
 try with_reducible refine aZ ?_
 refine aD (wpAny_specialOf T slot_dict_contains.lookup ?_);show aF _ _ (if (some (Value.builtin "dict.__contains__") == some Value.none)=true then _ else _) _ E s;rw [bO nb];refine aD (wpAny_callSpecialUnlessNone?_slot (name:=Str.ofString "__contains__") T slot_dict_contains (ag slot_dict_contains T entry_dict_contains ?_ (args_dict_contains _ _)));show aF _ _ (dictGet d key >>= _) _ _ s;refine aD (Qiv (A:=A.in1) (by show A.units + 1 + 5 < aO; omega) hkey hm ?_);cases hf:vAt xs k with
 | some p=>
  rw [hf] at h;show aF _ _ (ret (.bool true)) _ _ _;exact wpAny_pure ⟨_,rfl,az h⟩
 | none=>
  rw [hf] at h;show aF _ _ (Builtin.Dict.pendingKey? d key >>= _) _ _ _;exact aD (wpAny_pendingKey_other hd (wpAny_pure ⟨_,rfl,az h⟩))
theorem Qu5 {Q:aA->aC->Prop} (hu:A.units + 6 < aO) (hkey:KIs s.heap k key/\Dp 5 k) (hd:(d == aa)=false) (hm:DictV prog w s.heap d xs) (h:Q (.bool (vAt xs k).isSome) { s with toks:=s.toks + hkD k }):aF (aI prog w) A (aS .In key (.ref d)) Q E s:=
 aD (m:=contains (.ref d) key) (Qiu hu hkey hd hm (wpAny_pure h))
theorem Qfr {Q:aA->aC->Prop} (hu:A.units + 6 < aO) (hkey:KIs s.heap k key/\Dp 5 k) (hd:(d == aa)=false) (hm:DictV prog w s.heap d xs) (h:Q (.bool (!(vAt xs k).isSome)) { s with toks:=s.toks + hkD k }):aF (aI prog w) A (aS .NotIn key (.ref d)) Q E s:=
 aD (m:=contains (.ref d) key) (Qiu hu hkey hd hm (wpAny_pure h))
theorem Q9m {p:aA × aA} {Q:aA->aC->Prop} (hu:A.units + 6 < aO) (hkey:KIs s.heap k key/\Dp 5 k) (hm:DictV prog w s.heap d xs) (hp:vAt xs k=some p) (h:Q p.2 { s with toks:=s.toks + hkD k }):aF (aI prog w) A (getItem (.ref d) key) Q E s:=by
 have T:=hm.typeIs;unfold getItem
 try with_reducible refine aZ ?_
 refine aD (wpAny_sequenceKey T (by decide) (aD (wpAny_callSpecial?_slot (name:=Str.ofString "__getitem__") T slot_dict_getitem (ag slot_dict_getitem T entry_dict_getitem ?_ (args_dict_getitem _ _)))));show aF _ _ (dictGet d key >>= _) _ _ s;refine aD (Qiv (A:=A.in1) (by show A.units + 1 + 5 < aO; omega) hkey hm ?_);rw [hp];exact wpAny_pure ⟨p.2,rfl,wpAny_pure h⟩
theorem Q9k {v:aA} {Q:Unit->aC->Prop} (hu:A.units + 6 < aO) (hkey:KIs s.heap k key/\Dp 5 k) (hm:DictV prog w s.heap d xs)
  (hQ:∀ h',DictV prog w h' d (xf xs k key v)->Heap.SameBut d s.heap h'->Q () { s with heap:=h',toks:=s.toks + hkD k }) (hsz:xs.length<=sizeLine):aF (aI prog w) A (setItem (.ref d) key v) Q E s:=by
 have T:=hm.typeIs;unfold setItem
 try with_reducible refine aZ ?_
 refine aD (wpAny_sequenceKey T (by decide) (aD (wpAny_callSpecial?_slot (name:=Str.ofString "__setitem__") T slot_dict_setitem (ag slot_dict_setitem T entry_dict_setitem ?_ (args_dict_setitem _ _ _)))));show aF _ _ (Builtin.Dict.notOrdered "__setitem__" ⟨[.ref d,key,v],[]⟩ >>= _) _ _ s;refine aD (wpAny_notOrdered_dict T ?_);show aF _ _ (dictSet d key v >>= _) _ _ s;exact aD (Qit (A:=A.in1) (by show A.units + 1 + 5 < aO; omega) hkey hm (fun h' hm' hs'=>wpAny_pure ⟨.none,rfl,wpAny_pure (hQ h' hm' hs')⟩) hsz)
theorem Q3i {v:aA} (hd:(d == aa)=false):MeetsIn prog w (Builtin.«dict.setdefault» ⟨[.ref d,key,v],[]⟩) (fun A R s=>A.units + 6 < aO/\∃ k xs,(KIs s.heap k key/\Dp 5 k)/\DictV prog w s.heap d xs/\xs.length<=sizeLine /\
  (∀ p,vAt xs k=some p->R (.ok (.ret p.2)) { s with toks:=s.toks + hkD k })/\(vAt xs k=none->∀ h',DictV prog w h' d (xf xs k key v)->Heap.SameBut d s.heap h'->R (.ok (.ret v)) { s with heap:=h',toks:=s.toks + hkD k })):=
 .of_wp fun A R s ⟨hu,k,xs,hkey,hm,hsz,h1,h2⟩=>by
  have T:=hm.typeIs;show aF _ _ (Builtin.Dict.keyAndDefault "setdefault" ⟨[.ref d,key,v],[]⟩ >>= _) _ _ s;refine aD ?_;unfold Builtin.Dict.keyAndDefault;refine aD (wpAny_notOrdered_dict T ?_);show aF _ _ (pure (d,key,some v):Sem (aB × aA × Option aA)) _ _ s;refine wpAny_pure ?_;show aF _ _ (if (d == aa)=true then _ else _) _ _ s;rw [bO (by rw [hd]; exact F0)];refine aD ?_;show aF _ _ (dictSetDefault d key v) _ _ s;obtain ⟨o,es,ep,ho,hc,hdd,he,his,hn⟩:=hm;have hu5:A.in1.units + 5 < aO:=by show A.units + 1 + 5 < aO; omega
  unfold dictSetDefault
  try with_reducible refine aZ ?_
  refine aD (Q02 5 hkey.2 hu5 hkey.1 (aD (Q6n (s:={ s with toks:=s.toks + hkD k }) hu5 hkey ho hdd he his hn (fun hno=>?_) fun j p hj=>?_)))
  ·have e0:xf xs k key v=xs ++ [(k,key,v)]:=by unfold xf; rw [ji hno]; rfl
   refine aD (ah (aD (wpAny_updateDictKeys (hz:=by have e:=jh he; omega) (s:={ s with toks:=s.toks + hkD k }) ho hdd (wpAny_pure (wpAny_pure ⟨v,rfl,h2 (ji hno) _ ⟨_,_,ep + 1,N0 _ ho (Obj.isFreed_of_dict (Obj.data_mapDictKeys hdd _)),hc.mapDictKeys _,Obj.data_mapDictKeys hdd _,?_,?_,?_⟩ (Heap.SameBut.update ..)⟩)))))
   ·rw [e0]; simp [he,vE]
   ·rw [e0];intro x hx;rcases D0.mp hx with hx | hx
    ·exact KIs.stays (his x hx) ho hdd (Heap.SameBut.update ..)
    ·rw [G7.mp hx];exact KIs.stays hkey ho hdd (Heap.SameBut.update ..)
   ·rw [e0,E3,List.nodup_append];refine ⟨hn,by simp,fun x hx y hy e=>?_⟩;rw [G7.mp hy] at e;obtain ⟨z,hz,ez⟩:=D8.mp hx;obtain ⟨j,hj⟩:=List.getElem?_of_mem hz;exact hno j z.2 (by rw [hj,show z=(z.1,z.2) from rfl,ez,e])
  ·refine aD (wpAny_dictEntries (s:={ s with toks:=s.toks + hkD k }) ho hdd ?_);rw [Q0f he j,hj];exact aD (ah (wpAny_pure (wpAny_pure ⟨p.2,rfl,h1 p (xt hn hj)⟩)))
end
theorem Q5t (prog:aL) (w:aJ) (i:Int) (t:Tok):(Y8 prog w).is (.inl i) (.int i t)=true:=yg i t
theorem Q5s (prog:aL) (w:aJ) (x:Str) (t:Tok):(Y8 prog w).is (.inr x) (.str x t)=true:=yf x t
end
inductive V where
 | non | bl (b:Bool) | int (i:Int) | str (x:Str) | byt (b:Array UInt8) | flt (b:UInt64) | ref (a:aB) | ty (n:String)
 deriving DecidableEq
variable {v:V} {vs:List V}
def RelV:V->aA->Prop
 | .non,u=>u=Value.none
 | .bl b,u=>u=Value.bool b
 | .int i,u=>∃ t,u=Value.int i t
 | .str x,u=>∃ t,u=Value.str x t
 | .byt b,u=>∃ t,u=Value.bytes b t
 | .flt b,u=>∃ t,u=Value.float b t
 | .ref a,u=>u=Value.ref a
 | .ty n,u=>u=Value.type n
abbrev Vals:List V->List aA->Prop:=aq RelV
theorem Vals.length {xs:List V} (r:Vals xs us):xs.length=us.length:=Paired.length r
theorem Vals.get:∀ {xs:List V} {us:List aA} {i:Nat} {x:V},Vals xs us->xs[i]?=some x->∃ u,us[i]?=some u/\RelV x u
 | _,_,_,_,.nil,e=>by simp at e
 | _,_,0,_,.cons r _,e=>by simp at e; subst e; exact ⟨_,rfl,r⟩
 | _,_,i + 1,x,.cons _ t,e=>by
  obtain ⟨u,h1,h2⟩:=Vals.get (i:=i) (x:=x) t (by simpa using e);exact ⟨u,by simpa using h1,h2⟩
theorem Vals.set {x:V} (r:RelV x u):∀ {xs:List V} {us:List aA} (i:Nat),Vals xs us->Vals (xs.set i x) (us.set i u)
 | _,_,_,.nil=>.nil
 | _,_,0,.cons _ t=>.cons r t
 | _,_,i + 1,.cons q t=>.cons q (Vals.set r i t)
theorem Vals.append:∀ {xs ys:List V} {us ws:List aA},Vals xs us->Vals ys ws->Vals (xs ++ ys) (us ++ ws)
 | _,_,_,_,.nil,s=>s
 | _,_,_,_,.cons r t,s=>.cons r (Vals.append t s)
theorem Vals.take:∀ {xs:List V} {us:List aA} (n:Nat),Vals xs us->Vals (xs.take n) (us.take n)
 | _,_,0,_=>.nil
 | _,_,_ + 1,.nil=>.nil
 | _,_,n + 1,.cons r t=>.cons r (Vals.take n t)
theorem Vals.drop:∀ {xs:List V} {us:List aA} (n:Nat),Vals xs us->Vals (xs.drop n) (us.drop n)
 | _,_,0,r=>r
 | _,_,_ + 1,.nil=>.nil
 | _,_,n + 1,.cons _ t=>Vals.drop n t
def RelO:Option V->Option aA->Prop
 | some v,some u=>RelV v u
 | none,none=>True
 | _,_=>False
def KV {κ:Type}:List (κ × V)->List (κ × aA)->Prop:=aq fun (p:κ × V) (q:κ × aA)=>p.1=q.1/\RelV p.2 q.2
def kV:Key->V
 | .inl i=>.int i
 | .inr x=>.str x
inductive HO where
 | lst (xs:List V)
 | tup (xs:List V)
 | dK (kvs:List (Key × V)) | dT (kvs:List (HK × V))
 | set (S:Int->Bool) (n:Nat)
 | ins (C dx:aB) (fs:List (Str × V))
 | own (x:aB)
 | xd (fs:List (Str × V))
 | met (f x:aB)
 | rng (lo hi:Int)
 | frz (o:Obj) (u:HO)
 | tbl (ps:Array aA)
 | ext (φ:Heap->Prop)
variable {o:HO}
abbrev Hp:=aB->Option HO
variable {H:Hp}
def upd (H:Hp) (a:aB) (o:HO):Hp:=fun b=>if b=a then some o else H b
theorem Qu :upd H a o a=some o:=by unfold upd; rw [bN rfl]
theorem Q8 (h:b≠a):upd H a o b=H b:=by unfold upd; rw [bO h]
theorem Qdf {u:HO} (h:H a=some o) (h':H b=some u) (d:o≠u):a≠b:=by
 intro e; subst e; rw [h] at h'; exact d (Option.some.inj h')
theorem Qa (h:H a=some o) (h':H b=none):a≠b:=by
 intro e; subst e; rw [h] at h'; cases h'
mutual
def KAt (H:Hp):HK->V->Prop
 | .int i,v=>v=.int i
 | .str x,v=>v=.str x
 | .tup l,v=>∃ a vs,v=.ref a/\H a=some (.tup vs)/\KAtL H l vs
def KAtL (H:Hp):List HK->List V->Prop
 | [],vs=>vs=[]
 | k :: l,vs=>∃ v r,vs=v :: r/\KAt H k v/\KAtL H l r
end
mutual
theorem KAt.keep {H H':Hp} (ht:∀ b xs,H b=some (.tup xs)->H' b=some (.tup xs)):∀ {k:HK} {v:V},KAt H k v->KAt H' k v
 | .int _,_,r=>r
 | .str _,_,r=>r
 | .tup _,_,⟨a,vs,e,h,r⟩=>⟨a,vs,e,ht a vs h,KAtL.keep ht r⟩
theorem KAtL.keep {H H':Hp} (ht:∀ b xs,H b=some (.tup xs)->H' b=some (.tup xs)):∀ {l:List HK} {vs:List V},KAtL H l vs->KAtL H' l vs
 | [],_,r=>r
 | _ :: _,_,⟨v,r,e,h,t⟩=>⟨v,r,e,KAt.keep ht h,KAtL.keep ht t⟩
end
def KR (H:Hp) (k:HK) (b:V):Prop:=KAt H k b/\Dp 5 k
theorem KR.keep {H':Hp} {k:HK} {b:V} (r:KR H k b) (ht:∀ b xs,H b=some (.tup xs)->H' b=some (.tup xs)):KR H' k b:=⟨r.1.keep ht,r.2⟩
section
variable (P:aL) (w:aJ)
def ObjOk (H:Hp) (h:Heap) (a:aB):HO->Prop
 | .lst xs=>xs.length<=sizeLine/\∃ (its:List aA) (n:Nat),Vals xs its/\h.get? a=some { cls:=.type "list",data:=.seq its.toArray n }
 | .tup xs=>xs.length<=sizeLine/\∃ its:List aA,Vals xs its/\IsTup h a its.toArray
 | .dK kvs=>kvs.length<=sizeLine/\(a == aa)=false/\∃ vs,KV kvs vs/\h.DictOf (Y8 P w) a vs
 | .dT kvs=>kvs.length<=sizeLine/\(a == aa)=false/\∃ xs:List (HK × aA × aA),
   aq (fun (p:HK × V) (q:HK × aA × aA)=>p.1=q.1/\(∃ u,KR H p.1 u/\RelV u q.2.1)/\RelV p.2 q.2.2) kvs xs /\
   ∃ o es ep,h.get? a=some o/\o.ExactDict/\o.data=.dict es ep/\es.toList=xs.map (vE P w)/\(xs.map (·.1)).Nodup
 | .set S n=>h.SetOf (intKind P w) a S n
 | .ins C dx fs=>H dx=some (.own a)/\fs.length<=1000/\dx≠a/\h.get? a=some (PySem.W.instObj C dx) /\
   ∃ mA,h.Ns1 dx mA/\(∀ f,RelO (fs.lookup f) (mA f))/\PySem.Within mA (fs.map (·.1))
 | .own _=>∃ o,h.get? a=some o
 | .xd fs=>∃ mA,h.Ns1 a mA/\∀ f,RelO (fs.lookup f) (mA f)
 | .rng lo hi=>∃ t u v,h.get? a=some { cls:=.type "range",data:=.fields #[.int lo t,.int hi u,.int 1 v] }
 | .frz o u=>h.get? a=some o/\ObjOk H h a u
 | .tbl ps=>h.get? a=some { cls:=.none,data:=.fields ps }
 | .met f x=>h.get? a=some (PySem.W.methodObj (.ref f) (.ref x))
 | .ext φ=>φ h/\(∃ o,h.get? a=some o)/\∀ h1 h2:Heap,φ h1->(∀ o,h1.get? a=some o->h2.get? a=some o)->φ h2
def HOk (H:Hp) (h:Heap):Prop:=∀ a o,H a=some o->ObjOk P w H h a o
end
variable {P:aL} {H H':Hp} {h h':Heap} {a:aB} {o:HO}
section
variable {w:aJ}
theorem ObjOk.lt (x:ObjOk P w H h a o):a < h.objs.size:=by
 cases o with
 | lst xs=>obtain ⟨_,_,_,_,e⟩:=x; exact E6 e
 | tup xs=>obtain ⟨_,_,_,p⟩:=x; exact p.lt
 | dK kvs=>obtain ⟨_,_,_,_,o,_,_,e,_⟩:=x; exact E6 e
 | dT kvs=>obtain ⟨_,_,_,_,o,_,_,e,_⟩:=x; exact E6 e
 | set S n=>obtain ⟨o,_,_,_,e,_⟩:=x; exact E6 e
 | ins C dx fs=>obtain ⟨_,_,_,e,_⟩:=x; exact E6 e
 | own y=>obtain ⟨_,e⟩:=x; exact E6 e
 | xd fs=>obtain ⟨_,⟨_,_,_,e,_⟩,_⟩:=x; exact E6 e
 | rng lo hi=>obtain ⟨_,_,_,e⟩:=x; exact E6 e
 | frz ob u=>obtain ⟨e,_⟩:=x; exact E6 e
 | tbl ps=>exact E6 (show h.get? a=some _ from x)
 | met f y=>exact E6 (show h.get? a=some _ from x)
 | ext φ=>obtain ⟨_,⟨_,e⟩,_⟩:=x; exact E6 e
theorem Paired.mapP {β:Type} {F G:α->β->Prop}:∀ {l₁:List α} {l₂:List β},aq F l₁ l₂->(∀ a b,F a b->G a b)->aq G l₁ l₂
 | _,_,.nil,_=>.nil
 | _,_,.cons r t,f=>.cons (f _ _ r) (Paired.mapP t f)
theorem ObjOk.stay (x:ObjOk P w H h a o) (k:∀ b u,(b=a\/H b=some (.own a))->h.get? b=some u->h'.get? b=some u)
  (ho:∀ b,H b=some (.own a)->H' b=some (.own a)) (ht:∀ b xs,H b=some (.tup xs)->H' b=some (.tup xs)):ObjOk P w H' h' a o:=by
 induction o with
 | lst xs=>obtain ⟨z,its,n,r,e⟩:=x; exact ⟨z,its,n,r,k _ _ (.inl rfl) e⟩
 | tup xs=>obtain ⟨z,its,r,ob,e,c⟩:=x; exact ⟨z,its,r,ob,k _ _ (.inl rfl) e,c⟩
 | dK kvs=>obtain ⟨z,y,vs,r,ob,es,ep,e,c⟩:=x; exact ⟨z,y,vs,r,ob,es,ep,k _ _ (.inl rfl) e,c⟩
 | dT kvs=>
  obtain ⟨z,y,xs,r,ob,es,ep,e,c⟩:=x;exact ⟨z,y,xs,Paired.mapP r fun p q z=>⟨z.1,(let ⟨u,a,b⟩:=z.2.1; ⟨u,a.keep ht,b⟩),z.2.2⟩,ob,es,ep,k _ _ (.inl rfl) e,c⟩
 | set S n=>obtain ⟨ob,es,ep,t,e,c⟩:=x; exact ⟨ob,es,ep,t,k _ _ (.inl rfl) e,c⟩
 | ins C dx fs=>
  obtain ⟨d,z,ne,e,mA,⟨od,es,ep,e2,c⟩,r⟩:=x;exact ⟨ho _ d,z,ne,k _ _ (.inl rfl) e,mA,⟨od,es,ep,k _ _ (.inr d) e2,c⟩,r⟩
 | own y=>obtain ⟨ob,e⟩:=x; exact ⟨ob,k _ _ (.inl rfl) e⟩
 | xd fs=>obtain ⟨mA,⟨od,es,ep,e,c⟩,r⟩:=x; exact ⟨mA,⟨od,es,ep,k _ _ (.inl rfl) e,c⟩,r⟩
 | rng lo hi=>obtain ⟨t,u,v,e⟩:=x; exact ⟨t,u,v,k _ _ (.inl rfl) e⟩
 | frz ob u ih=>obtain ⟨e,q⟩:=x; exact ⟨k _ _ (.inl rfl) e,ih q⟩
 | tbl ps=>
  have e:h.get? a=some { cls:=.none,data:=.fields ps }:=x;show h'.get? a=some { cls:=.none,data:=.fields ps };exact k a _ (.inl rfl) e
 | met f y=>
  have e:h.get? a=some (PySem.W.methodObj (.ref f) (.ref y)):=x;show h'.get? a=some (PySem.W.methodObj (.ref f) (.ref y));exact k a _ (.inl rfl) e
 | ext φ=>obtain ⟨p,⟨o,e⟩,st⟩:=x; exact ⟨st _ _ p fun o q=>k _ _ (.inl rfl) q,⟨o,k _ _ (.inl rfl) e⟩,st⟩
theorem HOk.lt (x:HOk P w H h) (e:H a=some o):a < h.objs.size:=(x a o e).lt
theorem HOk.fresh (x:HOk P w H h) (e:h.objs.size<=a):H a=none:=by
 cases q:H a with
 | none=>rfl
 | some u=>exact absurd (E4 (x.lt q) e) (Nat.lt_irrefl _)
theorem HOk.kept (x:HOk P w H h) (k:∀ b u,h.get? b=some u->h'.get? b=some u):HOk P w H h':=fun a o e=>
 (x a o e).stay (fun b u _ q=>k b u q) (fun _ q=>q) fun _ _ q=>q
theorem HOk.laid (x:HOk P w H h) (k:∀ b u,h.get? b=some u->h'.get? b=some u) (hp:h.objs.size<=a) (new:ObjOk P w (upd H a o) h' a o):HOk P w (upd H a o) h':=fun b u e=>by
 have hn:=x.fresh hp
 by_cases hb:b=a
 ·subst hb; rw [Qu] at e; cases e; exact new
 ·rw [Q8 hb] at e;exact (x b u e).stay (fun c v _ q=>k c v q) (fun c q=>by rw [Q8 (Qa q hn)]; exact q) fun c xs q=>by rw [Q8 (Qa q hn)]; exact q
end
def Rd (H:Hp) (a:aB) (u:HO):Prop:=H a=some u\/∃ o,H a=some (.frz o u)
theorem Rd.ok {w:aJ} {u:HO} (r:Rd H a u) (x:HOk P w H h):ObjOk P w H h a u:=by
 rcases r with r | ⟨o,r⟩
 ·exact x a u r
 ·obtain ⟨_,q⟩:=x a _ r;exact q
def Mut:Option HO->Prop
 | some (.lst _)=>True
 | some (.dK _)=>True
 | some (.dT _)=>True
 | some (.set _ _)=>True
 | some (.ins _ _ _)=>True
 | some (.ext _)=>True
 | _=>False
variable {x e:aB} {o':HO}
section
variable {w:aJ}
theorem HOk.write (ok:HOk P w H h) (mu:Mut (H x)) (he:e=x\/H e=some (.own x)) (k:∀ b u,b≠e->h.get? b=some u->h'.get? b=some u) (heo:∃ u,h'.get? e=some u)
  (new:ObjOk P w (upd H x o') h' x o'):HOk P w (upd H x o') h':=fun b u q=>by
 have nown:∀ c y,H c=some (.own y)->c≠x:=fun c y r z=>by subst z; rw [r] at mu; exact mu
 have ntup:∀ c xs,H c=some (.tup xs)->c≠x:=fun c xs r z=>by subst z; rw [r] at mu; exact mu
 by_cases hb:b=x
 ·subst hb; rw [Qu] at q; cases q; exact new
 ·rw [Q8 hb] at q
  by_cases hbe:b=e
  ·have q':H b=some (.own x):=by
    rcases he with z | z
    ·exact absurd (hbe.trans z) hb
    ·rw [hbe]; exact z
   rw [q] at q'; cases q';obtain ⟨v,hv⟩:=heo;exact ⟨v,by rw [hbe]; exact hv⟩
  ·refine (ok b u q).stay (fun c v hc r=>k c v ?_ r) (fun c r=>by rw [Q8 (nown c b r)]; exact r) fun c xs r=>by rw [Q8 (ntup c xs r)]; exact r
   rcases hc with rfl | hc
   ·exact hbe
   ·rintro rfl;rcases he with z | z
    ·exact nown c b hc z
    ·rw [hc] at z; cases z; exact hb rfl
end
structure Un (fs ex:List aB) (H H':Hp) (h h':Heap):Prop where
 keep:∀ b o,h.get? b=some o->H b=none->b∉fs->b∉ex->h'.get? b=some o
 slot:∀ b o,h.get? b=some o->H b=none->b∈fs->b∉ex->∃ sl,h'.get? b=some { o with slots:=sl }
 free:∀ b o,h.get? b=some o->H b=none->b∉ex->H' b=none
 there:∀ b o,h.get? b=some o->b∉ex->∃ o',h'.get? b=some o'
 tups:∀ b xs,H b=some (.tup xs)->H' b=some (.tup xs)
 frzs:∀ b o u,H b=some (.frz o u)->H' b=some (.frz o u)
 tbls:∀ b ps,H b=some (.tbl ps)->∃ more,H' b=some (.tbl (ps ++ more))
variable {fs' ex ex':List aB} {H1 H2:Hp} {h1 h2:Heap}
section
variable {fs:List aB}
theorem Un.any (u:Un fs ex H H1 h h1) {ob:Obj} (q:h.get? b=some ob) (n:H b=none) (hx:b∉ex):∃ sl,h1.get? b=some { ob with slots:=sl }:=by
 by_cases hb:b∈fs
 ·exact u.slot b ob q n hb hx
 ·exact ⟨ob.slots,u.keep b ob q n hb hx⟩
theorem Un.kept (k:∀ b u,h.get? b=some u->h'.get? b=some u):Un fs ex H H h h':=
 ⟨fun b ob q _ _ _=>k b ob q,fun b ob q _ _ _=>⟨ob.slots,k b ob q⟩,fun _ _ _ n _=>n,fun b ob q _=>⟨ob,k b ob q⟩,fun _ _ q=>q,fun _ _ _ q=>q,fun _ ps q=>⟨#[],by rw [q]; simp⟩⟩
theorem Un.refl:Un fs ex H H h h:=Un.kept fun _ _ q=>q
theorem Un.laid (k:∀ b u,h.get? b=some u->h'.get? b=some u) (hp:h.objs.size<=a) (hn:H a=none):Un fs ex H (upd H a o) h h' where
 keep:=fun b u q _ _ _=>k b u q
 slot:=fun b u q _ _ _=>⟨u.slots,k b u q⟩
 free:=fun b u q n _=>by rw [Q8 (F8 (E4 (E6 q) hp))]; exact n
 there:=fun b u q _=>⟨u,k b u q⟩
 tups:=fun b xs q=>by rw [Q8 (Qa q hn)]; exact q
 frzs:=fun b u xs q=>by rw [Q8 (Qa q hn)]; exact q
 tbls:=fun b ps q=>⟨#[],by rw [Q8 (Qa q hn),q]; simp⟩
theorem Un.write (mu:Mut (H x)) (he:e=x\/H e=some (.own x)) (k:∀ b u,b≠e->h.get? b=some u->h'.get? b=some u) (heo:∃ u,h'.get? e=some u):Un fs ex H (upd H x o) h h':=by
 have hx:∀ b,H b=none->b≠x:=fun b n z=>by subst z; rw [n] at mu; exact mu
 have hb:∀ b,H b=none->b≠e:=fun b n z=>by
  subst z;rcases he with r | r
  ·exact hx b n r
  ·rw [n] at r; cases r
 have hm:∀ b u,H b=some u->¬ Mut (some u)->b≠x:=fun b u q nm z=>by subst z; rw [q] at mu; exact nm mu
 refine ⟨fun b u q n _ _=>k b u (hb b n) q,fun b u q n _ _=>⟨u.slots,k b u (hb b n) q⟩,fun b u q n _=>by rw [Q8 (hx b n)]; exact n,fun b u q _=>?_,
  fun b xs q=>by rw [Q8 (hm b _ q fun z=>z)]; exact q,fun b u xs q=>by rw [Q8 (hm b _ q fun z=>z)]; exact q,fun b ps q=>⟨#[],by rw [Q8 (hm b _ q fun z=>z),q]; simp⟩⟩
 by_cases hbe:b=e
 ·subst hbe; exact heo
 ·exact ⟨u,k b u hbe q⟩
end
def trk (h:Heap) (H:Hp):List aB:=(List.range h.objs.size).filter fun a=>(H a).isSome
def Q47 (h:Heap) (H:Hp):Heap:=PySem.W.hideAll h (trk h H)
theorem Qaq (h:Heap) (H:Hp):(Q47 h H).objs.size=h.objs.size:=PySem.W.hideAll_size _ _
theorem Qe7 {o:Obj} (e:h.get? b=some o) (n:H b=none):(Q47 h H).get? b=some o:=
 PySem.W.hideAll_get _ e fun hm=>by
  have q:(H b).isSome=true:=(List.mem_filter.mp hm).2;rw [n] at q; simp at q
theorem Qhj {o:Obj} (e:(Q47 h H).get? b=some o):h.get? b=some o/\H b=none:=by
 have e':h.get? b=some o:=PySem.W.of_hideAll (trk h H) e;refine ⟨e',?_⟩;cases q:H b with
 | none=>rfl
 | some x=>
  have hm:b∈trk h H:=List.mem_filter.mpr ⟨G9.mpr (E6 e'),by simp [q]⟩;have z:(Q47 h H).get? b=none:=PySem.W.hideAll_none (trk h H) hm;rw [z] at e; cases e
def Qiq (g h:Heap) (L:aB):List (aB × Obj):=(List.range h.objs.size).filterMap fun a=>if a=L\/(g.get? a).isSome=true then none else (h.get? a).map fun o=>(a,o)
def rest (g h:Heap) (L d:aB):List (aB × Obj):=(Qiq g h L).filter fun p=>decide (p.1≠d)
structure Mod (K:PySem.W.Frag) (mg:Str->Option aA) (base:Heap):Prop where
 kin:K.In base
 glob:base.Ns aR mg
 blt:∃ mb,base.Ns builtinsNs mb/\∀ x:Str,x≠"__name__" -> mb x=aW x
 nolimit:base.NoLimit
structure Cx where
 prog:aL
 w:aJ
 K:PySem.W.Frag
 mg:Str->Option aA
 base:Heap
 A:aQ
 N:List Str
 s₀:aC
 H₀:Hp
 env:Env
 outer:List Env
 stack:List Env
 ex:List aB
 fn:Str->Bool
 calm:Bool
 pn:List (aB × Obj)
 xe:aA->aC->Prop
def frs (l:List Env):List aB:=l.filterMap (·.frame)
abbrev Cx.fs (X:Cx):List aB:=frs X.outer
def Vis (sc:Scope) (x:Str):Prop:=sc.names.lookup x=some .local\/sc.names.lookup x=some .cell\/sc.names.lookup x=some .free
def Loc (sc:Scope) (x:Str):Prop:=sc.names.lookup x=some .local\/sc.names.lookup x=some .cell
def Qvd (env:Env) (h:Heap) (m:Str->Option aA) (x:Str) (u:aA):Prop:=
 (env.kindOf x=some .local/\m x=some u)\/((env.kindOf x=some .cell\/env.kindOf x=some .free)/\∃ c,env.cells.lookup x=some c/\h.IsCell c (some u))
structure Cx.Ok (X:Cx):Prop where
 mod:Mod X.K X.mg X.base
 kind:X.env.scope.kind=.function
 glob:X.env.globals=aR
 blt:X.env.builtins=builtinsNs
 above:X.s₀.heap.objs.size<=X.env.locals
 inj:∀ x y c,X.env.cells.lookup x=some c->X.env.cells.lookup y=some c->x=y
 has:∀ x,(X.env.kindOf x=some .cell\/X.env.kindOf x=some .free)->∃ c,X.env.cells.lookup x=some c
 cab:∀ x c,X.fn x=true->X.env.cells.lookup x=some c->X.s₀.heap.objs.size<=c
 hd:X.calm=true->X.A.handled=none
 frames:X.A.frames=some X.stack
 stk:X.stack=X.outer\/(X.stack=X.env :: X.outer/\X.env.frame=some X.env.locals)
 exf:∀ b∈X.ex,b≠X.env.locals/\∀ x c,X.env.cells.lookup x=some c->c≠b
 bs:∀ b o,X.base.get? b=some o->X.s₀.heap.get? b=some o/\X.H₀ b=none
 bsz:X.base.objs.size<=X.s₀.heap.objs.size
 noex:∀ b o,X.base.get? b=some o->b∉X.ex
 exfs:∀ b∈X.ex,b∉X.fs
 funs:X.s₀.heap.FunFrames X.base X.outer
 frf:∀ b∈X.fs,X.H₀ b=none
structure Inv (X:Cx) (pins:List (aB × Obj)) (σ:List (Option V)) (H:Hp) (s:aC):Prop where
 ok:X.Ok
 os:s.os=X.s₀.os
 bare:AllBare s.gens
 base:Un X.fs X.ex X.H₀ H X.s₀.heap s.heap
 loc:∃ m,s.heap.Ns X.env.locals m/\∀ (i:Nat) (x:Str) (v:V),X.N[i]?=some x->σ[i]?=some (some v)->Vis X.env.scope x->∃ u,RelV v u/\Qvd X.env s.heap m x u
 cell:∀ x c,X.env.cells.lookup x=some c->∃ v,s.heap.IsCell c v
 free:H X.env.locals=none
 freeC:∀ x c,X.env.cells.lookup x=some c->H c=none
 pin:∀ p∈X.pn ++ pins,s.heap.get? p.1=some p.2/\H p.1=none/\p.1≠X.env.locals/\p.1∉X.fs/\∀ v,p.2.data≠.cell v
 hok:HOk X.prog X.w H s.heap
 len:σ.length=X.N.length
variable {X:Cx} {pins:List (aB × Obj)} {σ:List (Option V)} {s:aC}
theorem Cx.Ok.nofr (ok:X.Ok) {o:Obj} (e:X.base.get? b=some o):b∉X.fs:=fun hb=>by
 have:=(ok.funs.mem hb).1;rw [e] at this; cases this
theorem Inv.bs (I:Inv X pins σ H s):∀ b o,X.base.get? b=some o->s.heap.get? b=some o/\H b=none:=fun b o e=>
 ⟨I.base.keep b o (I.ok.bs b o e).1 (I.ok.bs b o e).2 (I.ok.nofr e) (I.ok.noex b o e),I.base.free b o (I.ok.bs b o e).1 (I.ok.bs b o e).2 (I.ok.noex b o e)⟩
theorem Inv.bk (I:Inv X pins σ H s):∀ b o,X.base.get? b=some o->s.heap.get? b=some o:=fun b o e=>(I.bs b o e).1
theorem Inv.mod (I:Inv X pins σ H s):Mod X.K X.mg X.base:=I.ok.mod
theorem Inv.kIn (I:Inv X pins σ H s):X.K.In s.heap:=I.ok.mod.kin.keeps I.bk
theorem Inv.lt (I:Inv X pins σ H s):X.env.locals < s.heap.objs.size:=let ⟨_,hn,_⟩:=I.loc; hn.lt
theorem Inv.sz (I:Inv X pins σ H s):X.s₀.heap.objs.size<=s.heap.objs.size:=F6 I.ok.above (Nat.le_of_lt I.lt)
theorem Inv.nofs (I:Inv X pins σ H s) (h:s.heap.objs.size<=a):a∉X.fs:=fun hb=>by
 obtain ⟨_,o,ho,_⟩:=I.ok.funs.mem hb;exact absurd (E4 (E6 ho) (F6 I.sz h)) (Nat.lt_irrefl _)
theorem Inv.cne (I:Inv X pins σ H s):∀ x c,X.env.cells.lookup x=some c->c≠X.env.locals:=fun x c e z=>by
 obtain ⟨v,o,ho,hd⟩:=I.cell x c e;obtain ⟨m,⟨o',es,ep,ho',hd',_⟩,_⟩:=I.loc;rw [z,ho'] at ho; cases ho; rw [hd'] at hd; cases hd
theorem Inv.funs (I:Inv X pins σ H s):s.heap.FunFrames X.base X.outer:=by
 have all:∀ (l:List Env),(∀ b∈frs l,b∈X.fs)->X.s₀.heap.FunFrames X.base l->s.heap.FunFrames X.base l:=by
  intro l
  induction l with
  | nil=>intro _ _; trivial
  | cons env r ih=>
   intro hs hl;obtain ⟨hk,⟨L,o,hf,hn,ho,hd⟩,hr⟩:=hl;have hL:L∈X.fs:=hs L (by unfold frs; rw [List.filterMap_cons,hf]; exact D1);obtain ⟨sl,e⟩:=I.base.slot L o ho (I.ok.frf L hL) hL fun z=>I.ok.exfs L z hL
   exact ⟨hk,⟨L,_,hf,hn,e,hd⟩,ih (fun b hb=>hs b (by unfold frs; rw [List.filterMap_cons,hf]; exact O7 _ hb)) hr⟩
 exact all X.outer (fun _ hb=>hb) I.ok.funs
theorem Inv.stack (I:Inv X pins σ H s):s.heap.FunFrames X.base X.stack:=by
 rcases I.ok.stk with e | ⟨e,hf⟩
 ·rw [e]; exact I.funs
 ·rw [e];obtain ⟨m,hn,_⟩:=I.loc;refine .cons (by rw [I.ok.kind]; decide) hf hn ?_ I.funs;exact Heap.get?_none_of_le (F6 I.ok.bsz I.ok.above)
theorem Inv.stkSub (I:Inv X pins σ H s):∀ b∈frs X.stack,b∈X.env.locals :: X.fs:=fun b hb=>by
 rcases I.ok.stk with e | ⟨e,hf⟩
 ·rw [e] at hb; exact O7 _ hb
 ·rw [e] at hb;unfold frs at hb;rw [List.filterMap_cons,hf] at hb;exact hb
theorem Inv.stkFree (I:Inv X pins σ H s):∀ b∈frs X.stack,H b=none:=fun b hb=>by
 rcases E2.mp (I.stkSub b hb) with e | hb
 ·rw [e]; exact I.free
 ·obtain ⟨_,o,ho,_⟩:=I.ok.funs.mem hb;exact I.base.free b o ho (I.ok.frf b hb) fun z=>I.ok.exfs b z hb
theorem Inv.step {g':Array GenState} {t':Nat} {d':Drawn} {ch:List aB} (I:Inv X pins σ H s)
  (hch:∀ b∈ch,(b∈X.ex\/X.s₀.heap.objs.size<=b)/\b≠X.env.locals/\(∀ x c,X.env.cells.lookup x=some c->c≠b)/\∀ p∈X.pn ++ pins,p.1≠b)
  (keep:∀ b o,b≠X.env.locals->b∉X.fs->b∉ch->s.heap.get? b=some o->H b=none->h'.get? b=some o)
  (slot:∀ b o,b≠X.env.locals->b∈X.fs->b∉ch->s.heap.get? b=some o->H b=none->∃ sl,h'.get? b=some { o with slots:=sl }) (free:∀ b o,b∉ch->s.heap.get? b=some o->H b=none->H' b=none)
  (there:∀ b o,b∉ch->s.heap.get? b=some o->∃ o',h'.get? b=some o')
  (tups:∀ b xs,H b=some (.tup xs)->H' b=some (.tup xs)) (frzs:∀ b o u,H b=some (.frz o u)->H' b=some (.frz o u)) (tbls:∀ b ps,H b=some (.tbl ps)->∃ more,H' b=some (.tbl (ps ++ more)))
  (ns:∀ m,s.heap.Ns X.env.locals m->h'.Ns X.env.locals m) (hok:HOk X.prog X.w H' h') (hg:AllBare g') :
  Inv X pins σ H' { s with heap:=h',gens:=g',drawn:=d',toks:=t' }:=by
 have neL:∀ b o,X.s₀.heap.get? b=some o->b≠X.env.locals:=fun b o e=>F8 (E4 (E6 e) I.ok.above)
 have neC:∀ b o,X.s₀.heap.get? b=some o->b∉X.ex->b∉ch:=fun b o e hx hb=>by
  rcases (hch b hb).1 with z | z
  ·exact hx z
  ·exact absurd (E4 (E6 e) z) (Nat.lt_irrefl _)
 have cellK:∀ x c,X.env.cells.lookup x=some c->∀ v,s.heap.IsCell c v->h'.IsCell c v:=fun x c e v ⟨o,ho,hd⟩=>by
  have nch:c∉ch:=fun z=>(hch c z).2.2.1 x c e rfl
  by_cases hc:c∈X.fs
  ·obtain ⟨sl,q⟩:=slot c o (I.cne x c e) hc nch ho (I.freeC x c e);exact ⟨_,q,hd⟩
  ·exact ⟨o,keep c o (I.cne x c e) hc nch ho (I.freeC x c e),hd⟩
 refine ⟨I.ok,I.os,hg,⟨fun b o e n hb hx=>?_,fun b o e n hb hx=>?_,fun b o e n hx=>?_,fun b o e hx=>?_,fun b xs e=>tups b xs (I.base.tups b xs e),fun b o xs e=>frzs b o xs (I.base.frzs b o xs e),fun b ps e=>?_⟩,?_,fun x c e=>?_,?_,fun x c e=>?_,fun p hp=>?_,hok,I.len⟩
 ·exact keep b o (neL b o e) hb (neC b o e hx) (I.base.keep b o e n hb hx) (I.base.free b o e n hx)
 ·obtain ⟨sl,e1⟩:=I.base.slot b o e n hb hx;obtain ⟨sl',e2⟩:=slot b _ (neL b o e) hb (neC b o e hx) e1 (I.base.free b o e n hx);exact ⟨sl',e2⟩
 ·obtain ⟨o',e1⟩:=I.base.there b o e hx;exact free b o' (neC b o e hx) e1 (I.base.free b o e n hx)
 ·obtain ⟨o',e1⟩:=I.base.there b o e hx;exact there b o' (neC b o e hx) e1
 ·obtain ⟨m1,e1⟩:=I.base.tbls b ps e;obtain ⟨m2,e2⟩:=tbls b _ e1;exact ⟨m1 ++ m2,by rw [e2,Array.append_assoc]⟩
 ·obtain ⟨m,hn,hl⟩:=I.loc;refine ⟨m,ns m hn,fun i x v e1 e2 e3=>?_⟩;obtain ⟨u,r,l⟩:=hl i x v e1 e2 e3;refine ⟨u,r,?_⟩;rcases l with l | ⟨k,c,e,z⟩
  ·exact .inl l
  ·exact .inr ⟨k,c,e,cellK x c e _ z⟩
 ·obtain ⟨v,z⟩:=I.cell x c e;exact ⟨v,cellK x c e v z⟩
 ·obtain ⟨m,⟨o,_,_,ho,_⟩,_⟩:=I.loc;exact free _ o (fun z=>(hch _ z).2.1 rfl) ho I.free
 ·obtain ⟨v,o,ho,hd⟩:=I.cell x c e;exact free c o (fun z=>(hch c z).2.2.1 x c e rfl) ho (I.freeC x c e)
 ·obtain ⟨e,n,ne,nf,d⟩:=I.pin p hp;have nch:p.1∉ch:=fun z=>(hch p.1 z).2.2.2 p hp rfl
  exact ⟨keep p.1 p.2 ne nf nch e n,free p.1 p.2 nch e n,ne,nf,d⟩
theorem Inv.un (I:Inv X pins σ H s) (u:Un X.fs [] H H' s.heap h') (hok:HOk X.prog X.w H' h'):Inv X pins σ H' { s with heap:=h',toks:=t' }:=by
 obtain ⟨m,⟨o,es,ep,ho,r⟩,_⟩:=id I.loc;obtain ⟨sl,hL⟩:=u.any ho I.free (by simp);exact I.step (g':=s.gens) (d':=s.drawn) (ch:=[]) (fun _ z=>nomatch z) (fun b o _ hb _ e n=>u.keep b o e n hb (by simp)) (fun b o _ hb _ e n=>u.slot b o e n hb (by simp)) (fun b o _ e n=>u.free b o e n (by simp)) (fun b o _ e=>u.there b o e (by simp)) u.tups u.frzs u.tbls (fun m' hm=>by
  obtain ⟨o',es',ep',ho',r'⟩:=hm;rw [ho] at ho'; cases ho';exact ⟨_,es',ep',hL,r'⟩) hok I.bare
theorem Inv.call {t':Nat} {d':Drawn} (I:Inv X pins σ H s) (u:Un (frs X.stack) ch H H' s.heap h') (hok:HOk X.prog X.w H' h') (hg:AllBare g')
  (hch:∀ b∈ch,(b∈X.ex\/X.s₀.heap.objs.size<=b)/\b≠X.env.locals/\(∀ x c,X.env.cells.lookup x=some c->c≠b)/\∀ p∈X.pn ++ pins,p.1≠b) :
  Inv X pins σ H' { s with heap:=h',gens:=g',drawn:=d',toks:=t' }:=by
 obtain ⟨m,⟨o,es,ep,ho,r⟩,_⟩:=id I.loc;obtain ⟨sl,hL⟩:=u.any ho I.free fun z=>(hch _ z).2.1 rfl
 exact I.step (ch:=ch) hch (fun b o hL hb hc e n=>u.keep b o e n (fun z=>(E2.mp (I.stkSub b z)).elim hL hb) hc) (fun b o _ _ hc e n=>u.any e n hc) (fun b o hc e n=>u.free b o e n hc) (fun b o hc e=>u.there b o e hc) u.tups u.frzs u.tbls (fun m' hm=>by
  obtain ⟨o',es',ep',ho',r'⟩:=hm;rw [ho] at ho'; cases ho';exact ⟨_,es',ep',hL,r'⟩) hok hg
theorem Inv.turned {t':Nat} (I:Inv X pins σ H s) (k:∀ b o,b≠it->s.heap.get? b=some o->h'.get? b=some o) (hn:H it=none) (hL:it≠X.env.locals)
  (h1:it∈X.ex\/X.s₀.heap.objs.size<=it) (h2:∀ x c,X.env.cells.lookup x=some c->c≠it) (h3:∀ p∈X.pn ++ pins,p.1≠it):Inv X pins σ H { s with heap:=h',toks:=t' }:=by
 have nit:∀ b u,H b=some u->b≠it:=fun b u e z=>by rw [z,hn] at e; cases e
 refine I.step (g':=s.gens) (d':=s.drawn) (ch:=[it]) (fun b hb=>?_) (fun b o _ _ hc e _=>k b o (fun z=>hc (by simp [z])) e) (fun b o _ _ hc e _=>⟨o.slots,k b o (fun z=>hc (by simp [z])) e⟩) (fun _ _ _ _ n=>n)
  (fun b o hc e=>⟨o,k b o (fun z=>hc (by simp [z])) e⟩) (fun _ _ e=>e) (fun _ _ _ e=>e) (fun b ps e=>⟨#[],by rw [e]; simp⟩) (fun m hm=>?_) (fun b u e=>?_) I.bare
 ·have e:b=it:=by simpa using hb
  subst e;exact ⟨h1,hL,h2,h3⟩
 ·obtain ⟨o,es,ep,ho,r⟩:=hm;exact ⟨o,es,ep,k _ o (Ne.symm hL) ho,r⟩
 ·refine (I.hok b u e).stay (fun c v hc q=>k c v ?_ q) (fun _ q=>q) fun _ _ q=>q
  rcases hc with z | z
  ·rw [z]; exact nit b u e
  ·exact nit c _ z
theorem Inv.tok (I:Inv X pins σ H s) (t:Nat):Inv X pins σ H { s with toks:=t }:=I.un (h':=s.heap) (t':=t) Un.refl I.hok
theorem Inv.kept (I:Inv X pins σ H s) (k:∀ b u,s.heap.get? b=some u->h'.get? b=some u):Inv X pins σ H { s with heap:=h',toks:=t' }:=I.un (Un.kept k) (I.hok.kept k)
theorem Inv.laid {t':Nat} (I:Inv X pins σ H s) (k:∀ b u,s.heap.get? b=some u->h'.get? b=some u) (hp:s.heap.objs.size<=a) (new:ObjOk X.prog X.w (upd H a o) h' a o) :
  Inv X pins σ (upd H a o) { s with heap:=h',toks:=t' }:=I.un (Un.laid k hp (I.hok.fresh hp)) (I.hok.laid k hp new)
theorem Inv.write {o:HO} {t':Nat} (I:Inv X pins σ H s) (mu:Mut (H x)) (he:e=x\/H e=some (.own x)) (k:∀ b u,b≠e->s.heap.get? b=some u->h'.get? b=some u) (heo:∃ u,h'.get? e=some u)
  (new:ObjOk X.prog X.w (upd H x o) h' x o):Inv X pins σ (upd H x o) { s with heap:=h',toks:=t' }:=I.un (Un.write mu he k heo) (I.hok.write mu he k heo new)
theorem Inv.pins_of {pins':List (aB × Obj)} (I:Inv X pins σ H s) (h:∀ p∈pins',s.heap.get? p.1=some p.2/\H p.1=none/\p.1≠X.env.locals/\p.1∉X.fs/\∀ v,p.2.data≠.cell v):Inv X pins' σ H s:=
 ⟨I.ok,I.os,I.bare,I.base,I.loc,I.cell,I.free,I.freeC,fun p hp=>(D0.mp hp).elim (fun z=>I.pin p (L5 _ z)) (h p),I.hok,I.len⟩
theorem Q5q {N:List Str} (hN:N.Nodup) {i j:Nat} {x:Str} (a:N[i]?=some x) (b:N[j]?=some x):i=j:=by
 obtain ⟨h1,e1⟩:=O0.mp a;obtain ⟨h2,e2⟩:=O0.mp b;exact (List.getElem_inj hN).mp (e1.trans e2.symm)
theorem Q2e {M:Model} {A:aQ} {E:aA->aC->Prop} {i:Nat} {x:Str} {Q:Unit->aC->Prop} (I:Inv X pins σ H s) (hN:X.N.Nodup) (hi:X.N[i]?=some x) (hx:Loc X.env.scope x) (r:RelV v u)
  (h:∀ s',Inv X pins (σ.set i (some v)) H s'->(∃ a,Heap.SameBut a s.heap s'.heap/\(a=X.env.locals\/X.env.cells.lookup x=some a))->Q () s') (hf:X.fn x=true\/X.env.scope.names.lookup x=some .local:=by first | exact .inl rfl | exact .inr rfl | assumption):aF M A (storeName X.env x u) Q E s:=by
 obtain ⟨m,hn,hl⟩:=id I.loc;have hcls:(X.env.scope.kind == .class || (X.env.scope.kind == .module && X.env.locals != X.env.globals))=false:=by rw [I.ok.kind]; rfl
 have hiσ:i < σ.length:=by rw [I.len]; exact (O0.mp hi).1
 have cne:=I.cne;have tracked:∀ {a:aB} {h':Heap},(∃ o,s.heap.get? a=some o/\H a=none)->Heap.SameBut a s.heap h'->HOk X.prog X.w H h':=fun {a h'} ha hs b ob e=>by
  obtain ⟨_,_,hfree⟩:=ha;refine (I.hok b ob e).stay (fun c w' hc q=>(hs.2 c ?_).trans q) (fun _ q=>q) fun _ _ q=>q
  rintro rfl;rcases hc with rfl | hc
  ·rw [hfree] at e; cases e
  ·rw [hfree] at hc; cases hc
 rcases hx with hk | hk
 ·refine wpAny_storeName_local hk hn (fun h' hn' hs=>?_) hcls;obtain ⟨oL,_,_,hoL,_⟩:=id hn;refine h _ ⟨I.ok,I.os,I.bare,⟨fun b o e n hb hx=>?_,fun b o e n hb hx=>?_,I.base.free,fun b o e hx=>?_,I.base.tups,I.base.frzs,I.base.tbls⟩,⟨_,hn',fun j y v' e1 e2 e3=>?_⟩,fun y c e=>?_,I.free,I.freeC,fun p hp=>?_,tracked ⟨oL,hoL,I.free⟩ hs,by simpa using I.len⟩ ⟨_,hs,.inl rfl⟩
  ·exact (hs.2 b (F8 (E4 (E6 e) I.ok.above))).trans (I.base.keep b o e n hb hx)
  ·obtain ⟨sl,e1⟩:=I.base.slot b o e n hb hx;exact ⟨sl,(hs.2 b (F8 (E4 (E6 e) I.ok.above))).trans e1⟩
  ·obtain ⟨o',e1⟩:=I.base.there b o e hx;exact ⟨o',(hs.2 b (F8 (E4 (E6 e) I.ok.above))).trans e1⟩
  ·by_cases hj:j=i
   ·subst hj;rw [hi] at e1; cases e1;rw [D4 hiσ] at e2;cases e2;exact ⟨u,r,.inl ⟨hk,by simp⟩⟩
   ·rw [O9 (Ne.symm hj)] at e2;obtain ⟨u',r',q⟩:=hl j y v' e1 e2 e3;refine ⟨u',r',?_⟩;rcases q with ⟨k,e⟩ | ⟨k,c,e,z⟩
    ·refine .inl ⟨k,?_⟩;have:y≠x:=fun e=>hj (Q5q hN e1 (e ▸ hi))
     simp [this,e]
    ·exact .inr ⟨k,c,e,z.sameBut hs (cne y c e)⟩
  ·obtain ⟨w',z⟩:=I.cell y c e;exact ⟨w',z.sameBut hs (cne y c e)⟩
  ·obtain ⟨e,n,ne,nf,d⟩:=I.pin p hp;exact ⟨(hs.2 p.1 ne).trans e,n,ne,nf,d⟩
 ·have hfn:X.fn x=true:=by
   rcases hf with z | z
   ·exact z
   ·rw [z] at hk; cases hk
  obtain ⟨c,hc⟩:=I.ok.has x (.inl hk);obtain ⟨w',z⟩:=I.cell x c hc;refine wpAny_storeName_cell I.ok.kind hk hc z (fun h' hc' hs=>?_);obtain ⟨oc,hoc,hocd⟩:=id z;refine h { s with heap:=h' } ⟨I.ok,I.os,I.bare,⟨fun b o e n hb hx=>?_,fun b o e n hb hx=>?_,I.base.free,fun b o e hx=>?_,I.base.tups,I.base.frzs,I.base.tbls⟩,⟨m,hn.sameBut hs (Ne.symm (cne x c hc)),fun j y v' e1 e2 e3=>?_⟩,fun y c' e=>?_,I.free,I.freeC,fun p hp=>?_,tracked ⟨oc,hoc,I.freeC x c hc⟩ hs,by simpa using I.len⟩ ⟨c,hs,.inr hc⟩
  ·exact (hs.2 b (F8 (E4 (E6 e) (I.ok.cab x c hfn hc)))).trans (I.base.keep b o e n hb hx)
  ·obtain ⟨sl,e1⟩:=I.base.slot b o e n hb hx;exact ⟨sl,(hs.2 b (F8 (E4 (E6 e) (I.ok.cab x c hfn hc)))).trans e1⟩
  ·obtain ⟨o',e1⟩:=I.base.there b o e hx;exact ⟨o',(hs.2 b (F8 (E4 (E6 e) (I.ok.cab x c hfn hc)))).trans e1⟩
  ·by_cases hj:j=i
   ·subst hj;rw [hi] at e1; cases e1;rw [D4 hiσ] at e2;cases e2;exact ⟨u,r,.inr ⟨.inl hk,c,hc,hc'⟩⟩
   ·rw [O9 (Ne.symm hj)] at e2;obtain ⟨u',r',q⟩:=hl j y v' e1 e2 e3;refine ⟨u',r',?_⟩;rcases q with q | ⟨k,c',e,z'⟩
    ·exact .inl q
    ·refine .inr ⟨k,c',e,z'.sameBut hs ?_⟩;rintro rfl;exact hj (Q5q hN e1 (I.ok.inj _ _ _ e hc ▸ hi))
  ·by_cases hcc:c'=c
   ·subst hcc; exact ⟨_,hc'⟩
   ·obtain ⟨w2,z2⟩:=I.cell y c' e;exact ⟨w2,z2.sameBut hs hcc⟩
  ·obtain ⟨e,n,ne,nf,d⟩:=I.pin p hp;refine ⟨(hs.2 p.1 ?_).trans e,n,ne,nf,d⟩;intro q;rw [q,hoc] at e;have q':oc=p.2:=Option.some.inj e;exact d w' (by rw [<- q']; exact hocd)
theorem Q0k {M:Model} {A:aQ} {E:aA->aC->Prop} {i:Nat} {x:Str} {Q:Unit->aC->Prop} (I:Inv X pins σ H s) (hN:X.N.Nodup) (hi:X.N[i]?=some x) (hx:Loc X.env.scope x) (r:RelV v u)
  (h:∀ s',Inv X pins (σ.set i (some v)) H s'->Q () s') (hf:X.fn x=true\/X.env.scope.names.lookup x=some .local:=by first | exact .inl rfl | exact .inr rfl | assumption):aF M A (storeName X.env x u) Q E s:=
 Q2e I hN hi hx r (fun s' I' _=>h s' I') hf
theorem Inv.call' {s':aC} (I:Inv X pins σ H s) (ho:s'.os=s.os) (u:Un (frs X.stack) ch H H' s.heap s'.heap) (hok:HOk X.prog X.w H' s'.heap) (hg:AllBare s'.gens)
  (hch:∀ b∈ch,(b∈X.ex\/X.s₀.heap.objs.size<=b)/\b≠X.env.locals/\(∀ x c,X.env.cells.lookup x=some c->c≠b)/\∀ p∈X.pn ++ pins,p.1≠b):Inv X pins σ H' s':=by
 obtain ⟨h',g',d',t',o'⟩:=s';have e:o'=s.os:=ho;subst e;exact I.call (g':=g') (t':=t') (d':=d') u hok hg hch
abbrev XK:=aA->Option aB->Hp->Prop
abbrev St:=List (Option V)
abbrev VK:=V->Hp->Prop
abbrev TE:=St->Hp->VK->Prop
variable {tl:TE}
abbrev TT:=St->Hp->(Bool->Hp->Prop)->Prop
variable {tc:TT}
abbrev TA:=St->Hp->(List V->Hp->Prop)->Prop
variable {ta:TA}
structure Ends where
 nx:St->Hp->Prop
 rt:VK
 bk:St->Hp->Prop:=fun _ _=>False
 ct:St->Hp->Prop:=fun _ _=>False
abbrev TS:=Ends->St->Hp->Prop
variable {tb:TS}
def EP (X:Cx) (pins:List (aB × Obj)) (σ:St) (Q:VK) (u:aA) (s':aC):Prop:=∃ v H',Inv X pins σ H' s'/\RelV v u/\Q v H'
def TP (X:Cx) (pins:List (aB × Obj)) (σ:St) (Q:Bool->Hp->Prop) (b:Bool) (s':aC):Prop:=∃ H',Inv X pins σ H' s'/\Q b H'
def AP (X:Cx) (pins:List (aB × Obj)) (σ:St) (Q:List V->Hp->Prop) (us:List aA) (s':aC):Prop:=∃ vs H',Inv X pins σ H' s'/\Vals vs us/\Q vs H'
def SP (X:Cx) (pins:List (aB × Obj)) (D:Ends) (f:Flow) (s':aC):Prop:=
 match f with
 | .next=>∃ σ' H',Inv X pins σ' H' s'/\D.nx σ' H'
 | .brk=>∃ σ' H',Inv X pins σ' H' s'/\D.bk σ' H'
 | .cont=>∃ σ' H',Inv X pins σ' H' s'/\D.ct σ' H'
 | .ret u=>∃ v σ' H',Inv X pins σ' H' s'/\RelV v u/\D.rt v H'
def PE (X:Cx) (e:aH) (t:TE):Prop:=
 ∀ (pins:List (aB × Obj)) (s:aC) (σ:St) (H:Hp) (Q:VK),Inv X pins σ H s->t σ H Q->aF (aI X.prog X.w) X.A (aM e X.env) (EP X pins σ Q) X.xe s
def PT (X:Cx) (e:aH) (t:TT):Prop:=
 ∀ (pins:List (aB × Obj)) (s:aC) (σ:St) (H:Hp) (Q:Bool->Hp->Prop),Inv X pins σ H s->t σ H Q->aF (aI X.prog X.w) X.A (isTrue e X.env (aM e X.env)) (TP X pins σ Q) X.xe s
def PW (X:Cx) (e:aH) (t:TT):Prop:=
 ∀ (whole:Sem aA) (pins:List (aB × Obj)) (s:aC) (σ:St) (H:Hp) (Q:Bool->Hp->Prop),Inv X pins σ H s->t σ H Q->aF (aI X.prog X.w) X.A (isTrue e X.env whole) (TP X pins σ Q) X.xe s
def PA (X:Cx) (es:List aH) (t:TA):Prop:=
 ∀ (pos:Pos) (pins:List (aB × Obj)) (s:aC) (σ:St) (H:Hp) (Q:List V->Hp->Prop),Inv X pins σ H s->t σ H Q->aF (aI X.prog X.w) X.A (spliced (aX pos (aN es X.env))) (AP X pins σ Q) X.xe s
def PS (X:Cx) (st:aK) (t:TS):Prop:=
 ∀ (pins:List (aB × Obj)) (s:aC) (σ:St) (H:Hp) (D:Ends),Inv X pins σ H s->t D σ H->aF (aI X.prog X.w) X.A (exec st X.env) (SP X pins D) X.xe s
def PSs (X:Cx) (st:List aK) (t:TS):Prop:=
 ∀ (pins:List (aB × Obj)) (s:aC) (σ:St) (H:Hp) (D:Ends),Inv X pins σ H s->t D σ H->aF (aI X.prog X.w) X.A (execs st X.env) (SP X pins D) X.xe s
theorem thn {t:Sem α} {Q Q':α->aC->Prop} (h:aF M A t Q E s) (hQ:∀ a s,Q a s->Q' a s):aF M A t Q' E s:=ak h hQ fun _ _ x=>x
section
variable {X:Cx}
def Qq8 (i:Nat):TE:=fun σ H Q=>∃ v,σ[i]?=some (some v)/\Q v H
def tC (v:V):TE:=fun _ H Q=>Q v H
theorem Qcy {i:Nat} {x:Str} {pos:Pos} (hN:X.N[i]?=some x) (hv:Vis X.env.scope x) (hd:(x == ("__debug__" : Str))=false:=by decide) (hcd:(x == ("__classdict__" : Str))=false:=by decide):PE X (.Name x pos) (Qq8 i):=by
 intro pins s σ H Q I h;obtain ⟨v,e,h⟩:=h;obtain ⟨m,hn,hl⟩:=I.loc;obtain ⟨u,r,l⟩:=hl i x v hN e hv;have fin:EP X pins σ Q u s:=⟨v,H,I,r,h⟩;rcases l with ⟨hk,hm⟩ | ⟨hk,c,hc,hcell⟩
 ·exact wpAny_Name (wpAny_loadName_local I.ok.kind hk hn hm fin) hd
 ·rcases hk with hk | hk
  ·exact wpAny_Name (wpAny_loadName_cell I.ok.kind hk hc hcell fin) hd
  ·exact wpAny_Name (wpAny_loadName_free I.ok.kind hk hc hcell fin hcd) hd
theorem Qmf {i j pos}:PE X (.Constant (.int i) j pos) (tC (.int i)):=fun _ _ _ H _ I h=>wpAny_Constant_int ⟨.int i,H,I.tok _,⟨_,rfl⟩,h⟩
theorem Qrd {b j pos}:PE X (.Constant (.bool b) j pos) (tC (.bl b)):=fun _ _ _ H _ I h=>Constant_bool ⟨.bl b,H,I,rfl,h⟩
theorem Qme {j pos}:PE X (.Constant .none j pos) (tC .non):=fun _ _ _ H _ I h=>Constant_none ⟨.non,H,I,rfl,h⟩
theorem Qmb {x j pos}:PE X (.Constant (.str x) j pos) (tC (.str x)):=fun _ _ _ H _ I h=>Calls.Constant_str ⟨.str x,H,I.tok _,⟨_,rfl⟩,h⟩
def Gl (X:Cx) (x:Str):Prop:=X.env.kindOf x=some .globalImplicit
theorem Q44 {E:aA->aC->Prop} {σ:St} {x:Str} {pos:Pos} {Q:aA->aC->Prop} (I:Inv X pins σ H s) (hg:Gl X x) (hm:X.mg x=some u) (h:Q u s)
  (hd:(x == ("__debug__" : Str))=false:=by decide):aF (aI X.prog X.w) X.A (aM (.Name x pos) X.env) Q E s:=
 Calls.Name_function_global I.ok.kind hg (Calls.loadGlobal_global (by rw [I.ok.glob]; exact I.mod.glob.keeps I.bk) hm h) hd
theorem jc {E:aA->aC->Prop} {σ:St} {x:Str} {pos:Pos} {Q:aA->aC->Prop} (I:Inv X pins σ H s) (hg:Gl X x) (hm:X.mg x=none) (hv:aW x=some u) (h:Q u s)
  (hn:x≠"__name__" := by decide) (hd:(x == ("__debug__" : Str))=false:=by decide):aF (aI X.prog X.w) X.A (aM (.Name x pos) X.env) Q E s:=by
 obtain ⟨mb,h1,h2⟩:=I.mod.blt;exact Calls.Name_function_global I.ok.kind hg (Calls.loadGlobal_builtin (by rw [I.ok.glob]; exact I.mod.glob.keeps I.bk) hm (by rw [I.ok.blt]; exact h1.keeps I.bk) ((h2 x hn).trans hv) h) hd
theorem Q8q {x:Str} {pos:Pos} (hg:Gl X x) (hm:X.mg x=some u) (r:RelV v u) (hd:(x == ("__debug__" : Str))=false:=by decide):PE X (.Name x pos) (tC v):=
 fun _ _ _ H _ I h=>Q44 I hg hm ⟨v,H,I,r,h⟩ hd
theorem Qh8 {x:Str} {pos:Pos} (hg:Gl X x) (hm:X.mg x=none) (hv:aW x=some u) (r:RelV v u) (hn:x≠"__name__" := by decide) (hd:(x == ("__debug__" : Str))=false:=by decide):PE X (.Name x pos) (tC v):=
 fun _ _ _ H _ I h=>jc I hg hm hv ⟨v,H,I,r,h⟩ hn hd
variable {a b:aH} {ta tb:TE} {pos:Pos}
def tB (t:TE):TT:=fun σ H Q=>t σ H fun x H1=>∃ c,x=.bl c/\Q c H1
theorem Qkw {e:aH} {t:TE} (h:PE X e t) (he:∀ whole,isTrue e X.env whole=(do let v <- whole; standAt e.pos; av [v] (truthy v)):=by intro _; rfl):PT X e (tB t):=by
 intro pins s σ H Q I hw;refine isTrue_plain (thn (h pins s σ H _ I hw) fun v s1 ⟨x,H1,I1,r1,q1⟩=>?_) (he _)
 obtain ⟨d,rfl,q⟩:=q1;cases r1;exact az ⟨H1,I1,q⟩
variable {tA tB':TT} {rest:List aH}
def Quh (t u:TT):TT:=fun σ H Q=>t σ H fun c H1=>if c=true then u σ H1 Q else Q false H1
def tOr (t u:TT):TT:=fun σ H Q=>t σ H fun c H1=>if c=true then Q true H1 else u σ H1 Q
def Qub (t:TT):TT:=fun σ H Q=>t σ H fun c H1=>Q (!c) H1
theorem Qgj (ha:PT X a tA):PW X (.BoolOp .And [a] pos) tA:=by
 intro wh pins s σ H Q I h;refine isTrue_and (thn (ha pins s σ H Q I h) fun c s1 e=>?_)
 cases c with
 | true=>exact isTrue_and_nil e
 | false=>exact e
theorem Qku (ha:PT X a tA):PW X (.BoolOp .Or [a] pos) tA:=by
 intro wh pins s σ H Q I h;refine isTrue_or (thn (ha pins s σ H Q I h) fun c s1 e=>?_)
 cases c with
 | false=>exact isTrue_or_nil e
 | true=>exact e
theorem Qkv (ha:PT X a tA) (hb:PW X (.BoolOp .And (b :: rest) pos) tB'):PW X (.BoolOp .And (a :: b :: rest) pos) (Quh tA tB'):=by
 intro wh pins s σ H Q I h;refine isTrue_and (thn (ha pins s σ H _ I h) fun c s1 ⟨H1,I1,q1⟩=>?_)
 cases c with
 | true=>exact hb wh pins s1 σ H1 Q I1 q1
 | false=>exact ⟨H1,I1,q1⟩
theorem Qr5 (ha:PT X a tA) (hb:PW X (.BoolOp .Or (b :: rest) pos) tB'):PW X (.BoolOp .Or (a :: b :: rest) pos) (tOr tA tB'):=by
 intro wh pins s σ H Q I h;refine isTrue_or (thn (ha pins s σ H _ I h) fun c s1 ⟨H1,I1,q1⟩=>?_)
 cases c with
 | true=>exact ⟨H1,I1,q1⟩
 | false=>exact hb wh pins s1 σ H1 Q I1 q1
theorem Qkx (ha:PT X a tA):PT X (.UnaryOp .Not a pos) (Qub tA):=by
 intro pins s σ H Q I h;exact isTrue_not (ha pins s σ H (fun c H1=>Q (!c) H1) I h)
def Qqk (ta tb:TE):TE:=fun σ H Q=>ta σ H fun x H1=>∃ c,x=.bl c/\if c=true then tb σ H1 Q else Q (.bl false) H1
def Qqd (ta:TE):TE:=fun σ H Q=>ta σ H fun x H1=>∃ c,x=.bl c/\Q (.bl (!c)) H1
theorem Qmc {op} {t:TE} (h:PE X a t):PE X (.BoolOp op [a] pos) t:=fun pins s σ H Q I hw=>BoolOp_one (h pins s σ H Q I hw)
theorem Qmg (ha:PE X a ta) (hb:PE X (.BoolOp .And (b :: rest) pos) tb):PE X (.BoolOp .And (a :: b :: rest) pos) (Qqk ta tb):=by
 intro pins s σ H Q I h;refine BoolOp_and (thn (ha pins s σ H _ I h) fun v s1 ⟨x,H1,I1,r1,q1⟩=>?_)
 obtain ⟨c,rfl,q1⟩:=q1;cases r1;refine az ?_;cases c with
 | true=>exact hb pins s1 σ H1 Q I1 q1
 | false=>exact ⟨.bl false,H1,I1,rfl,q1⟩
theorem Qmd (ha:PE X a ta):PE X (.UnaryOp .Not a pos) (Qqd ta):=by
 intro pins s σ H Q I h;refine UnaryOp_ (thn (ha pins s σ H _ I h) fun v s1 ⟨x,H1,I1,r1,q1⟩=>?_)
 obtain ⟨c,rfl,q1⟩:=q1;cases r1;exact not_of (az ⟨.bl (!c),H1,I1,rfl,q1⟩)
def tIf (t:TT) (ta tb:TE):TE:=fun σ H Q=>t σ H fun c H1=>if c=true then ta σ H1 Q else tb σ H1 Q
theorem Qd1 (hc:PT X c tA) (ha:PE X a ta) (hb:PE X b tb):PE X (.IfExp c a b pos) (tIf tA ta tb):=by
 intro pins s σ H Q I h;refine wpAny_IfExp (thn (hc pins s σ H _ I h) fun d s1 ⟨H1,I1,q1⟩=>?_)
 cases d with
 | true=>exact ha pins s1 σ H1 Q I1 q1
 | false=>exact hb pins s1 σ H1 Q I1 q1
end
def SqL (K:PySem.W.Frag) (H:Hp) (a:aB) (xs:List V):Prop:=
 Rd H a (.lst xs) \/
  ∃ (o:Obj) (its:Array aA) (n:Nat),K.lookup a=some o/\o.cls=.type "list" /\ o.dict=none/\o.data=.seq its n/\its.size<=sizeLine/\Vals xs its.toList
def SqT (K:PySem.W.Frag) (H:Hp) (a:aB) (xs:List V):Prop:=
 Rd H a (.tup xs) \/
  ∃ (o:Obj) (its:Array aA) (n:Nat),K.lookup a=some o/\o.cls=.type "tuple" /\ o.data=.seq its n/\its.size<=sizeLine/\Vals xs its.toList
def Qvb:aA->Option V
 | .none=>some .non
 | .bool b=>some (.bl b)
 | .int i _=>some (.int i)
 | .str x _=>some (.str x)
 | .bytes b _=>some (.byt b)
 | .float b _=>some (.flt b)
 | .ref a=>some (.ref a)
 | .type n=>some (.ty n)
 | _=>none
theorem RelV.abs {x:V} (r:RelV x u):Qvb u=some x:=by
 cases x with
 | non=>cases r; rfl
 | bl _=>cases r; rfl
 | int _=>obtain ⟨t,rfl⟩:=r; rfl
 | str _=>obtain ⟨t,rfl⟩:=r; rfl
 | byt _=>obtain ⟨t,rfl⟩:=r; rfl
 | flt _=>obtain ⟨t,rfl⟩:=r; rfl
 | ref _=>cases r; rfl
 | ty _=>cases r; rfl
theorem RelV.inj {x y:V} (r:RelV x u) (q:RelV y u):x=y:=Option.some.inj (r.abs.symm.trans q.abs)
theorem Vals.inj:∀ {xs ys:List V} {us:List aA},Vals xs us->Vals ys us->xs=ys
 | _,_,_,.nil,.nil=>rfl
 | _,_,_,.cons r t,.cons r' t'=>by rw [r.inj r',Vals.inj t t']
variable {xs ys:List V}
section
variable {σ:St}
theorem SqL.of (h:H a=some (.lst xs)):SqL K H a xs:=.inl (.inl h)
theorem SqT.of (h:H a=some (.tup xs)):SqT K H a xs:=.inl (.inl h)
theorem Inv.list (I:Inv X pins σ H s) (h:SqL X.K H a xs):∃ its:List aA,Vals xs its/\PlainL s.heap a its.toArray/\xs.length<=sizeLine:=by
 rcases h with h | ⟨o,its,n,hk,hc,hd,hs,hz,r⟩
 ·obtain ⟨z,its,n,r,e⟩:=h.ok I.hok;exact ⟨its,r,⟨_,n,e,rfl,rfl,rfl⟩,z⟩
 ·refine ⟨its.toList,r,⟨o,n,I.kIn a o hk,hc,hd,by simpa using hs⟩,?_⟩;have e:=r.length;simp only [Array.length_toList] at e;omega
theorem Inv.tuple (I:Inv X pins σ H s) (h:SqT X.K H a xs):∃ its:List aA,Vals xs its/\IsTup s.heap a its.toArray/\xs.length<=sizeLine:=by
 rcases h with h | ⟨o,its,n,hk,hc,hs,hz,r⟩
 ·obtain ⟨z,its,r,p⟩:=h.ok I.hok;exact ⟨its,r,p,z⟩
 ·refine ⟨its.toList,r,⟨o,I.kIn a o hk,hc,n,by simpa using hs⟩,?_⟩;have e:=r.length;simp only [Array.length_toList] at e;omega
theorem Inv.list_inj (I:Inv X pins σ H s) (h:SqL X.K H a xs) (h':SqL X.K H a ys):xs=ys:=by
 obtain ⟨its,r,⟨o,n,e,_,_,d⟩,_⟩:=I.list h;obtain ⟨its',r',⟨o',n',e',_,_,d'⟩,_⟩:=I.list h';rw [e] at e'; cases e';rw [d] at d';injection d' with d1 _
 have:its=its':=by simpa using congrArg Array.toList d1
 subst this;exact r.inj r'
theorem Inv.tuple_inj (I:Inv X pins σ H s) (h:SqT X.K H a xs) (h':SqT X.K H a ys):xs=ys:=by
 obtain ⟨its,r,⟨o,e,_,n,d⟩,_⟩:=I.tuple h;obtain ⟨its',r',⟨o',e',_,n',d'⟩,_⟩:=I.tuple h';rw [e] at e'; cases e';rw [d] at d';injection d' with d1 _
 have:its=its':=by simpa using congrArg Array.toList d1
 subst this;exact r.inj r'
end
variable {st:aK} {u:TS} {te:TE}
section
variable {rest:List aK} {t:TS} {e:aH} {pos:Pos}
def Qqe:TS:=fun D σ H=>D.nx σ H
def Qu9 (t u:TS):TS:=fun D σ H=>t { D with nx:=u D } σ H
theorem Qgq:PSs X [] Qqe:=fun _ _ σ H _ I h=>wpAny_execs_nil ⟨σ,H,I,h⟩
theorem Qck (h1:PS X st t) (h2:PSs X rest u):PSs X (st :: rest) (Qu9 t u):=by
 intro pins s σ H D I h;refine wpAny_execs_cons (thn (h1 pins s σ H { D with nx:=u D } I h) fun f s1 q=>?_)
 cases f with
 | next=>
  obtain ⟨σ',H',I',q⟩:=q;exact h2 pins s1 σ' H' D I' q
 | ret v=>exact q
 | brk=>exact q
 | cont=>exact q
theorem Qgp (h1:PS X st t):PSs X [st] t:=by
 intro pins s σ H D I h;refine wpAny_execs_cons (thn (h1 pins s σ H D I h) fun f s1 q=>?_)
 cases f with
 | next=>exact wpAny_execs_nil q
 | ret v=>exact q
 | brk=>exact q
 | cont=>exact q
theorem Inv.quiet {σ:St} (I:Inv X pins σ H s):interactive X.env=false:=by simp [interactive,I.ok.kind]
def Qqf (te:TE):TS:=fun D σ H=>te σ H fun _ H1=>D.nx σ H1
theorem Qgr (he:PE X e te) (hs:swapsWith e none pos.line X.env=pure false:=by rfl):PS X (.Expr e pos) (Qqf te):=by
 intro pins s σ H D I h;exact wpAny_Expr_any (thn (he pins s σ H _ I h) fun v s1 ⟨x,H1,I1,r1,q1⟩=>⟨σ,H1,I1,q1⟩) I.quiet hs
def Qua (te:TE):TS:=fun D σ H=>te σ H D.rt
theorem Qkz (he:PE X e te):PS X (.Return (some e) pos) (Qua te):=by
 intro pins s σ H D I h;exact wpAny_Return_some (thn (he pins s σ H _ I h) fun v s1 ⟨x,H1,I1,r1,q1⟩=>⟨x,σ,H1,I1,r1,q1⟩)
def Que (c:TT) (t u:TS):TS:=fun D σ H=>c σ H fun b H1=>if b=true then t D σ H1 else u D σ H1
theorem Qr7 {a b:List aK} (hc:PT X c tc) (ha:PSs X a t) (hb:PSs X b u):PS X (.If c a b pos) (Que tc t u):=by
 intro pins s σ H D I h;refine wpAny_If (thn (hc pins s σ H _ I h) fun d s1 ⟨H1,I1,q1⟩=>?_)
 cases d with
 | true=>exact ha pins s1 σ H1 D I1 q1
 | false=>exact hb pins s1 σ H1 D I1 q1
end
abbrev TG:=V->St->Hp->(St->Hp->Prop)->Prop
abbrev TGs:=List V->St->Hp->(St->Hp->Prop)->Prop
def PG (X:Cx) (target:aH) (t:TG):Prop:=
 ∀ (pins:List (aB × Obj)) (s:aC) (σ:St) (H:Hp) (v:V) (u:aA) (Q:St->Hp->Prop),Inv X pins σ H s->RelV v u->t v σ H Q ->
  aF (aI X.prog X.w) X.A (assign target X.env u) (fun _ s'=>∃ σ' H',Inv X pins σ' H' s'/\Q σ' H') X.xe s
def PGs (X:Cx) (ts:List aH) (t:TGs):Prop:=
 ∀ (pins:List (aB × Obj)) (s:aC) (σ:St) (H:Hp) (vs:List V) (us:List aA) (Q:St->Hp->Prop),Inv X pins σ H s->Vals vs us->t vs σ H Q ->
  aF (aI X.prog X.w) X.A (assignInOrder ((ar ts X.env).map (·.2)) us) (fun _ s'=>∃ σ' H',Inv X pins σ' H' s'/\Q σ' H') X.xe s
abbrev Qfm:=V->V->V->Hp->(Hp->Prop)->Prop
def Qpj (X:Cx) (t:Qfm):Prop:=
 ∀ (pins:List (aB × Obj)) (s:aC) (σ:St) (H:Hp) (o i v:V) (ov iv u:aA) (Q:Hp->Prop),Inv X pins σ H s->RelV o ov->RelV i iv->RelV v u->t o i v H Q ->
  aF (aI X.prog X.w) X.A (setItem ov iv u) (fun _ s'=>∃ H',Inv X pins σ H' s'/\Q H') X.xe s
abbrev TIp:=V->V->Hp->VK->Prop
def PIp (X:Cx) (op:Operator) (t:TIp):Prop:=
 ∀ (pins:List (aB × Obj)) (s:aC) (σ:St) (H:Hp) (x y:V) (v u:aA) (Q:VK),Inv X pins σ H s->RelV x v->RelV y u->t x y H Q ->
  aF (aI X.prog X.w) X.A (inplaceOp op v u) (EP X pins σ Q) X.xe s
section
variable {pos:Pos}
def Q66 (i:Nat):TG:=fun v σ H Q=>Q (σ.set i (some v)) H
theorem Qh4 {i:Nat} {x:Str} (hN:X.N.Nodup) (hi:X.N[i]?=some x) (hx:Loc X.env.scope x) (hf:X.fn x=true\/X.env.scope.names.lookup x=some .local:=by first | exact .inl rfl | exact .inr rfl | assumption):PG X (.Name x pos) (Q66 i):=by
 intro pins s σ H v u Q I r h;exact wpAny_assign_Name (Q0k I hN hi hx r (fun s' I'=>⟨_,H,I',h⟩) hf)
def Qsi:TGs:=fun vs σ H Q=>vs=[]/\Q σ H
def Qea (t:TG) (u:TGs):TGs:=fun vs σ H Q=>∃ v r,vs=v :: r/\t v σ H fun σ' H'=>u r σ' H' Q
theorem Qh2:PGs X [] Qsi:=by
 intro pins s σ H vs us Q I r h;obtain ⟨e,h⟩:=h;subst e;cases r;exact assignInOrder_nil ⟨σ,H,I,h⟩
theorem Qcv {e:aH} {es:List aH} {t:TG} {u:TGs} (h1:PG X e t) (h2:PGs X es u)
  (hs:(ar (e :: es) X.env).map (·.2)=assign e X.env :: (ar es X.env).map (·.2):=by rfl):PGs X (e :: es) (Qea t u):=by
 intro pins s σ H vs us Q I r h;obtain ⟨v,vr,e1,h⟩:=h;subst e1;cases r with
 | cons r rr=>
  rw [hs];refine assignInOrder_cons (thn (h1 pins s σ H _ _ _ I r h) fun _ s1 ⟨σ1,H1,I1,q1⟩=>?_)
  exact h2 pins s1 σ1 H1 _ _ Q I1 rr q1
def Qsh (K:PySem.W.Frag) (n:Nat) (t:TGs):TG:=fun v σ H Q=>∃ a xs,v=.ref a/\SqT K H a xs/\xs.length=n/\t xs σ H Q
theorem Qm7 {es:List aH} {k:Nat} {t:TGs} {n:Nat} (hc:X.calm=true) (h:PGs X es t)
  (hn:(ar es X.env).length=n:=by rfl) (hst:(ar es X.env).findIdx? (·.1)=none:=by rfl):PG X (.Tuple es k pos) (Qsh X.K n t):=by
 intro pins s σ H v u Q I r hw;obtain ⟨a,xs,e1,hq,hl,hw⟩:=hw;subst e1;cases r;obtain ⟨its,rv,ht,hz⟩:=I.tuple hq;refine assign_Tuple_tuple (I.ok.hd hc) ht (by simp [hn,<- hl,rv.length]) hst fun h' hx=>?_
 have I1:Inv X pins σ H { s with heap:=h' }:=I.kept (t':=s.toks) fun b o e=>hx b o (F8 (E6 e)) e
 exact h pins _ σ H xs _ Q I1 (by simpa using rv) hw
def Qv6 (to ti:TE) (t:Qfm):TG:=fun v σ H Q=>to σ H fun o H1=>ti σ H1 fun i H2=>t o i v H2 fun H3=>Q σ H3
theorem Qm8 {o i:aH} {to ti:TE} {t:Qfm} (ho:PE X o to) (hi:PE X i ti) (hs:Qpj X t)
  (ha:∀ v,assign (.Subscript o i pos) X.env v=(do
   let ov <- av [v] (aM o X.env)
   let iv <- av [v,ov] (aM i X.env)
   standAt pos
   av [v,ov,iv] (setItem ov iv v)
   release [v,ov,iv] []):=by intro _; rfl):PG X (.Subscript o i pos) (Qv6 to ti t):=by
 intro pins s σ H v u Q I r h;rw [ha];refine aD (aZ (thn (ho pins s σ H _ I h) fun ov s1 ⟨x,H1,I1,r1,q1⟩=>?_))
 refine aD (aZ (thn (hi pins s1 σ H1 _ I1 q1) fun iv s2 ⟨y,H2,I2,r2,q2⟩=>?_))
 refine aD (wpAny_standAt (aD (aZ (thn (hs pins s2 σ H2 x y v ov iv u _ I2 r1 r2 r q2) fun _ s3 ⟨H3,I3,q3⟩=>?_))))
 exact wpAny_release ⟨σ,H3,I3,q3⟩
def Qjw (te:TE) (g:TG):TS:=fun D σ H=>te σ H fun x H1=>g x σ H1 D.nx
theorem Qcn {e:aH} {g:TG} (he:PE X e te) (hg:PG X tg g) (hs:swapsWithSole [tg] e pos.line X.env=pure false:=by rfl) (hw:swappedStores [tg] e X.env=pure none:=by rfl)
  (h1:(ar [tg] X.env).map (·.2)=[assign tg X.env]:=by rfl):PS X (.Assign [tg] e pos) (Qjw te g):=by
 intro pins s σ H D I h;refine wpAny_Assign_stores (thn (he pins s σ H _ I h) fun v s1 ⟨x,H1,I1,r1,q1⟩=>?_) hs hw
 rw [h1];exact thn (hg pins s1 σ H1 x v _ I1 r1 q1) fun _ s2 q=>q
theorem Qky {i:Nat} {x:Str} {e:aH} {pos':Pos} (hN:X.N.Nodup) (hi:X.N[i]?=some x) (hx:Loc X.env.scope x) (he:PE X e te) (hs:swapsWith e (some (.Name x pos')) pos.line X.env=pure false:=by rfl) (hf:X.fn x=true\/X.env.scope.names.lookup x=some .local:=by first | exact .inl rfl | exact .inr rfl | assumption) :
  PS X (.Assign [.Name x pos'] e pos) (Qjw te (Q66 i)):=by
 intro pins s σ H D I h;refine wpAny_Assign_Name (thn (he pins s σ H _ I h) fun v s1 ⟨y,H1,I1,r1,q1⟩=>?_) hs
 exact Q0k I1 hN hi hx r1 (fun s2 I2=>⟨_,H1,I2,q1⟩) hf
def Qug (i:Nat) (te:TE) (ti:TIp):TS:=fun D σ H=>∃ x,σ[i]?=some (some x)/\te σ H fun y H1=>ti x y H1 fun z H2=>D.nx (σ.set i (some z)) H2
theorem Qm1 {i:Nat} {x:Str} {e:aH} {ti:TIp} {pos':Pos} (hN:X.N.Nodup) (hi:X.N[i]?=some x) (hx:Loc X.env.scope x) (he:PE X e te) (ho:PIp X op ti) (hf:X.fn x=true\/X.env.scope.names.lookup x=some .local:=by first | exact .inl rfl | exact .inr rfl | assumption) :
  PS X (.AugAssign (.Name x pos') op e pos) (Qug i te ti):=by
 intro pins s σ H D I h;obtain ⟨v,e1,h⟩:=h;obtain ⟨m,hn,hl⟩:=I.loc;have vis:Vis X.env.scope x:=by rcases hx with k | k; exact .inl k; exact .inr (.inl k)
 obtain ⟨u,r,l⟩:=hl i x v hi e1 vis;refine wpAny_AugAssign_Name ?_;have go:aF (aI X.prog X.w) X.A (aM e X.env) (fun w s₂=>aF (aI X.prog X.w) X.A (inplaceOp op u w) (fun r s₃=>aF (aI X.prog X.w) X.A (storeName X.env x r) (fun _=>SP X pins D .next) X.xe s₃) X.xe s₂) X.xe s:=by
  refine thn (he pins s σ H _ I h) fun w s1 ⟨y,H1,I1,r1,q1⟩=>?_
  refine thn (ho pins s1 σ H1 v y u w _ I1 r r1 q1) fun z s2 ⟨zv,H2,I2,r2,q2⟩=>?_
  exact Q0k I2 hN hi hx r2 (fun s3 I3=>⟨_,H2,I3,q2⟩) hf
 rcases l with ⟨hk,hm⟩ | ⟨hk,c,hc,hcell⟩
 ·exact wpAny_loadName_local I.ok.kind hk hn hm go
 ·rcases hk with hk | hk
  ·exact wpAny_loadName_cell I.ok.kind hk hc hcell go
  ·rcases hx with k | k
   ·have:X.env.scope.names.lookup x=some .free:=hk;rw [k] at this; cases this
   ·have:X.env.scope.names.lookup x=some .free:=hk;rw [k] at this; cases this
def Qqj (to ti te:TE) (tget:V->V->Hp->VK->Prop) (tip:TIp) (tset:Qfm):TS:=fun D σ H=>to σ H fun o H1=>ti σ H1 fun i H2=>tget o i H2 fun x H3=>te σ H3 fun y H4=>tip x y H4 fun z H5=>tset o i z H5 fun H6=>D.nx σ H6
def Qt3 (X:Cx) (t:V->V->Hp->VK->Prop):Prop:=
 ∀ (pins:List (aB × Obj)) (s:aC) (σ:St) (H:Hp) (o i:V) (ov iv:aA) (Q:VK),Inv X pins σ H s->RelV o ov->RelV i iv->t o i H Q ->
  aF (aI X.prog X.w) X.A (getItem ov iv) (EP X pins σ Q) X.xe s
theorem Qgt {o i e:aH} {to ti:TE} {tget:V->V->Hp->VK->Prop} {tip:TIp} {tset:Qfm} {tpos:Pos} (ho:PE X o to) (hi:PE X i ti) (hg:Qt3 X tget) (he:PE X e te) (hp:PIp X op tip) (hs:Qpj X tset)
  (ha:∀ ov iv new,augStore i ov iv new=(do av [new,ov,iv] (setItem ov iv new); release [new,ov,iv] []; pure .next):=by intros; rfl):PS X (.AugAssign (.Subscript o i tpos) op e pos) (Qqj to ti te tget tip tset):=by
 intro pins s σ H D I h;refine wpAny_AugAssign_SubscriptAny (thn (ho pins s σ H _ I h) fun ov s1 ⟨x1,H1,I1,r1,q1⟩=>?_) ha
 refine thn (hi pins s1 σ H1 _ I1 q1) fun iv s2 ⟨x2,H2,I2,r2,q2⟩=>?_
 refine thn (hg pins s2 σ H2 x1 x2 ov iv _ I2 r1 r2 q2) fun old s3 ⟨x3,H3,I3,r3,q3⟩=>?_
 refine thn (he pins s3 σ H3 _ I3 q3) fun v s4 ⟨x4,H4,I4,r4,q4⟩=>?_
 refine thn (hp pins s4 σ H4 x3 x4 old v _ I4 r3 r4 q4) fun new s5 ⟨x5,H5,I5,r5,q5⟩=>?_
 exact thn (hs pins s5 σ H5 x1 x2 x5 ov iv new _ I5 r1 r2 r5 q5) fun _ s6 ⟨H6,I6,q6⟩=>⟨σ,H6,I6,q6⟩
def ipI (f:Int->Int->Int):TIp:=fun x y H Q=>∃ i j,x=.int i/\y=.int j/\Q (.int (f i j)) H
theorem Qnr:PIp X .Add (ipI fun i j=>i + j):=by
 intro pins s σ H x y v u Q I r1 r2 h;obtain ⟨i,j,e1,e2,q⟩:=h;subst e1; subst e2;obtain ⟨t,rfl⟩:=r1;obtain ⟨t',rfl⟩:=r2;exact iadd_int ⟨.int _,H,I.tok _,⟨_,rfl⟩,q⟩
end
section
variable {pos:Pos}
def Qjs (c:TT) (tb:TS):TS:=fun D σ H=>∃ W:Nat->St->Hp->Prop,(∃ m,W m σ H)/\∀ m σ H,W m σ H ->
 c σ H fun b H1=>if b=true then ∃ N:St->Hp->Prop,(∀ σ' H',N σ' H'->∃ m',m' < m/\W m' σ' H')/\tb { D with nx:=N,ct:=N,bk:=D.nx } σ H1 else D.nx σ H1
theorem Qcm {body:List aK} (hp:PassesOwn (aI X.prog X.w) X.A X.env X.xe) (hc:PT X c tc) (hb:PSs X body tb):PS X (.While c body [] pos) (Qjs tc tb):=by
 intro pins s σ H D I h;obtain ⟨W,⟨m0,w0⟩,turn⟩:=h;refine wpAny_While (codeAny_whileLoop (fun n s'=>∃ σ' H',Inv X pins σ' H' s'/\W n σ' H') ?_ m0 ⟨σ,H,I,w0⟩);rintro n s1 ⟨σ1,H1,I1,w1⟩;refine bC hp (thn (hc pins s1 σ1 H1 _ I1 (turn n σ1 H1 w1)) fun b s2 ⟨H2,I2,q2⟩=>?_)
 cases b with
 | true=>
  obtain ⟨N,hN,q2⟩:=q2;rw [bN rfl];refine bC hp (thn (hb pins s2 σ1 H2 _ I2 q2) fun f s3 q3=>?_)
  cases f with
  | next=>
   obtain ⟨σ3,H3,I3,n3⟩:=q3;obtain ⟨m',hm,w3⟩:=hN σ3 H3 n3;exact ⟨m',hm,σ3,H3,I3,w3⟩
  | cont=>
   obtain ⟨σ3,H3,I3,n3⟩:=q3;obtain ⟨m',hm,w3⟩:=hN σ3 H3 n3;exact ⟨m',hm,σ3,H3,I3,w3⟩
  | brk=>exact q3
  | ret v=>exact q3
 | false=>
  rw [bO F0];exact wpAny_execs_nil ⟨σ1,H2,I2,q2⟩
end
structure It where
 go:Nat->Hp->Prop
 yld:Nat->Hp->V->Hp->Prop
 stop:Nat->Hp->Prop
def Q1y (X:Cx) (pins:List (aB × Obj)) (H:Hp) (b:aB):Prop:=
 H b=none/\b≠X.env.locals/\b∉X.fs/\(b∈X.ex\/X.s₀.heap.objs.size<=b)/\(∀ x c,X.env.cells.lookup x=some c->c≠b)/\∀ p∈X.pn ++ pins,p.1≠b
theorem Inv.fpOk {σ:St} (I:Inv X pins σ H s) (hb:s.heap.objs.size<=b) (hn:H' b=none):Q1y X pins H' b:=by
 refine ⟨hn,Nat.ne_of_gt (E4 I.lt hb),I.nofs hb,.inr (F6 I.sz hb),fun x c e z=>?_,fun p hp z=>?_⟩
 ·obtain ⟨v,q⟩:=I.cell x c e;exact absurd (E4 q.lt (by rw [z]; exact hb)) (Nat.lt_irrefl _)
 ·exact absurd (E4 (E6 (I.pin p hp).1) (by rw [z]; exact hb)) (Nat.lt_irrefl _)
structure Turn (P:aL) (w:aJ) (K:PySem.W.Frag) (tg:aH) (J:It) (fp:List aB) (it:aB) (tn:Nat->Heap->Prop):Prop where
 mem:it∈fp
 obj:∀ i h,tn i h->∀ b∈fp,∃ o,h.get? b=some o/\∀ v,o.data≠.cell v
 keep:∀ i h h',tn i h->(∀ b∈fp,∀ o,h.get? b=some o->h'.get? b=some o)->tn i h'
 item:∀ (X:Cx),X.prog=P->X.w=w->X.K=K->X.calm=true->∀ (i:Nat) (pins:List (aB × Obj)) (s:aC) (σ:St) (H:Hp) (E:aA->aC->Prop),Inv X pins σ H s->(∀ b∈fp,Q1y X pins H b)->tn i s.heap->J.go i H ->
  aF (aI P w) X.A (au (.ref it)) (fun r s1=>∃ u,r=some u /\
   aF (aI P w) X.A (letOwnedTupleGo tg (.ref it) u) (fun _ s2=>∃ x H',Inv X pins σ H' s2/\RelV x u/\J.yld i H x H'/\tn (i + 1) s2.heap/\∀ b∈fp,H' b=none) E s1) E s
 done:∀ (X:Cx),X.prog=P->X.w=w->X.K=K->X.calm=true->∀ (i:Nat) (pins:List (aB × Obj)) (s:aC) (σ:St) (H:Hp) (E:aA->aC->Prop),Inv X pins σ H s->(∀ b∈fp,Q1y X pins H b)->tn i s.heap->J.stop i H ->
  aF (aI P w) X.A (au (.ref it)) (fun r s1=>r=none/\Inv X pins σ H s1) E s
 self:∀ (A:aQ) (i:Nat) (s:aC) (Q:aA->aC->Prop) (E:aA->aC->Prop),tn i s.heap->Q (.ref it) s->aF (aI P w) A (pyIter (.ref it)) Q E s
abbrev TI:=St->Hp->(It->Hp->Prop)->Prop
def PIE (X:Cx) (pins:List (aB × Obj)) (σ:St) (tg:aH) (R:It->Hp->Prop) (itv:aA) (s2:aC):Prop:=
 ∃ (it:aB) (fp:List aB) (tn:Nat->Heap->Prop) (J:It) (H':Hp),itv=.ref it/\Inv X pins σ H' s2/\Turn X.prog X.w X.K tg J fp it tn/\tn 0 s2.heap/\(∀ b∈fp,Q1y X pins H' b)/\R J H'
def PI (X:Cx) (tg iter:aH) (wi:TI):Prop:=
 ∀ (pins:List (aB × Obj)) (s:aC) (σ:St) (H:Hp) (R:It->Hp->Prop),Inv X pins σ H s->wi σ H R ->
  aF (aI X.prog X.w) X.A (aM iter X.env) (fun v s1=>aF (aI X.prog X.w) X.A (pyIter v) (PIE X pins σ tg R) X.xe s1) X.xe s
theorem Q96 {M:Model} {A:aQ} {E:aA->aC->Prop} {tg:aH} {u:aA} {o:Obj} {n:String} {vs:Array aA} {Q:Unit->aC->Prop} (ho:s.heap.get? it=some o) (hc:o.cls=.type n) (hd:o.data=.fields vs)
  (hn:["enumerate", "zip", "dict_itemiterator", "dict_reverseitemiterator", "odict_iterator", "itertools.zip_longest", "itertools.pairwise"].contains n=false) (hQ:Q () s):aF M A (letOwnedTupleGo tg (.ref it) u) Q E s:=by
 unfold letOwnedTupleGo;cases tg <;> first
  | exact wpAny_pure hQ
  | (cases u <;> first
    | exact wpAny_pure hQ
    | (refine aD (wpAny_load ho ?_)
       rw [hc,hd];show aF M A (if (["enumerate", "zip", "dict_itemiterator", "dict_reverseitemiterator", "odict_iterator", "itertools.zip_longest", "itertools.pairwise"].contains n && vs[0]? == some (ae _))=true then _ else _) Q E s;rw [bO (by intro h; rw [hn,Bool.false_and] at h; cases h)];exact wpAny_pure hQ))
def Itl (K:PySem.W.Frag) (a:aB):It:=
 ⟨fun i H=>∃ xs x,SqL K H a xs/\xs[i]?=some x,fun i H x H'=>H'=H/\∀ xs,SqL K H a xs->xs[i]?=some x,fun i H=>∃ xs,SqL K H a xs/\xs.length<=i⟩
def Itt (K:PySem.W.Frag) (a:aB):It:=
 ⟨fun i H=>∃ xs x,SqT K H a xs/\xs[i]?=some x,fun i H x H'=>H'=H/\∀ xs,SqT K H a xs->xs[i]?=some x,fun i H=>∃ xs,SqT K H a xs/\xs.length<=i⟩
def Itr (lo:Int) (n:Nat):It:=⟨fun i _=>i < n,fun i H x H'=>H'=H/\x=.int (lo + i),fun i _=>n<=i⟩
theorem Q9n {w:aJ} (a it:aB):Turn P w K tg (Itl K a) [it] it (fun i h=>h.IsListIter it a i) where
 mem:=by simp
 obj:=fun i h st b hb=>by
  have e:b=it:=by simpa using hb
  subst e;obtain ⟨o,e,c,d⟩:=st;exact ⟨o,e,fun v z=>by rw [d] at z; cases z⟩
 keep:=fun i h h' st k=>st.at fun o e=>k it (by simp) o e
 item:=by
  intro X hP hw hK hc i pins s σ H E I hf st hg;subst hP hw hK;obtain ⟨xs,x,hq,hx⟩:=hg;obtain ⟨its,rv,p,hz⟩:=I.list hq;obtain ⟨u,hu,ru⟩:=rv.get hx;obtain ⟨f0,f1,f2,f3,f4,f5⟩:=hf it (by simp);refine wpAny_pyNext_list_item st p.isList (x:=u) (by simpa using hu) fun h' st' sb=>?_
  have I1:Inv X pins σ H { s with heap:=h' }:=I.turned (t':=s.toks) (fun b o hb e=>(sb.2 b hb).trans e) f0 f1 f3 f4 f5
  obtain ⟨o,e,c,d⟩:=id st';exact ⟨u,rfl,Q96 (s:={ s with heap:=h' }) e c d (by decide) ⟨x,H,I1,ru,⟨rfl,fun ys hy=>by rw [I.list_inj hy hq]; exact hx⟩,st',fun b hb=>(hf b hb).1⟩⟩
 done:=by
  intro X hP hw hK hc i pins s σ H E I hf st hg;subst hP hw hK;obtain ⟨xs,hq,hx⟩:=hg;obtain ⟨its,rv,p,hz⟩:=I.list hq;obtain ⟨f0,f1,f2,f3,f4,f5⟩:=hf it (by simp);have hl:=rv.length;exact wpAny_pyNext_list_end (I.ok.hd hc) st p.isList (by simp; omega) fun h' eb=>⟨rfl,I.turned (t':=s.toks) (fun b o hb e=>eb b o hb e) f0 f1 f3 f4 f5⟩
 self:=fun _ _ _ _ _ st h=>wpAny_pyIter_listiter st h
theorem Q6p {w:aJ} (a it:aB):Turn P w K tg (Itt K a) [it] it (fun i h=>h.IsTupleIter it a i) where
 mem:=by simp
 obj:=fun i h st b hb=>by
  have e:b=it:=by simpa using hb
  subst e;obtain ⟨o,e,c,d⟩:=st;exact ⟨o,e,fun v z=>by rw [d] at z; cases z⟩
 keep:=fun i h h' st k=>st.at fun o e=>k it (by simp) o e
 item:=by
  intro X hP hw hK hc i pins s σ H E I hf st hg;subst hP hw hK;obtain ⟨xs,x,hq,hx⟩:=hg;obtain ⟨its,rv,p,hz⟩:=I.tuple hq;obtain ⟨u,hu,ru⟩:=rv.get hx;obtain ⟨f0,f1,f2,f3,f4,f5⟩:=hf it (by simp);refine wpAny_pyNext_tuple_item st (show s.heap.IsTuple a its.toArray from p) (x:=u) (by simpa using hu) fun h' st' sb=>?_
  have I1:Inv X pins σ H { s with heap:=h' }:=I.turned (t':=s.toks) (fun b o hb e=>(sb.2 b hb).trans e) f0 f1 f3 f4 f5
  obtain ⟨o,e,c,d⟩:=id st';exact ⟨u,rfl,Q96 (s:={ s with heap:=h' }) e c d (by decide) ⟨x,H,I1,ru,⟨rfl,fun ys hy=>by rw [I.tuple_inj hy hq]; exact hx⟩,st',fun b hb=>(hf b hb).1⟩⟩
 done:=by
  intro X hP hw hK hc i pins s σ H E I hf st hg;subst hP hw hK;obtain ⟨xs,hq,hx⟩:=hg;obtain ⟨its,rv,p,hz⟩:=I.tuple hq;obtain ⟨f0,f1,f2,f3,f4,f5⟩:=hf it (by simp);have hl:=rv.length;exact wpAny_pyNext_tuple_end (I.ok.hd hc) st (show s.heap.IsTuple a its.toArray from p) (by simp; omega) fun h' eb=>⟨rfl,I.turned (t':=s.toks) (fun b o hb e=>eb b o hb e) f0 f1 f3 f4 f5⟩
 self:=fun _ _ _ _ _ st h=>wpAny_pyIter_tupleiter st h
theorem Q6q {w:aJ} (it:aB) (lo:Int) (n:Nat):Turn P w K tg (Itr lo n) [it] it (fun i h=>IsRangeIter h it (lo + (i:Nat) * 1) ((n:Int) - (i:Nat)) 1) where
 mem:=by simp
 obj:=fun i h st b hb=>by
  have e:b=it:=by simpa using hb
  subst e;exact ⟨_,st,fun v z=>by
   have z':Data.fields _=Data.cell v:=z;cases z'⟩
 keep:=fun i h h' st k=>k it (by simp) _ st
 item:=by
  intro X hP hw hK hc i pins s σ H E I hf st hg;subst hP hw hK;obtain ⟨f0,f1,f2,f3,f4,f5⟩:=hf it (by simp);have W:=Walks.range (prog:=X.prog) (w:=X.w) (I.ok.hd hc) it lo 1 n;refine W.item i s _ _ hg st fun v h' tk hv st' kk=>?_
  obtain ⟨t,rfl⟩:=hv;have I1:Inv X pins σ H { s with heap:=h',toks:=tk }:=I.turned (fun b o hb e=>kk b o (by simpa using hb) e) f0 f1 f3 f4 f5
  refine ⟨_,rfl,Q96 (s:={ s with heap:=h',toks:=tk }) (n := "range_iterator") st' rfl rfl (by decide) ⟨.int (lo + i),H,I1,⟨t,?_⟩,⟨rfl,rfl⟩,st',fun b hb=>(hf b hb).1⟩⟩
  rw [Int.mul_one]
 done:=by
  intro X hP hw hK hc i pins s σ H E I hf st hg;subst hP hw hK;obtain ⟨f0,f1,f2,f3,f4,f5⟩:=hf it (by simp);exact wpAny_pyNext_range_end (I.ok.hd hc) st (by have:n<=i:=hg; omega) fun h' eb=>⟨rfl,I.turned (t':=s.toks) (fun b o hb e=>eb b o hb e) f0 f1 f3 f4 f5⟩
 self:=fun _ _ _ _ _ st h=>wpAny_pyIter_rangeiter st h
variable {tg:aH}
def Qsb (K:PySem.W.Frag) (tl:TE):TI:=fun σ H R=>tl σ H fun x H1=>∃ a,x=.ref a/\(∃ xs,SqL K H1 a xs)/\R (Itl K a) H1
def Qv4 (K:PySem.W.Frag) (tl:TE):TI:=fun σ H R=>tl σ H fun x H1=>∃ a,x=.ref a/\(∃ xs,SqT K H1 a xs)/\R (Itt K a) H1
theorem Qh0 (hl:PE X l tl):PI X tg l (Qsb X.K tl):=by
 intro pins s σ H R I h;refine thn (hl pins s σ H _ I h) fun v s1 ⟨x,H1,I1,r1,q1⟩=>?_
 obtain ⟨a,e,⟨xs,hq⟩,q⟩:=q1;subst e;cases r1;obtain ⟨its,rv,p,hz⟩:=I1.list hq;refine wpAny_pyIter_list p.isList ?_;refine ⟨s1.heap.objs.size,[s1.heap.objs.size],_,_,H1,rfl,I1.kept (t':=s1.toks) fun b o e=>O6 _ e,Q9n a _,⟨_,E9 _ rfl,rfl,rfl⟩,fun b hb=>?_,q⟩
 have e:b=s1.heap.objs.size:=by simpa using hb
 subst e;exact I1.fpOk (O8 _) (I1.hok.fresh (O8 _))
theorem Qm6 (hl:PE X l tl):PI X tg l (Qv4 X.K tl):=by
 intro pins s σ H R I h;refine thn (hl pins s σ H _ I h) fun v s1 ⟨x,H1,I1,r1,q1⟩=>?_
 obtain ⟨a,e,⟨xs,hq⟩,q⟩:=q1;subst e;cases r1;obtain ⟨its,rv,p,hz⟩:=I1.tuple hq;refine bJ (show s1.heap.IsTuple a its.toArray from p) ?_;refine ⟨s1.heap.objs.size,[s1.heap.objs.size],_,_,H1,rfl,I1.kept (t':=s1.toks) fun b o e=>O6 _ e,Q6p a _,⟨_,E9 _ rfl,rfl,rfl⟩,fun b hb=>?_,q⟩
 have e:b=s1.heap.objs.size:=by simpa using hb
 subst e;exact I1.fpOk (O8 _) (I1.hok.fresh (O8 _))
theorem Q5a {σ:St} {R:It->Hp->Prop} {E:aA->aC->Prop} {lo hi:Int} {t u v:Tok} {tk:Nat} (I:Inv X pins σ H s) (h1:-(2 ^ 62)<=lo) (h2:lo < 2 ^ 62) (h3:-(2 ^ 62)<=hi) (h4:hi < 2 ^ 62)
  (q:R (Itr lo (hi - lo).toNat) H):aF (aI X.prog X.w) X.A (pyIter (.ref s.heap.objs.size)) (PIE X pins σ tg R) E { s with heap:=s.heap.push { cls:=.type "range",data:=.fields #[.int lo t,.int hi u,.int 1 v] },toks:=tk }:=by
 refine wpAny_pyIter_range (IsRange.new ..) (small_one h1 h2 h3 h4) ?_;have I1:Inv X pins σ H { s with heap:=s.heap.push { cls:=.type "range",data:=.fields #[.int lo t,.int hi u,.int 1 v] },toks:=tk }:=I.kept fun b o e=>O6 _ e
 refine ⟨(s.heap.push { cls:=.type "range",data:=.fields #[.int lo t,.int hi u,.int 1 v] }).objs.size,[(s.heap.push { cls:=.type "range",data:=.fields #[.int lo t,.int hi u,.int 1 v] }).objs.size],_,_,H,rfl,
  I1.kept (t':=tk) fun b o e=>O6 _ e,Q6q _ lo (hi - lo).toNat,?_,fun b hb=>?_,q⟩
 ·have e1:lo + ((0:Nat):Int) * 1=lo:=by simp
  have e2:(((hi - lo).toNat:Nat):Int) - ((0:Nat):Int)=Builtin.Range.rangeSize lo hi 1:=by rw [rangeSize_one]; split <;> omega
  show IsRangeIter _ _ (lo + ((0:Nat):Int) * 1) ((((hi - lo).toNat:Nat):Int) - ((0:Nat):Int)) 1;rw [e1,e2];exact E9 _ rfl
 ·have e:b=(s.heap.push { cls:=.type "range",data:=.fields #[.int lo t,.int hi u,.int 1 v] }).objs.size:=by simpa using hb
  subst e;exact I1.fpOk (O8 _) (I1.hok.fresh (O8 _))
def Qsa (ta:TA):TI:=fun σ H R=>ta σ H fun vs H1=>∃ j:Int,vs=[.int j]/\-(2 ^ 62)<=j/\j < 2 ^ 62/\R (Itr 0 j.toNat) H1
def Qs9 (ta:TA):TI:=fun σ H R=>ta σ H fun vs H1=>∃ i j:Int,vs=[.int i,.int j]/\(-(2 ^ 62)<=i/\i < 2 ^ 62/\-(2 ^ 62)<=j/\j < 2 ^ 62)/\R (Itr i (j - i).toNat) H1
theorem Qa5 {a:aH} {p pos:Pos} (hg:Gl X "range") (hm:X.mg "range" = none) (ha:PA X [a] ta) (hs:aN [a] X.env=[(false,aM a X.env)]:=by rfl):PI X tg (.Call (.Name "range" p) [a] [] pos) (Qsa ta):=by
 intro pins s σ H R I h;refine Call_ (jc I hg hm boot_range (PyProof.Rows.callWith_type1 (thn (ha pos pins s σ H _ I h) fun us s1 ⟨vs,H1,I1,r1,q1⟩=>?_) hs rfl))
 obtain ⟨j,e,q1,q2,q⟩:=q1;subst e;cases r1 with
 | cons r rr=>
  cases rr;obtain ⟨t,rfl⟩:=r;exact call_range_1 (Q5a I1 (by omega) (by omega) q1 q2 (by simpa using q))
theorem Qa4 {a b:aH} {p pos:Pos} (hg:Gl X "range") (hm:X.mg "range" = none) (ha:PA X [a,b] ta) (hs:aN [a,b] X.env=[(false,aM a X.env),(false,aM b X.env)]:=by rfl) (hs2:aN [b] X.env=[(false,aM b X.env)]:=by rfl) :
  PI X tg (.Call (.Name "range" p) [a,b] [] pos) (Qs9 ta):=by
 intro pins s σ H R I h;refine Call_ (jc I hg hm boot_range (PyProof.Rows.callWith_type1 (thn (ha pos pins s σ H _ I h) fun us s1 ⟨vs,H1,I1,r1,q1⟩=>?_) (by rw [hs,hs2]) (by rw [hs2]; rfl)))
 obtain ⟨i,j,e,⟨q1,q2,q3,q4⟩,q⟩:=q1;subst e;cases r1 with
 | cons r rr=>
  cases rr with
  | cons r' rr=>
   cases rr;obtain ⟨t,rfl⟩:=r;obtain ⟨t',rfl⟩:=r';exact call_range_2 (Q5a I1 q1 q2 q3 q4 q)
def Quf (wi:TI) (g:TG) (tb:TS):TS:=fun D σ H=>wi σ H fun J H1=>∃ W:Nat->Nat->St->Hp->Prop,(∃ m,W 0 m σ H1)/\∀ i m σ H,W i m σ H ->
 (J.stop i H/\D.nx σ H)\/(J.go i H/\∃ N:St->Hp->Prop,(∀ σ' H',N σ' H'->∃ m',m' < m/\W (i + 1) m' σ' H')/\∀ x H',J.yld i H x H'->g x σ H' fun σ2 H2=>tb { D with nx:=N,ct:=N,bk:=D.nx } σ2 H2)
def Q0x (fp:List aB) (h:Heap):List (aB × Obj):=fp.filterMap fun b=>(h.get? b).map fun o=>(b,o)
theorem Wu {o:Obj} (hb:b∈fp) (e:h.get? b=some o):(b,o)∈Q0x fp h:=List.mem_filterMap.mpr ⟨b,hb,by rw [e]; rfl⟩
theorem Qa9 {p:aB × Obj} (hp:p∈Q0x fp h):p.1∈fp/\h.get? p.1=some p.2:=by
 obtain ⟨b,hb,e⟩:=List.mem_filterMap.mp hp;cases q:h.get? b with
 | none=>rw [q] at e; cases e
 | some o=>
  rw [q] at e;have e':(b,o)=p:=Option.some.inj e;subst e';exact ⟨hb,q⟩
theorem Inv.pinned {σ:St} (I:Inv X pins σ H s) (hf:∀ b∈fp,Q1y X pins H b) (ho:∀ b∈fp,∃ o,s.heap.get? b=some o/\∀ v,o.data≠.cell v):Inv X (pins ++ Q0x fp s.heap) σ H s:=
 I.pins_of fun p hp=>(D0.mp hp).elim (fun z=>I.pin p (F7 _ z)) fun z=>by
  obtain ⟨hb,e⟩:=Qa9 z;obtain ⟨f0,f1,f2,_⟩:=hf p.1 hb;obtain ⟨o,e',d⟩:=ho p.1 hb;rw [e] at e'; cases e';exact ⟨e,f0,f1,f2,d⟩
theorem Inv.unpinned {pl:List (aB × Obj)} {σ:St} (I:Inv X (pins ++ pl) σ H s):Inv X pins σ H s:=I.pins_of fun p hp=>I.pin p (F7 _ (L5 _ hp))
theorem Qm0 {iter:aH} {body:List aK} {wi:TI} {g:TG} {pos:Pos} (hp:PassesOwn (aI X.prog X.w) X.A X.env X.xe) (hc:X.calm=true) (hi:PI X tg iter wi) (hg:PG X tg g) (hb:PSs X body tb)
  (hs:∀ x,aw iter X.env x=pure x:=by intro _; rfl):PS X (.For tg iter body [] pos) (Quf wi g tb):=by
 intro pins s σ H D I h;refine wpAny_For (thn (hi pins s σ H _ I h) fun v s1 h1=>thn h1 fun itv s2 h2=>?_) hs
 obtain ⟨it,fp,tn,J,H2,e,I2,T,st2,f2,W,⟨m0,w0⟩,turn⟩:=h2;subst e;have stat:∀ {H':Hp},(∀ b∈fp,H' b=none)->∀ b∈fp,Q1y X pins H' b:=fun hn b hb=>⟨hn b hb,(f2 b hb).2⟩
 refine codeAny_forLoop_any (fun n s'=>∃ i σ' H',Inv X pins σ' H' s'/\tn i s'.heap/\(∀ b∈fp,H' b=none)/\W i n σ' H') ?_ m0 ⟨0,σ,H2,I2,st2,fun b hb=>(f2 b hb).1,w0⟩
 rintro n s3 ⟨i,σ3,H3,I3,st3,fr3,w3⟩;rcases turn i n σ3 H3 w3 with ⟨stop,qn⟩ | ⟨go,N,hN,step⟩
 ·refine bC hp (thn (T.done X rfl rfl rfl hc i pins s3 σ3 H3 X.xe I3 (stat fr3) st3 stop) fun r s4 ⟨hr,I4⟩=>?_)
  subst hr;exact wpAny_execs_nil ⟨σ3,H3,I4,qn⟩
 ·refine bC hp (thn (T.item X rfl rfl rfl hc i pins s3 σ3 H3 X.xe I3 (stat fr3) st3 go) fun r s4 ⟨u,hr,h4⟩=>?_)
  subst hr;refine bC hp (thn h4 fun _ s5 ⟨x,H5,I5,r5,y5,st5,fr5⟩=>?_);have I5':=I5.pinned (stat fr5) (T.obj _ _ st5);refine bC hp (thn (hg _ s5 σ3 H5 x u _ I5' r5 (step x H5 y5)) fun _ s6 ⟨σ6,H6,I6,q6⟩=>?_)
  refine bC hp (thn (hb _ s6 σ6 H6 _ I6 q6) fun f s7 q7=>?_)
  have again:∀ {σ7:St} {H7:Hp},Inv X (pins ++ Q0x fp s5.heap) σ7 H7 s7->N σ7 H7->∃ m,m < n/\∃ i σ' H',Inv X pins σ' H' s7/\tn i s7.heap/\(∀ b∈fp,H' b=none)/\W i m σ' H':=fun {σ7 H7} I7 n7=>by
   obtain ⟨m',hm,w7⟩:=hN σ7 H7 n7;refine ⟨m',hm,i + 1,σ7,H7,I7.unpinned,T.keep _ _ _ st5 fun b hb o e=>(I7.pin (b,o) (F7 _ (F7 _ (Wu hb e)))).1,fun b hb=>?_,w7⟩;obtain ⟨o,e,d⟩:=T.obj _ _ st5 b hb;exact (I7.pin (b,o) (F7 _ (F7 _ (Wu hb e)))).2.1
  cases f with
  | next=>obtain ⟨σ7,H7,I7,n7⟩:=q7; exact again I7 n7
  | cont=>obtain ⟨σ7,H7,I7,n7⟩:=q7; exact again I7 n7
  | brk=>obtain ⟨σ7,H7,I7,q7⟩:=q7; exact ⟨σ7,H7,I7.unpinned,q7⟩
  | ret v=>obtain ⟨x7,σ7,H7,I7,r7,q7⟩:=q7; exact ⟨x7,σ7,H7,I7.unpinned,r7,q7⟩
abbrev R2:=V->V->Hp->VK->Prop
variable {r:R2}
def OpR (X:Cx) (f:aA->aA->Sem aA) (r:R2):Prop:=
 ∀ (pins:List (aB × Obj)) (s:aC) (σ:St) (H:Hp) (x y:V) (v u:aA) (Q:VK),Inv X pins σ H s->RelV x v->RelV y u->r x y H Q ->
  aF (aI X.prog X.w) X.A (f v u) (EP X pins σ Q) X.xe s
def UnR (X:Cx) (f:aA->Sem aA) (r:V->Hp->VK->Prop):Prop:=
 ∀ (pins:List (aB × Obj)) (s:aC) (σ:St) (H:Hp) (x:V) (v:aA) (Q:VK),Inv X pins σ H s->RelV x v->r x H Q ->
  aF (aI X.prog X.w) X.A (f v) (EP X pins σ Q) X.xe s
def Vh (X:Cx) (f:aA) (r:List V->Hp->VK->Prop):Prop:=
 ∀ (pins:List (aB × Obj)) (s:aC) (σ:St) (H:Hp) (xs:List V) (us:List aA) (Q:VK),Inv X pins σ H s->Vals xs us->r xs H Q ->
  aF (aI X.prog X.w) X.A (call f us) (EP X pins σ Q) X.xe s
def tOp (r:R2) (ta tb:TE):TE:=fun σ H Q=>ta σ H fun x H1=>tb σ H1 fun y H2=>r x y H2 Q
def tUn (r:V->Hp->VK->Prop) (ta:TE):TE:=fun σ H Q=>ta σ H fun x H1=>r x H1 Q
def rI (C:Int->Int->Prop) (g:Int->Int->V):R2:=fun x y H Q=>∃ i j,x=.int i/\y=.int j/\C i j/\Q (g i j) H
def rI0 (g:Int->Int->V):R2:=fun x y H Q=>∃ i j,x=.int i/\y=.int j/\Q (g i j) H
def rU (g:Int->V):V->Hp->VK->Prop:=fun x H Q=>∃ i,x=.int i/\Q (g i) H
variable {b c:aH} {ta tb tc:TE}
section
variable {a:aH} {pos:Pos}
theorem Qpf (ha:PE X a ta) (hb:PE X b tb) {σ:St} {R:V->V->Hp->Prop} (I:Inv X pins σ H s)
  (h:ta σ H fun x H1=>tb σ H1 fun y H2=>R x y H2) {Q:aA->aC->Prop} {f:aA->aA->Sem aA}
  (hf:∀ v u s2 x y H2,Inv X pins σ H2 s2->RelV x v->RelV y u->R x y H2->aF (aI X.prog X.w) X.A (f v u) Q X.xe s2) :
  aF (aI X.prog X.w) X.A (aM a X.env) (fun v s₁=>aF (aI X.prog X.w) X.A (aM b X.env) (fun u s₂=>aF (aI X.prog X.w) X.A (f v u) Q X.xe s₂) X.xe s₁) X.xe s:=by
 refine thn (ha pins s σ H _ I h) fun v s1 ⟨x,H1,I1,r1,q1⟩=>?_
 refine thn (hb pins s1 σ H1 _ I1 q1) fun u s2 ⟨y,H2,I2,r2,q2⟩=>?_
 exact hf v u s2 x y H2 I2 r1 r2 q2
theorem Qra (ho:OpR X (aV op) r) (ha:PE X a ta) (hb:PE X b tb):PE X (.BinOp a op b pos) (tOp r ta tb):=by
 intro pins s σ H Q I h;exact wpAny_BinOp (Qpf ha hb I h fun v u s2 x y H2 I2 rx ry q=>ho pins s2 σ H2 x y v u Q I2 rx ry q)
theorem Qr9 {op:UnaryOp} {r:V->Hp->VK->Prop} (ho:UnR X (unaryOp op) r) (ha:PE X a ta):PE X (.UnaryOp op a pos) (tUn r ta):=by
 intro pins s σ H Q I h;exact UnaryOp_ (thn (ha pins s σ H _ I h) fun v s1 ⟨x,H1,I1,r1,q1⟩=>ho pins s1 σ H1 x v Q I1 r1 q1)
theorem opI {f:aA->aA->Sem aA} {C:Int->Int->Prop} {g:Int->Int->Int}
  (rule:∀ (i j:Int) (t u:Tok) (s:aC) (Q:aA->aC->Prop) (E:aA->aC->Prop),C i j->Q (.int (g i j) s.toks) { s with toks:=s.toks + 1 }->aF (aI X.prog X.w) X.A (f (.int i t) (.int j u)) Q E s) :
  OpR X f (rI C fun i j=>.int (g i j)):=by
 intro pins s σ H x y v u Q I rx ry h;obtain ⟨i,j,rfl,rfl,hc,q⟩:=h;obtain ⟨t,rfl⟩:=rx;obtain ⟨t',rfl⟩:=ry;exact rule i j t t' s _ _ hc ⟨.int (g i j),H,I.tok _,⟨_,rfl⟩,q⟩
theorem Qrn {f:aA->aA->Sem aA} {g:Int->Int->Int}
  (rule:∀ (i j:Int) (t u:Tok) (s:aC) (Q:aA->aC->Prop) (E:aA->aC->Prop),Q (.int (g i j) s.toks) { s with toks:=s.toks + 1 }->aF (aI X.prog X.w) X.A (f (.int i t) (.int j u)) Q E s) :
  OpR X f (rI0 fun i j=>.int (g i j)):=by
 intro pins s σ H x y v u Q I rx ry h;obtain ⟨i,j,rfl,rfl,q⟩:=h;obtain ⟨t,rfl⟩:=rx;obtain ⟨t',rfl⟩:=ry;exact rule i j t t' s _ _ ⟨.int (g i j),H,I.tok _,⟨_,rfl⟩,q⟩
theorem Qn0 {f:aA->aA->Sem aA} {g:Int->Int->Bool}
  (rule:∀ (i j:Int) (t u:Tok) (s:aC) (Q:aA->aC->Prop) (E:aA->aC->Prop),Q (.bool (g i j)) s->aF (aI X.prog X.w) X.A (f (.int i t) (.int j u)) Q E s) :
  OpR X f (rI0 fun i j=>.bl (g i j)):=by
 intro pins s σ H x y v u Q I rx ry h;obtain ⟨i,j,rfl,rfl,q⟩:=h;obtain ⟨t,rfl⟩:=rx;obtain ⟨t',rfl⟩:=ry;exact rule i j t t' s _ _ ⟨.bl (g i j),H,I,rfl,q⟩
def Qvf (i j:Int):Prop:=0 < j/\j < 1073741824
def Qve (i j:Int):Prop:=0<=j/\j<=1000000/\i.natAbs < 2 ^ 64
def CMul (i j:Int):Prop:=(-(2 ^ 64) < i/\i < 2 ^ 64)\/(-(2 ^ 64) < j/\j < 2 ^ 64)
theorem CMul.ok {i j:Int} (h:CMul i j):IntMulOk i j:=by
 rcases h with ⟨h1,h2⟩ | ⟨h1,h2⟩
 ·exact .of_left (intBits_le_64 h1 h2)
 ·exact .of_right (intBits_le_64 h1 h2)
theorem Qmz:OpR X (aV .Add) (rI0 fun i j=>.int (i + j)):=Qrn fun _ _ _ _ _ _ _ q=>add_int q
theorem Qms:OpR X (aV .Sub) (rI0 fun i j=>.int (i - j)):=Qrn fun _ _ _ _ _ _ _ q=>sub_int q
theorem Qmv:OpR X (aV .Mult) (rI CMul fun i j=>.int (i * j)):=opI fun _ _ _ _ _ _ _ hc q=>mul_int q hc.ok
theorem Qhg:OpR X (aV .FloorDiv) (rI Qvf fun i j=>.int (i / j)):=opI fun i j _ _ _ _ _ hc q=>by
 have h1:(0:Int) < j:=hc.1;have h2:j < 1073741824:=hc.2;exact floordiv_int (by omega) (by rw [Int.fdiv_eq_ediv_of_nonneg i (by omega)]; exact q) (.inl (PyProof.noPylong_small (by omega)))
theorem Qmw:OpR X (aV .Mod) (rI (fun _ j=>0 < j) fun i j=>.int (i % j)):=opI fun i j _ _ _ _ _ hc q=>by
 have h1:(0:Int) < j:=hc;exact mod_int' (by omega) (by rw [Int.fmod_eq_emod_of_nonneg i (by omega)]; exact q)
theorem Qmu:OpR X (aV .Pow) (rI Qve fun i j=>.int (i ^ j.toNat)):=opI fun _ _ _ _ _ _ _ hc q=>pow_int_small hc.1 hc.2.1 hc.2.2 q
theorem unI {f:aA->Sem aA} {g:Int->Int}
  (rule:∀ (i:Int) (t:Tok) (s:aC) (Q:aA->aC->Prop) (E:aA->aC->Prop),Q (.int (g i) s.toks) { s with toks:=s.toks + 1 }->aF (aI X.prog X.w) X.A (f (.int i t)) Q E s) :
  UnR X f (rU fun i=>.int (g i)):=by
 intro pins s σ H x v Q I rx h;obtain ⟨i,rfl,q⟩:=h;obtain ⟨t,rfl⟩:=rx;exact rule i t s _ _ ⟨.int (g i),H,I.tok _,⟨_,rfl⟩,q⟩
theorem Qjj:UnR X (unaryOp .USub) (rU fun i=>.int (-i)):=unI fun _ _ _ _ _ q=>neg_int q
end
section
variable {a:aH} {pos:Pos}
theorem Qei {σ:St} {Q:VK} {k k':Bool} (I:Inv X pins σ H s) (q:Q (.bl k) H) (e:k=k'):EP X pins σ Q (.bool k') s:=by
 subst e;exact ⟨.bl k,H,I,rfl,q⟩
theorem Qrj:OpR X (aS .Lt) (rI0 fun i j=>.bl (decide (i < j))):=Qn0 fun _ _ _ _ _ _ _ q=>lt_int q
theorem Qrk:OpR X (aS .LtE) (rI0 fun i j=>.bl (decide (i<=j))):=Qn0 fun _ _ _ _ _ _ _ q=>le_int q
theorem Qrm:OpR X (aS .Gt) (rI0 fun i j=>.bl (decide (j < i))):=Qn0 fun _ _ _ _ _ _ _ q=>gt_int q
theorem Qhf:OpR X (aS .IsNot) (fun x y H Q=>y=.non/\Q (.bl (!decide (x=.non))) H):=by
 intro pins s σ H x y v u Q I rx ry h;obtain ⟨rfl,q⟩:=h;cases ry;refine isnot_none_gen (Qei I q ?_);cases x <;> first
  | (cases rx; rfl)
  | (obtain ⟨t,rfl⟩:=rx; rfl)
theorem OpR.or {r':R2} (h:OpR X f r) (h':OpR X f r'):OpR X f (fun x y H Q=>r x y H Q\/r' x y H Q):=by
 intro pins s σ H x y v u Q I rx ry q;rcases q with q | q
 ·exact h pins s σ H x y v u Q I rx ry q
 ·exact h' pins s σ H x y v u Q I rx ry q
theorem Q79 (b:aH) {op:CmpOp} (h:op≠.In:=by decide) (h2:op≠.NotIn:=by decide):bG op b=false:=by
 have e1:(op == CmpOp.In)=false:=by cases op <;> first | rfl | exact absurd rfl h
 have e2:(op == CmpOp.NotIn)=false:=by cases op <;> first | rfl | exact absurd rfl h2
 cases b <;> simp [bG,e1,e2]
theorem Qh6 {op:CmpOp} (ho:OpR X (aS op) r) (ha:PE X a ta) (hb:PE X b tb) (hm:bG op b=false):PE X (.Compare a [op] [b] pos) (tOp r ta tb):=by
 intro pins s σ H Q I h;exact wpAny_Compare1 (Qpf ha hb I h fun v u s2 x y H2 I2 rx ry q=>ho pins s2 σ H2 x y v u Q I2 rx ry q) hm
def Qqa (t:TE):TT:=fun σ H Q=>t σ H fun x H'=>∃ k,x=.bl k/\Q k H'
theorem Qgn {op:CmpOp} (ho:OpR X (aS op) r) (ha:PE X a ta) (hb:PE X b tb) (hm:bG op b=false):PT X (.Compare a [op] [b] pos) (Qqa (tOp r ta tb)):=by
 intro pins s σ H Q I h;refine wpAny_isTrue_Compare1 (thn (ha pins s σ H _ I h) fun v s1 ⟨x,H1,I1,r1,q1⟩=>thn (hb pins s1 σ H1 _ I1 q1) fun u s2 ⟨y,H2,I2,r2,q2⟩=>
  thn (ho pins s2 σ H2 x y v u _ I2 r1 r2 q2) fun c s3 ⟨z,H3,I3,r3,k,e,q3⟩=>?_) hm
 subst e;cases r3;exact az ⟨H3,I3,q3⟩
def Qbn (r r':R2) (ta tb tc:TE):TE:=fun σ H Q=>ta σ H fun x H1=>tb σ H1 fun y H2=>r x y H2 fun z H3=>∃ k,z=.bl k /\
 (if k=true then tc σ H3 fun w' H4=>r' y w' H4 Q else Q (.bl false) H3)
theorem Qd4 {op op':CmpOp} {r':R2} (ho:OpR X (aS op) r) (ho':OpR X (aS op') r') (ha:PE X a ta) (hb:PE X b tb) (hc:PE X c tc)
  (hm:lastMarks [op,op'] [b,c]=false:=by with_unfolding_all rfl):PE X (.Compare a [op,op'] [b,c] pos) (Qbn r r' ta tb tc):=by
 intro pins s σ H Q I h;refine Compare_chain (thn (ha pins s σ H _ I h) fun v s1 ⟨x,H1,I1,r1,q1⟩=>chain_link (thn (hb pins s1 σ H1 _ I1 q1) fun u s2 ⟨y,H2,I2,r2,q2⟩=>
  thn (ho pins s2 σ H2 x y v u _ I2 r1 r2 q2) fun d s3 ⟨z,H3,I3,r3,k,e,q3⟩=>?_)) hm
 subst e;cases r3;refine az ?_;cases k with
 | false=>exact ite_ff ⟨.bl false,H3,I3,rfl,q3⟩
 | true=>exact ite_tt (chain_last (thn (hc pins s3 σ H3 _ I3 q3) fun w' s4 ⟨z',H4,I4,r4,q4⟩=>ho' pins s4 σ H4 y z' u w' Q I4 r2 r4 q4))
theorem jb:(sizeLine:Nat) < 2 ^ 63:=by rw [sizeLine_eq]; decide
theorem Q73:OpR X (aV .Add) (fun x y H Q=>∃ i j,x=.str i/\y=.str j/\i.length + j.length<=sizeLine/\Q (.str (i ++ j)) H):=by
 intro pins s σ H x y v u Q I rx ry h;obtain ⟨i,j,rfl,rfl,hz,q⟩:=h;obtain ⟨t,rfl⟩:=rx;obtain ⟨t',rfl⟩:=ry;exact add_str (fun t' tk=>⟨.str (i ++ j),H,I.tok _,⟨_,rfl⟩,q⟩) hz
theorem qp {x:V} (r:Vals [x] us):∃ u,us=[u]/\RelV x u:=by
 cases r with
 | cons r1 r2=>cases r2; exact ⟨_,rfl,r1⟩
theorem Qbf {x y:V} (r:Vals [x,y] us):∃ u w',us=[u,w']/\RelV x u/\RelV y w':=by
 cases r with
 | cons r1 r2=>
  cases r2 with
  | cons r3 r4=>cases r4; exact ⟨_,_,rfl,r1,r3⟩
theorem Qb2 (hc:X.calm=true):Vh X (.builtin "max") (fun xs H Q=>∃ i j,xs=[.int i,.int j]/\Q (.int (if j > i then j else i)) H):=by
 intro pins s σ H xs us Q I r h;obtain ⟨i,j,rfl,q⟩:=h;obtain ⟨u,w',rfl,⟨t,rfl⟩,⟨t',rfl⟩⟩:=Qbf r;refine max_two_ints (I.ok.hd hc) fun h' tk k=>⟨_,H,I.kept k,?_,q⟩
 by_cases hj:j > i
 ·rw [bN hj,bN hj]; exact ⟨_,rfl⟩
 ·rw [bO hj,bO hj]; exact ⟨_,rfl⟩
theorem Qb0 (hc:X.calm=true):Vh X (.builtin "min") (fun xs H Q=>∃ i j,xs=[.int i,.int j]/\Q (.int (if j < i then j else i)) H):=by
 intro pins s σ H xs us Q I r h;obtain ⟨i,j,rfl,q⟩:=h;obtain ⟨u,w',rfl,⟨t,rfl⟩,⟨t',rfl⟩⟩:=Qbf r;refine min_two_ints (I.ok.hd hc) fun h' tk k=>⟨_,H,I.kept k,?_,q⟩
 by_cases hj:j < i
 ·rw [bN hj,bN hj]; exact ⟨_,rfl⟩
 ·rw [bO hj,bO hj]; exact ⟨_,rfl⟩
end
structure ObjM (h:Heap) (x dx C:aB) (mA:Str->Option aA):Prop where
 obj:h.get? x=some (PySem.W.instObj C dx)
 ns:h.Ns1 dx mA
 ne:dx≠x
theorem Qaj (n:h.Ns1 dx mA):∃ od,h.get? dx=some od/\∀ name,PySem.W.lookIn name od=some (mA name):=by
 obtain ⟨o,es,ep,ho,hd,hk,_,hm⟩:=n;refine ⟨o,ho,fun name=>?_⟩;have e:=hm name;unfold nsFind findBy at e;rw [<- Array.find?_toList] at e;unfold PySem.W.lookIn;rw [hd];dsimp only
 split
 ·rename_i y q;rw [q] at e;exact congrArg some e
 ·rename_i q;rw [q] at e;have a:es.toList.any (·.refKey)=false:=by
   rw [List.any_eq_false];intro y hy;obtain ⟨z,t,hkey⟩:=hk y (Array.mem_toList_iff.mp hy);simp [DictEntry.refKey,hkey]
  have a':¬ es.toList.any (·.refKey)=true:=by rw [a]; exact F0
  rw [bO a'];exact congrArg some e
theorem ObjM.look {C:aB} (I:ObjM h x dx C mA):∃ od,PySem.W.InstAt h x (PySem.W.instObj C dx) C (some od)/\∀ name,PySem.W.lookIn name od=some (mA name):=
 let ⟨od,ho,hl⟩:=Qaj I.ns
 ⟨od,⟨I.obj,rfl,rfl,ho⟩,hl⟩
theorem RelO.some_of {o:Option aA} (r:RelO (some v) o):∃ u,o=some u/\RelV v u:=by
 cases o with
 | none=>exact (show False from r).elim
 | some u=>exact ⟨u,rfl,r⟩
variable {C dx:aB}
section
variable {w:aJ} {fs fs':List (Str × V)}
theorem Qi2 (hok:HOk P w H h) (e:H a=some (.ins C dx fs)):∃ mA,ObjM h a dx C mA/\(∀ f,RelO (fs.lookup f) (mA f))/\PySem.Within mA (fs.map (·.1))/\fs.length<=1000/\H dx=some (.own a):=by
 obtain ⟨d,z,ne,ob,mA,n,r,q⟩:=(show ObjOk P w H h a (.ins C dx fs) from hok a _ e);exact ⟨mA,⟨ob,n,ne⟩,r,q,z,d⟩
end
structure Cls (K:PySem.W.Frag) (C:aB):Prop where
 pg:PySem.W.plainGet K C Str.empty=true
 hd:PySem.W.hasDictIn K C=true
 po:PySem.W.plainOver K C=true
 sa:PySem.W.findIn K (.ref C) "__setattr__" = some (some (.builtin "object.__setattr__"))
theorem Cls.get (c:Cls K C) (f:Str):PySem.W.plainGet K C f=true:=c.pg
variable {A:aQ} {E:aA->aC->Prop} {Q:aA->aC->Prop}
section
variable {σ:St} {c:aA} {b:Bool}
inductive TyOf (K:PySem.W.Frag) (H:Hp):V->aA->Prop where
 | non:TyOf K H .non (.type "NoneType")
 | bl (x:Bool):TyOf K H (.bl x) (.type "bool")
 | int (i:Int):TyOf K H (.int i) (.type "int")
 | str (x:Str):TyOf K H (.str x) (.type "str")
 | flt (x:UInt64):TyOf K H (.flt x) (.type "float")
 | lst {a:aB} {xs:List V} (e:H a=some (.lst xs)):TyOf K H (.ref a) (.type "list")
 | frz {a:aB} {o:Obj} {xs:List V} (e:H a=some (.frz o (.lst xs))):TyOf K H (.ref a) (.type "list")
 | tup {a:aB} {xs:List V} (e:H a=some (.tup xs)):TyOf K H (.ref a) (.type "tuple")
 | dK {a:aB} {kvs:List (Key × V)} (e:H a=some (.dK kvs)):TyOf K H (.ref a) (.type "dict")
 | dT {a:aB} {kvs:List (HK × V)} (e:H a=some (.dT kvs)):TyOf K H (.ref a) (.type "dict")
 | ins {a C dx:aB} {fs:List (Str × V)} (e:H a=some (.ins C dx fs)) (cl:Cls K C) (ha:PySem.W.findIn K (.ref C) "__class__" = some (some (.builtin "object.__class__")))
   (hn:PySem.W.specialIn K (.builtin "object.__class__") "__get__" = some (some (.builtin "getset_descriptor.__get__"))) (htk:PySem.W.takesIn K (.builtin "object.__class__")=some true)
   (hm:PySem.W.mroIn K C (.type "object")=some true):TyOf K H (.ref a) (.ref C)
theorem Qak {x:V} {u t:aA} (I:Inv X pins σ H s) (rx:RelV x u) (ty:TyOf X.K H x t) (e:PySem.W.kitOne X.K t c=some b) (h:∀ tk,Q (.bool b) { s with toks:=tk }) :
  aF (aI X.prog X.w) A (call (.builtin "isinstance") [u,c]) Q E s:=by
 cases ty with
 | non=>cases (show u=Value.none from rx); exact PySem.W.kia_one PySem.W.kitx_none I.kIn True.intro e (fun z=>nomatch z) h
 | bl y=>cases (show u=Value.bool y from rx); exact PySem.W.kia_one PySem.W.kitx_bool I.kIn True.intro e (fun z=>nomatch z) h
 | int i=>obtain ⟨t,q⟩:=(show ∃ t,u=Value.int i t from rx); cases q; exact PySem.W.kia_one PySem.W.kitx_int I.kIn True.intro e (fun z=>nomatch z) h
 | str y=>obtain ⟨t,q⟩:=(show ∃ t,u=Value.str y t from rx); cases q; exact PySem.W.kia_one PySem.W.kitx_str I.kIn True.intro e (fun z=>nomatch z) h
 | flt y=>obtain ⟨t,q⟩:=(show ∃ t,u=Value.float y t from rx); cases q; exact PySem.W.kia_one PySem.W.kitx_float I.kIn True.intro e (fun z=>nomatch z) h
 | @lst a xs ea=>
  cases (show u=Value.ref a from rx);obtain ⟨_,_,n,_,h1⟩:=(show ObjOk X.prog X.w H s.heap a (.lst xs) from I.hok a _ ea);exact PySem.W.kia_one PySem.W.kitx_list I.kIn ⟨_,h1,rfl⟩ e (fun z=>nomatch z) h
 | @frz a ob xs ea=>
  cases (show u=Value.ref a from rx);obtain ⟨_,_,_,n,_,h1⟩:=(show ObjOk X.prog X.w H s.heap a (.frz ob (.lst xs)) from I.hok a _ ea);exact PySem.W.kia_one PySem.W.kitx_list I.kIn ⟨_,h1,rfl⟩ e (fun z=>nomatch z) h
 | @tup a xs ea=>
  cases (show u=Value.ref a from rx);obtain ⟨_,_,_,p⟩:=(show ObjOk X.prog X.w H s.heap a (.tup xs) from I.hok a _ ea);obtain ⟨o,h1,h2,_⟩:=p;exact PySem.W.kia_one PySem.W.kitx_tuple I.kIn ⟨o,h1,h2⟩ e (fun z=>nomatch z) h
 | @dK a kvs ea=>
  cases (show u=Value.ref a from rx);obtain ⟨_,_,vs,_,p⟩:=(show ObjOk X.prog X.w H s.heap a (.dK kvs) from I.hok a _ ea);obtain ⟨o,es,ep,h1,h2,_⟩:=p;exact PySem.W.kia_one PySem.W.kitx_dict I.kIn ⟨o,h1,h2.1⟩ e (fun z=>nomatch z) h
 | @dT a kvs ea=>
  cases (show u=Value.ref a from rx);obtain ⟨_,_,xs,_,o,es,ep,h1,h2,_⟩:=(show ObjOk X.prog X.w H s.heap a (.dT kvs) from I.hok a _ ea);exact PySem.W.kia_one PySem.W.kitx_dict I.kIn ⟨o,h1,h2.1⟩ e (fun z=>nomatch z) h
 | @ins a C dx fs ea cl ha hn htk hm=>
  cases (show u=Value.ref a from rx);obtain ⟨mA,O,_⟩:=Qi2 I.hok ea;obtain ⟨od,J,_⟩:=O.look;exact PySem.W.kia_one (PySem.W.kitx_own (cl.get _) cl.hd ha hn htk hm) I.kIn J e (fun z=>nomatch z) h
end
structure Room (k:Nat) (A:aQ):Prop where
 hd:A.handled=none
 dp:A.depth + 3 * k + 5 < recursionLimit
 un:A.units + 16 * k + 200 < aO
theorem Room.mono {j:Nat} (r:Room k A) (h:j<=k):Room j A:=⟨r.hd,by have:=r.dp; omega,by have:=r.un; omega⟩
theorem Room.deeper (r:Room (k + 1) A) (env:Env):Room k (A.deeper env):=
 ⟨r.hd,by have:=r.dp; show A.depth + 1 + 3 * k + 5 < _; omega,by have:=r.un; show A.units + 3 + 16 * k + 200 < _; omega⟩
theorem Room.depth (r:Room k A):A.depth < recursionLimit:=by have:=r.dp; omega
theorem Room.units (r:Room k A):A.units + 64 < aO:=by have:=r.un; omega
def Quc:TA:=fun _ H Q=>Q [] H
def Qqh (ta:TE) (tr:TA):TA:=fun σ H Q=>ta σ H fun x H1=>tr σ H1 fun xs H2=>Q (x :: xs) H2
variable {es:List aH}
section
variable {e:aH} {t:TA} {pos:Pos}
theorem Q3v:PA X [] Quc:=fun _ _ _ _ H Q I h=>Calls.spliced_nil ⟨[],H,I,.nil,h⟩
theorem jx (ha:PE X e te) (hr:PA X es t) (hs:aN (e :: es) X.env=(false,aM e X.env) :: aN es X.env:=by rfl):PA X (e :: es) (Qqh te t):=by
 intro pos pins s σ H Q I h;rw [hs];show aF _ _ (spliced ((false,aM e X.env) :: aX pos (aN es X.env))) _ _ s;refine Calls.spliced_cons (thn (ha pins s σ H _ I h) fun u s1 ⟨x,H1,I1,r1,q1⟩=>?_)
 exact thn (hr pos pins s1 σ H1 _ I1 q1) fun us s2 ⟨xs,H2,I2,r2,q2⟩=>⟨x :: xs,H2,I2,.cons r1 r2,q2⟩
def Qu8 (t:TA):TE:=fun σ H Q=>t σ H fun xs H1=>xs.length<=sizeLine/\∀ p,H1 p=none->Q (.ref p) (upd H1 p (.tup xs))
def Qud (t:TA):TE:=fun σ H Q=>t σ H fun xs H1=>xs.length<=sizeLine/\∀ p,H1 p=none->Q (.ref p) (upd H1 p (.lst xs))
theorem Qma {x1} (h:PA X es t):PE X (.Tuple es x1 pos) (Qu8 t):=by
 intro pins s σ H Q I hq;refine wpAny_Tuple_spliced (thn (h pos pins s σ H _ I hq) fun us s1 ⟨xs,H1,I1,r,z,q⟩=>⟨by rw [<- r.length]; exact z,?_⟩)
 have hf:H1 s1.heap.objs.size=none:=I1.hok.fresh (O8 _);refine ⟨.ref s1.heap.objs.size,upd H1 s1.heap.objs.size (.tup xs),I1.laid (t':=s1.toks) (fun b u e=>O6 _ e) (O8 _) ?_,rfl,q _ hf⟩;exact ⟨z,us,r,⟨_,E9 _ rfl,rfl,_,rfl⟩⟩
theorem Qd0 (h:PA X es t):PE X (.List es pos) (Qud t):=by
 intro pins s σ H Q I hq;refine wpAny_List_spliced (thn (h pos pins s σ H _ I hq) fun us s1 ⟨xs,H1,I1,r,z,q⟩=>⟨by rw [<- r.length]; exact z,?_⟩)
 have hf:H1 s1.heap.objs.size=none:=I1.hok.fresh (O8 _);refine ⟨.ref s1.heap.objs.size,upd H1 s1.heap.objs.size (.lst xs),I1.laid (t':=s1.toks) (fun b u e=>O6 _ e) (O8 _) ?_,rfl,q _ hf⟩;exact ⟨z,us,0,r,E9 _ rfl⟩
end
abbrev Sp:=List V->Hp->VK->XK->Prop
abbrev CXT:=List Env->Hp->aC->XK->aA->aC->Prop
structure Env0 (P:aL) (w:aJ) (K:PySem.W.Frag) (mg:Str->Option aA) (base:Heap) (A:aQ) (outer:List Env) (s:aC) (H:Hp):Prop where
 frames:A.frames=some outer
 mod:Mod K mg base
 bs:∀ b o,base.get? b=some o->s.heap.get? b=some o/\H b=none
 bsz:base.objs.size<=s.heap.objs.size
 funs:s.heap.FunFrames base outer
 frf:∀ b∈frs outer,H b=none
 hok:HOk P w H s.heap
 bare:AllBare s.gens
def CE (outer:List Env) (P:aL) (w:aJ) (H:Hp) (s:aC) (Q:VK) (u:aA) (s':aC):Prop:=
 ∃ v H',s'.os=s.os/\AllBare s'.gens/\Un (frs outer) [] H H' s.heap s'.heap/\HOk P w H' s'.heap/\RelV v u/\Q v H'
def CR (CX:CXT) (outer:List Env) (P:aL) (w:aJ) (H:Hp) (s:aC) (Q:VK) (E:XK) (r:Result) (s':aC):Prop:=
 match r with
 | .ok (.ret u)=>CE outer P w H s Q u s'
 | .ok _=>False
 | .error e=>CX outer H s E e s'
structure FnOk (P:aL) (w:aJ) (K:PySem.W.Frag) (mg:Str->Option aA) (base:Heap) (CX:CXT) (k:Nat) (f:aB) (fd:aP) (ps:List Str) (sp:Sp):Prop where
 len:∀ vs H Q E,sp vs H Q E->vs.length=ps.length
 run:∀ (A:aQ) (outer:List Env) (s:aC) (H:Hp) (args:Args) (us:List aA) (vs:List V) (Q:VK) (E:XK),Room k A->Env0 P w K mg base A outer s H->BindsTo s fd args (ps.zip us)->Vals vs us->sp vs H Q E ->
  codeAny (aI P w) A (.call (.ref f) args) (CR CX outer P w H s Q E) s
theorem FnOk.imp {w:aJ} {base:Heap} {CX:CXT} {f:aB} {sp sp':Sp} (F:FnOk P w K mg base CX k f fd ps sp)
  (h:∀ vs H Q E,sp' vs H Q E->sp vs H Q E):FnOk P w K mg base CX k f fd ps sp':=
 ⟨fun vs H Q E q=>F.len vs H Q E (h _ _ _ _ q),fun A outer s H args us vs Q E hr he hb hv hs=>F.run A outer s H args us vs Q E hr he hb hv (h _ _ _ _ hs)⟩
variable {s':aC}
section
variable {σ:St}
theorem Inv.env0 (I:Inv X pins σ H s):Env0 X.prog X.w X.K X.mg X.base X.A X.stack s H:=
 ⟨I.ok.frames,I.ok.mod,I.bs,F6 I.ok.bsz I.sz,I.stack,I.stkFree,I.hok,I.bare⟩
theorem Inv.after {Q:VK} {u:aA} (I:Inv X pins σ H s) (h:CE X.stack X.prog X.w H s Q u s'):EP X pins σ Q u s':=by
 obtain ⟨v,H',os,bare,un,hok,r,q⟩:=h;obtain ⟨hh,g,d,t,os'⟩:=s';obtain rfl:os'=s.os:=os;exact ⟨v,H',I.call (h':=hh) (g':=g) (d':=d) (t':=t) (ch:=[]) un hok bare (fun b z=>absurd z (by simp)),r,q⟩
end
def Qqi (sp:Sp) (dvs:List V) (E:XK) (t:TA):TE:=fun σ H Q=>t σ H fun vs H1=>sp (vs ++ dvs) H1 Q E
def Binds (K:PySem.W.Frag) (fd:aP) (ps:List Str) (ds:List aA):Prop:=
 ∀ (s:aC) (us:List aA),K.In s.heap->(us ++ ds).length=ps.length->BindsTo s fd ⟨us,[]⟩ (ps.zip (us ++ ds))
theorem Binds.all (h:∀ us:List aA,us.length=ps.length->bindArgs fd ⟨us,[]⟩=pure (ps.zip us)):Binds K fd ps []:=fun s us _ hl=>by
 rw [F9] at hl ⊢;exact .of_eq (h us hl)
def Q1x (CX:CXT) (X:Cx) (E:XK):Prop:=∀ (pins:List (aB × Obj)) (σ:St) (H:Hp) (s:aC) (e:aA) (s':aC),Inv X pins σ H s->CX X.stack H s E e s'->X.xe e s'
variable {CX:CXT} {k:Nat} {f:aB} {fd:aP} {ps:List Str} {sp:Sp} {dvs:List V} {ds:List aA} {m:Str} {p apos:Pos}
section
variable {E:XK} {x:Str} {pos:Pos} {e o:aH} {t:TA}
theorem Qkq {pins:List (aB × Obj)} {σ:St} {H:Hp} {s:aC} {Q:VK} {us:List aA} {vs:List V} (F:FnOk X.prog X.w X.K X.mg X.base CX k f fd ps sp) (hr:Room k X.A) (hb:Binds X.K fd ps ds) (hd:Vals dvs ds) (hx:Q1x CX X E)
  (I:Inv X pins σ H s) (r:Vals vs us) (h:sp (vs ++ dvs) H Q E):aF (aI X.prog X.w) X.A (call (.ref f) us) (EP X pins σ Q) X.xe s:=by
 have r2:Vals (vs ++ dvs) (us ++ ds):=r.append hd;have hl:(us ++ ds).length=ps.length:=by rw [<- r2.length]; exact F.len _ _ _ _ h
 refine wpAny_call (bL (F.run X.A X.stack s H ⟨us,[]⟩ (us ++ ds) (vs ++ dvs) Q E hr I.env0 (hb s us I.kIn hl) r2 h) fun r s' hq=>?_)
 cases r with
 | error e=>exact hx pins σ H s e s' I hq
 | ok fl=>
  cases fl with
  | ret u=>exact I.after hq
  | next=>exact False.elim hq
  | brk=>exact False.elim hq
  | cont=>exact False.elim hq
theorem Qh7 (F:FnOk X.prog X.w X.K X.mg X.base CX k f fd ps sp) (hr:Room k X.A) (hg:Gl X x) (hm:X.mg x=some (.ref f)) (hk:PySem.W.keepIn X.K (.ref f)=true) (hb:Binds X.K fd ps ds) (hd:Vals dvs ds) (hx:Q1x CX X E)
  (ha:PA X (e :: es) t) (hdb:(x == ("__debug__" : Str))=false:=by decide) (he:aN (e :: es) X.env=(false,aM e X.env) :: aN es X.env:=by rfl) (hpl:(aX pos (aN es X.env)).any (·.1)=false:=by rfl) :
  PE X (.Call (.Name x p) (e :: es) [] pos) (Qqi sp dvs E t):=by
 intro pins s σ H Q I h;refine wpAny_Call_Name_kw (Q44 I hg hm ?_ hdb);refine PySem.W.callWith_K (h₀:=X.base) I.ok.mod.kin hk (thn (ha pos pins s σ H _ I h) fun us s1 ⟨vs,H1,I1,r,q⟩=>⟨I1.kIn,?_⟩) he hpl
 exact Qkq F hr hb hd hx I1 r q
end
structure FnScope (N P:List Str) (sc:Scope):Prop where
 kind:sc.kind=.function
 co:sc.isCoroutine=false
 gen:sc.isGenerator=false
 nd:N.Nodup
 pre:N.take P.length=P
 par:∀ x∈P,sc.names.lookup x=some .local\/sc.names.lookup x=some .cell
 nofree:∀ y∈sc.names,y.2≠.free
theorem Q39 {kindOf:Str->Option ao} {x:Str}:∀ {binds:List (Str × aA)} {m:Str->Option aA},(∀ v,(x,v)∉binds)->bindL kindOf binds m x=m x
 | [],_,_=>rfl
 | (n,v) :: r,m,h=>by
  unfold bindL;rw [Q39 fun w hw=>h w (O7 _ hw)]
  split
  ·have:x≠n:=by rintro rfl; exact h v D1
   simp [this]
  ·rfl
theorem Q3b {kindOf:Str->Option ao} {x:Str}:∀ {binds:List (Str × aA)} {m:Str->Option aA},(∀ v,(x,v)∉binds)->bindC kindOf binds m x=m x
 | [],_,_=>rfl
 | (n,v) :: r,m,h=>by
  unfold bindC;rw [Q3b fun w hw=>h w (O7 _ hw)]
  split
  ·rfl
  ·have:x≠n:=by rintro rfl; exact h v D1
   simp [this]
theorem Q3a {kindOf:Str->Option ao} {x:Str} {v:aA}:∀ {P:List Str} {vs:List aA} {i:Nat} {m:Str->Option aA},P.Nodup->P[i]?=some x->vs[i]?=some v->kindOf x=some .local ->
  bindL kindOf (P.zip vs) m x=some v
 | [],_,_,_,_,h,_,_=>by simp at h
 | _ :: _,[],_,_,_,_,h,_=>by simp at h
 | p :: P,w :: vs,0,m,nd,h1,h2,hk=>by
  simp at h1 h2; subst h1; subst h2;show bindL kindOf ((p,w) :: P.zip vs) m p=_;unfold bindL;rw [Q39 fun v hv=>(L7.mp nd).1 (List.of_mem_zip hv).1,bN hk]
  simp
 | p :: P,w :: vs,i + 1,m,nd,h1,h2,hk=>by
  show bindL kindOf ((p,w) :: P.zip vs) m x=_;unfold bindL;exact Q3a (i:=i) (L7.mp nd).2 (by simpa using h1) (by simpa using h2) hk
theorem Q3c {kindOf:Str->Option ao} {x:Str} {v:aA}:∀ {P:List Str} {vs:List aA} {i:Nat} {m:Str->Option aA},P.Nodup->P[i]?=some x->vs[i]?=some v->kindOf x≠some .local ->
  bindC kindOf (P.zip vs) m x=some v
 | [],_,_,_,_,h,_,_=>by simp at h
 | _ :: _,[],_,_,_,_,h,_=>by simp at h
 | p :: P,w :: vs,0,m,nd,h1,h2,hk=>by
  simp at h1 h2; subst h1; subst h2;show bindC kindOf ((p,w) :: P.zip vs) m p=_;unfold bindC;rw [Q3b fun v hv=>(L7.mp nd).1 (List.of_mem_zip hv).1,bO hk]
  simp
 | p :: P,w :: vs,i + 1,m,nd,h1,h2,hk=>by
  show bindC kindOf ((p,w) :: P.zip vs) m x=_;unfold bindC;exact Q3c (i:=i) (L7.mp nd).2 (by simpa using h1) (by simpa using h2) hk
def start (N:List Str) (vs:List V):St:=vs.map some ++ List.replicate (N.length - vs.length) none
def Qav (CX:CXT) (P:aL) (w:aJ) (K:PySem.W.Frag) (mg:Str->Option aA) (base:Heap) (N:List Str) (qual:Str) (scope:Scope) (f:aB) (cd:aA) (A:aQ) (outer:List Env) (s:aC) (H:Hp) (E:XK):Cx where
 prog:=P
 w:=w
 K:=K
 mg:=mg
 base:=base
 A:=A.deeper (envOfC qual scope s.heap.objs.size f cd)
 N:=N
 s₀:=s
 H₀:=H
 env:=envOfC qual scope s.heap.objs.size f cd
 outer:=outer
 stack:=envOfC qual scope s.heap.objs.size f cd :: outer
 ex:=[]
 calm:=true
 fn:=fun _=>true
 pn:=[]
 xe:=fun e s'=>aF (aI P w) (A.deeper (envOfC qual scope s.heap.objs.size f cd)) (leaving (envOfC qual scope s.heap.objs.size f cd) e) (fun _ s''=>CX outer H s E e s'') (fun e' s''=>CX outer H s E e' s'') s'
theorem Q6f {sc:Scope} {x:Str} (h:sc.names.lookup x=some .cell):∃ c,(af n sc.names []).lookup x=some c:=by
 have q:=PySem.W.cellsFrom_some sc.names n [] (.inl h);exact Option.isSome_iff_exists.mp q
theorem Qan {CX:CXT} {P:aL} {w:aJ} {K:PySem.W.Frag} {mg:Str->Option aA} {base:Heap} {N ps:List Str} {qual:Str} {scope:Scope} {f:aB} {cd:aA} {A:aQ} {outer:List Env} {s s1:aC} {H:Hp} {E:XK} {us:List aA} {vs:List V}
  (S:FnScope N ps scope) (hd:A.handled=none) (e0:Env0 P w K mg base A outer s H) (hl:vs.length=ps.length) (r:Vals vs us)
  (x:InCallC s s.heap.objs.size (bindL (envOfC qual scope s.heap.objs.size f cd).kindOf (ps.zip us) fun _=>none) (af (s.heap.objs.size + 1) scope.names []) (bindC (envOfC qual scope s.heap.objs.size f cd).kindOf (ps.zip us) fun _=>none) s1) :
  Inv (Qav CX P w K mg base N qual scope f cd A outer s H E) [] (start N vs) H s1:=by
 have hpl:ps.length<=N.length:=by have:=congrArg List.length S.pre; rw [List.length_take] at this; omega
 obtain ⟨h1,tk,rfl,hk⟩:=x.done;have noA:∀ b:aB,b∉(Qav CX P w K mg base N qual scope f cd A outer s H E).ex:=fun b z=>absurd (show b∈([]:List aB) from z) (by simp)
 refine ⟨⟨e0.mod,S.kind,rfl,rfl,O8 _,fun y z c h1 h2=>?_,fun y hy=>?_,fun y c _ h=>?_,fun _=>hd,Around.frames_deeper e0.frames,.inr ⟨rfl,rfl⟩,fun b z=>absurd z (noA b),e0.bs,e0.bsz,fun b _ _=>noA b,fun b z=>absurd z (noA b),e0.funs,e0.frf⟩,
  rfl,e0.bare,Un.kept hk,⟨_,x.toInCall.ns,fun i y v h1 h2 h3=>?_⟩,fun y c h=>⟨_,x.cell y c h⟩,e0.hok.fresh (O8 _),fun y c h=>?_,fun p hp=>absurd (show p∈([]:List (aB × Obj)) from hp) (by simp),e0.hok.kept hk,?_⟩
 ·exact name_of_addr x.apart (PySem.mem_of_lookup h1) (PySem.mem_of_lookup h2)
 ·have hy:scope.names.lookup y=some .cell\/scope.names.lookup y=some .free:=hy;rcases hy with hy | hy
  ·exact Q6f hy
  ·exact absurd rfl (S.nofree _ (PySem.mem_of_lookup hy))
 ·exact Nat.le_of_lt (x.above y c (PySem.mem_of_lookup h))
 ·have hi:i < vs.length:=by
   unfold start at h2
   by_cases hi:i < vs.length
   ·exact hi
   ·rw [D7 (by simpa using hi)] at h2;rw [List.getElem?_replicate] at h2
    split at h2 <;> cases h2
  have ha:vs[i]?=some v:=by
   unfold start at h2;rw [O5 (by simpa using hi),E8] at h2;cases e:vs[i]? with
   | none=>rw [e] at h2; cases h2
   | some a=>rw [e] at h2; cases h2; rfl
  obtain ⟨u,hu,rv⟩:=r.get ha;have hp:ps[i]?=some y:=by
   rw [<- S.pre,List.getElem?_take_of_lt (by omega)]; exact h1
  have ndP:ps.Nodup:=by rw [<- S.pre]; exact S.nd.sublist (List.take_sublist _ _)
  refine ⟨u,rv,?_⟩;rcases S.par y (F3 hp) with k | k
  ·exact .inl ⟨k,Q3a ndP hp hu k⟩
  ·obtain ⟨c,e⟩:=Q6f (n:=s.heap.objs.size + 1) k;refine .inr ⟨.inl k,c,e,?_⟩;have q:=x.cell y c e;rw [Q3c ndP hp hu (by show scope.names.lookup y≠_; rw [k]; decide)] at q;exact q
 ·exact e0.hok.fresh (Nat.le_of_lt (x.above y c (PySem.mem_of_lookup h)))
 ·unfold start;show _=N.length;rw [O4,O1,List.length_replicate];omega
theorem Qst {CX:CXT} {P:aL} {w:aJ} {K:PySem.W.Frag} {mg:Str->Option aA} {base:Heap} {k:Nat} {f:aB} {name qual:Str} {params:Arguments} {body:List aK} {scope:Scope} {dV kV doc pm cdv ct oc:aA} {an od:Option aB}
  {osl:Array (Option aA)} {N ps:List Str} {sp:Sp} (lk:K.lookup f=some ⟨oc,od,.func (PySem.W.fnOf name qual params body scope dV kV doc pm an cdv ct),osl⟩) (hcd:PySem.W.codeIn K cdv qual=true) (S:FnScope N ps scope)
  (len:∀ vs H Q E,sp vs H Q E->vs.length=ps.length)
  (hbody:∀ (A:aQ) (outer:List Env) (s:aC) (H:Hp) (vs:List V) (Q:VK) (E:XK),Room k (A.deeper (envOfC qual scope s.heap.objs.size f cdv))->sp vs H Q E ->
   ∃ t,PSs (Qav CX P w K mg base N qual scope f cdv A outer s H E) body t/\t { nx:=fun _ H'=>Q .non H',rt:=Q } (start N vs) H) :
  FnOk P w K mg base CX (k + 1) f (PySem.W.fnOf name qual params body scope dV kV doc pm an cdv ct) ps sp:=by
 refine ⟨len,fun A outer s H args us vs Q E hr e0 hb r hsp=>?_⟩;have hl:=len _ _ _ _ hsp;have KX:K.In s.heap:=e0.mod.kin.keeps fun b o e=>(e0.bs b o e).1
 have lim:s.heap.NoLimit:=e0.mod.nolimit.keeps fun b o e=>(e0.bs b o e).1
 have hkind:∀ y∈ps.zip us,scope.names.lookup y.1=some .local\/(scope.names.lookup y.1=some .cell/\((af (s.heap.objs.size + 1) scope.names []).lookup y.1).isSome=true):=fun ⟨n,v⟩ hy=>by
  rcases S.par n (List.of_mem_zip hy).1 with q | q
  ·exact .inl q
  ·exact .inr ⟨q,PySem.W.cellsFrom_some _ _ _ (.inl q)⟩
 refine codeAny_call_function hr.depth (KX _ _ lk) rfl S.co S.gen rfl (PySem.W.codeRec_of KX hcd) (hb _ _ _ _ ?_);refine wpAny_newFunctionEnv_cells S.kind hkind fun env he s1 x=>?_
 subst he;refine ⟨lim.keeps x.toInCall.keep,codeAny_func ?_⟩;obtain ⟨t,ht,hq⟩:=hbody A outer s H vs Q E (hr.deeper _) hsp;have I:Inv (Qav CX P w K mg base N qual scope f cdv A outer s H E) [] (start N vs) H s1:=Qan S hr.hd e0 hl r x;refine ak (ht [] s1 (start N vs) H _ I hq) (fun fl s' hs=>?_) fun e s' hs=>hs
 have fin:∀ {σ':St} {H':Hp} {v:V} {u:aA},Inv (Qav CX P w K mg base N qual scope f cdv A outer s H E) [] σ' H' s'->RelV v u->Q v H'->CE outer P w H s Q u s':=
  fun {σ' H' v u} J rv q=>⟨v,H',J.os,J.bare,J.base,J.hok,rv,q⟩
 cases fl with
 | ret u=>
  obtain ⟨v,σ',H',J,rv,q⟩:=hs;exact fin J rv q
 | next=>
  obtain ⟨σ',H',J,q⟩:=hs;exact fin (v:=V.non) (u:=Value.none) J rfl q
 | brk=>
  obtain ⟨_,_,_,q⟩:=hs;exact False.elim q
 | cont=>
  obtain ⟨_,_,_,q⟩:=hs;exact False.elim q
variable {T:String} {r:List V->Hp->VK->Prop}
section
variable {x:Str} {pos:Pos} {e:aH} {t:TA} {id:String}
def tCB (r:List V->Hp->VK->Prop) (t:TA):TE:=fun σ H Q=>t σ H fun vs H1=>r vs H1 Q
theorem Q5e (hc:Vh X (.builtin id) r) (hg:Gl X x) (hm:X.mg x=none) (hv:aW x=some (.builtin id)) (ha:PA X (e :: es) t) (hn:x≠"__name__" := by decide) (hdb:(x == ("__debug__" : Str))=false:=by decide)
  (he:aN (e :: es) X.env=(false,aM e X.env) :: aN es X.env:=by rfl) (hpl:(aX pos (aN es X.env)).any (·.1)=false:=by rfl):PE X (.Call (.Name x p) (e :: es) [] pos) (tCB r t):=by
 intro pins s σ H Q I h;refine wpAny_Call_Name_kw (jc I hg hm hv ?_ hn hdb);exact PyProof.Rows.callWith_builtin1 (thn (ha pos pins s σ H _ I h) fun us s1 ⟨vs,H1,I1,r1,q1⟩=>hc pins s1 σ H1 vs us Q I1 r1 q1) he hpl
theorem Q2n (hc:Vh X (.type T) r) (hg:Gl X x) (hm:X.mg x=none) (hv:aW x=some (.type T)) (ha:PA X (e :: es) t) (hn:x≠"__name__" := by decide) (hdb:(x == ("__debug__" : Str))=false:=by decide)
  (he:aN (e :: es) X.env=(false,aM e X.env) :: aN es X.env:=by rfl) (hpl:(aX pos (aN es X.env)).any (·.1)=false:=by rfl):PE X (.Call (.Name x p) (e :: es) [] pos) (tCB r t):=by
 intro pins s σ H Q I h;refine wpAny_Call_Name_kw (jc I hg hm hv ?_ hn hdb);exact PyProof.Rows.callWith_type1 (thn (ha pos pins s σ H _ I h) fun us s1 ⟨vs,H1,I1,r1,q1⟩=>hc pins s1 σ H1 vs us Q I1 r1 q1) he hpl
end
end L2
namespace HT
open PySem PyProof.Rows
def lexLt:List Int->List Int->Bool
 | [],[]=>false
 | [],_ :: _=>true
 | _ :: _,[]=>false
 | x :: xs,y :: ys=>if x=y then lexLt xs ys else decide (x < y)
theorem lexLt_cons (x y:Int) (xs ys:List Int):lexLt (x :: xs) (y :: ys)=if x=y then lexLt xs ys else decide (x < y):=rfl
theorem lexLt_nil_nil:lexLt [] []=false:=rfl
theorem Q19 (y:Int) (ys:List Int):lexLt [] (y :: ys)=true:=rfl
theorem Q1a (x:Int) (xs:List Int):lexLt (x :: xs) []=false:=rfl
theorem Qem (A:aQ) (s:aC) (a:Int) (t:Tok) (c:Int) (u:Tok):∃ e,SeqAt.EqAt A s (.int a t) (.int c u) e/\(e=true <-> a=c):=
 ⟨(a == c),SeqAt.EqAt.int_int a t c u,by simp⟩
theorem Qcc (A:aQ) (s:aC) (a:Int) (t:Tok) (c:Int) (u:Tok) (prog:aL) (w:aJ) (E:aA->aC->Prop) (Q:aA->aC->Prop) (h:Q (.bool (decide (a < c))) s) :
  aF (aI prog w) A (richCompare .Lt (.int a t) (.int c u)) Q E s:=
 (PyProof.Rows.lt_int h:aF (aI prog w) A (aS .Lt (.int a t) (.int c u)) Q E s)
section
open PySem.SeqAt
open PySem.AutoSeq1 (wpAny_loadPart')
open PySem.MeetsSeq PySem.MeetsSeq2 PySem.MeetsSeq3
theorem Q20 (l b:aB) (items items2:Array aA) (n n2:Nat) (dd dd2:Option aB) (sl sl2:Array (Option aA)) (ns ms:List Int) (hi:IntsAre items.toList ns) (hj:IntsAre items2.toList ms) :
  Meets (Builtin.«tuple.__lt__» ⟨[.ref l,.ref b],[]⟩)
   (fun _ R s=>s.heap.get? l=some { cls:=.type "tuple",dict:=dd,data:=.seq items n,slots:=sl }/\s.heap.get? b=some { cls:=.type "tuple",dict:=dd2,data:=.seq items2 n2,slots:=sl2 } /\
    R (.ok (.ret (.bool (lexLt ns ms)))) s):=
 .of_wp fun prog w A R s h=>by
  obtain ⟨hp,g,d,tk,os⟩:=s; obtain ⟨hl,hb,h⟩:=h;have f2:=AutoSeq1.sub_tuple_tuple;have z1:items.size=ns.length:=by rw [<- hi.length]; simp
  have z2:items2.size=ms.length:=by rw [<- hj.length]; simp
  wp_walk using wpAny_loadPart' hl,wpAny_loadPart' hb,wpAny_forIn_list _ (fun rest b s'=>b.1=none/\s'=⟨hp,g,d,tk,os⟩/\∃ (vs ws:List aA) (ns' ms':List Int),rest=vs.zip ws /\
   IntsAre vs ns'/\IntsAre ws ms'/\ns'.length + items2.size=ms'.length + items.size/\R (.ok (.ret (.bool (lexLt ns' ms')))) ⟨hp,g,d,tk,os⟩) _
  case turn=>
   rintro ⟨y,x⟩ rest b s' ⟨hb',rfl,vs,ws,ns',ms',hz,hvi,hwi,hlen,hR⟩;cases hvi with
   | nil=>rw [List.zip_nil_left] at hz; cases hz
   | cons a t hvi'=>
    cases hwi with
    | nil=>rw [List.zip_nil_right] at hz; cases hz
    | cons c u hwi'=>
     rw [List.zip_cons_cons] at hz;injection hz with hyx hrest
     injection hyx with hy hx
     subst hy hx;rw [lexLt_cons] at hR;simp only [E7] at hlen;obtain ⟨e,he,hiff⟩:=Qem A.in1 ⟨hp,g,d,tk,os⟩ a t c u;refine aD (he prog w _ _ ?_);cases e with
     | true=>
      rw [bN (hiff.mp rfl)] at hR
      wp_walk
      exact ⟨rfl,rfl,_,_,_,_,hrest,hvi',hwi',by omega,hR⟩
     | false=>
      rw [bO (fun q=>absurd (hiff.mpr q) F0)] at hR
      have hri:=Qcc A.in1 ⟨hp,g,d,tk,os⟩ a t c u prog w
      wp_walk using hri
      exact ⟨_,rfl,by simpa using hR⟩
  case fin=>
   rintro ⟨b1,b2⟩ s' ⟨hb',rfl,vs,ws,ns',ms',hz,hvi,hwi,hlen,hR⟩;simp only at hb';subst hb';have hv:lexLt ns' ms'=decide (items.size < items2.size):=by
    cases hvi with
    | nil=>
     cases hwi with
     | nil=>
      simp only [List.length_nil] at hlen;rw [lexLt_nil_nil];exact (bP (by omega)).symm
     | cons c u hw=>
      simp only [List.length_nil,E7] at hlen;rw [Q19];exact (bQ (by omega)).symm
    | cons a t hv=>
     cases hwi with
     | nil=>
      simp only [List.length_nil,E7] at hlen;rw [Q1a];exact (bP (by omega)).symm
     | cons c u hw=>
      rw [List.zip_cons_cons] at hz;cases hz
   rw [hv] at hR
   wp_walk
   exact ⟨_,rfl,by simpa [Builtin.Tuple.tupleCompareSizes] using hR⟩
  case h=>
   exact ⟨rfl,rfl,items.toList,items2.toList,ns,ms,rfl,hi,hj,by omega,h⟩
end
variable {prog:aL} {A:aQ} {E:aA->aC->Prop} {s:aC}
section
variable {w:aJ}
theorem lt_tupInts {l b:aB} {items items2:Array aA} {ns ms:List Int} {Q:aA->aC->Prop} (hl:IsTup s.heap l items) (hb:IsTup s.heap b items2) (hi:IntsAre items.toList ns) (hj:IntsAre items2.toList ms)
  (hu:A.units < aO) (h:Q (.bool (lexLt ns ms)) s):aF (aI prog w) A (aS .Lt (.ref l) (.ref b)) Q E s:=by
 obtain ⟨⟨cls,dd,data,sl⟩,ho,hc,n,hd⟩:=id hl;obtain ⟨⟨cls2,dd2,data2,sl2⟩,ho2,hc2,n2,hd2⟩:=id hb;simp only at hc hd hc2 hd2;subst hc hd hc2 hd2;exact richCompare_meets_room (op:=.Lt) ⟨_,ho,rfl⟩ ⟨_,ho2,rfl⟩ PySem.F.slot_tuple_lt PySem.F.entry_tuple_lt (PySem.F.args_tuple_lt_2 _ _) (Q20 l b items items2 n n2 dd dd2 sl sl2 ns ms hi hj)
  ⟨ho,ho2,show Value.bool (lexLt ns ms)≠Value.notImplemented/\Q (.bool (lexLt ns ms)) s from ⟨(fun x=>nomatch x),h⟩⟩ hu
theorem cat_tup {t b:aB} {vs ws:List aA} {Q:aA->aC->Prop} (ht:IsTup s.heap t vs.toArray) (hb:IsTup s.heap b ws.toArray) (hv:vs≠[])
  (h1:ws=[]->Q (.ref t) s) (h2:ws≠[]->Q (.ref s.heap.objs.size) { s with heap:=s.heap.push { cls:=.type "tuple",data:=.seq (vs ++ ws).toArray } })
  (hsz:vs.length + ws.length<=sizeLine):aF (aI prog w) A (aV .Add (.ref t) (.ref b)) Q E s:=by
 obtain ⟨⟨cls,dd,data,sl⟩,ho,hc,n,hd⟩:=id ht;obtain ⟨⟨cls2,dd2,data2,sl2⟩,ho2,hc2,n2,hd2⟩:=id hb;simp only at hc hd hc2 hd2;subst hc hd hc2 hd2;have e:vs.toArray ++ ws.toArray=(vs ++ ws).toArray:=by simp
 by_cases hw:ws=[]
 ·exact concat_meets ⟨_,ho,rfl⟩ ⟨_,ho2,rfl⟩ noFill_tuple_add seq_tuple_add PySem.F.slot_tuple_add PySem.F.entry_tuple_add (PySem.F.args_tuple_add_2 _ _)
   (tuple_addW1 t b vs.toArray ws.toArray n n2 dd dd2 sl sl2 (by simpa using hv) (by simp [hw])) ⟨ho,ho2,h1 hw⟩
 ·refine concat_meets ⟨_,ho,rfl⟩ ⟨_,ho2,rfl⟩ noFill_tuple_add seq_tuple_add PySem.F.slot_tuple_add PySem.F.entry_tuple_add (PySem.F.args_tuple_add_2 _ _)
   (tuple_addW2 t b vs.toArray ws.toArray n n2 dd dd2 sl sl2 (by simpa using hv) (by simpa using hw) (by rw [D3,D3]; exact hsz)) ⟨ho,ho2,?_⟩
  rw [e];exact h2 hw
def sIx (n d:Nat):Option Int->Nat
 | none=>d
 | some v=>if v < 0 then (v + (n:Int)).toNat else min v.toNat n
theorem sIx_none (n d:Nat):sIx n d none=d:=rfl
theorem sIx_nat (n d k:Nat):sIx n d (some (k:Int))=min k n:=by
 show (if (k:Int) < 0 then ((k:Int) + (n:Int)).toNat else min (k:Int).toNat n)=min k n;rw [bO (by omega),Int.toNat_natCast]
theorem Qkn (n d:Nat) (hd:d<=n) (o:Option Int):sIx n d o<=n:=by
 cases o with
 | none=>exact hd
 | some v=>
  show (if v < 0 then (v + (n:Int)).toNat else min v.toNat n)<=n
  by_cases hv:v < 0
  ·rw [bN hv]; omega
  ·rw [bO hv]; exact Nat.min_le_right _ _
theorem Q9c (v:Int) (n d:Nat):(if v < 0 then max (v + (n:Int)) 0 else min v (n:Int))=((sIx n d (some v):Nat):Int):=by
 show (if v < 0 then max (v + (n:Int)) 0 else min v (n:Int))=(((if v < 0 then (v + (n:Int)).toNat else min v.toNat n):Nat):Int)
 by_cases hv:v < 0
 ·simp only [bN hv]; omega
 ·simp only [bO hv]; omega
theorem Q80 (lo hi:Option Int) (n:Nat):Builtin.Slice.sliceAdjust lo hi 1 (n:Int)=(((sIx n 0 lo:Nat):Int),((sIx n n hi:Nat):Int)):=by
 have h1:¬ ((1:Int) < 0):=by omega
 unfold Builtin.Slice.sliceAdjust;simp only [h1,if_false];refine Prod.ext ?_ ?_
 ·cases lo with
  | none=>rfl
  | some v=>exact Q9c v n 0
 ·cases hi with
  | none=>rfl
  | some v=>exact Q9c v n n
theorem Q71 (i j:Nat):Builtin.Slice.slicePlaces (i:Int) (j:Int) 1=j - i:=by
 unfold Builtin.Slice.slicePlaces;have h1:(1:Int) > 0:=by omega
 simp only [h1,if_true,Int.ediv_one]
 split <;> omega
theorem Q0p {v:aA} {o:Option Int} {Q:Option Int->aC->Prop} (p:IsPart v o) (h:Q o s):aF (aI prog w) A (Builtin.Slice.slicePartIndex v) Q E s:=by
 cases p with
 | none=>exact slicePart_none h
 | int i t=>exact slicePart_int h
theorem Uy {sl:aB} {vl vu:aA} {lo hi:Option Int} {n:Nat} {Q:Int × Int × Nat->aC->Prop} (hs:s.heap.IsSliceOf sl vl vu .none) (pl:IsPart vl lo) (pu:IsPart vu hi)
  (h:Q (((sIx n 0 lo:Nat):Int),1,sIx n n hi - sIx n 0 lo) s):aF (aI prog w) A (Builtin.Slice.sliceApplied (.ref sl) (pure (n:Int))) Q E s:=by
 obtain ⟨os,hos,hcs,hds⟩:=id hs;unfold Builtin.Slice.sliceApplied Builtin.Slice.sliceFields;refine aD (aD (aY hos hds (x:=vl) rfl (aD (aY hos hds (x:=vu) rfl (aD (aY hos hds (x:=.none) rfl (wpAny_pure ?_)))))));refine aD (slicePart_none ?_);show aF _ _ (if ((1:Int) == 0)=true then _ else _) _ _ s;rw [bO (by decide)];refine aD (Q0p pl (aD (Q0p pu (aD (wpAny_pure ?_)))));show aF _ _ (match Builtin.Slice.sliceAdjust lo hi 1 (n:Int) with | (lo,hi)=>pure (lo,(1:Int),Builtin.Slice.slicePlaces lo hi 1)) _ _ s
 rw [Q80 lo hi n];show aF _ _ (pure (((sIx n 0 lo:Nat):Int),(1:Int),Builtin.Slice.slicePlaces ((sIx n 0 lo:Nat):Int) ((sIx n n hi:Nat):Int) 1)) _ _ s;rw [Q71];exact wpAny_pure h
theorem Qct (xs:Array aA) (i k:Nat):((List.range k).filterMap fun (m:Nat)=>xs[((i:Int) + (m:Int) * 1).toNat]?).toArray=((xs.toList.drop i).take k).toArray:=by
 have e:(fun (m:Nat)=>xs[((i:Int) + (m:Int) * 1).toNat]?)=fun m=>xs[i + m]?:=by
  funext m;have:((i:Int) + (m:Int) * 1).toNat=i + m:=by omega
  rw [this]
 rw [e];have:=pick_run xs i k;rw [List.filterMap_map] at this;have e2:((fun x=>xs[x]?) ∘ fun x=>i + x)=fun m=>xs[i + m]?:=rfl
 rw [e2] at this;rw [this]
theorem getItem_tuple_cut {t sl:aB} {items:Array aA} {vl vu:aA} {lo hi:Option Int} {Q:aA->aC->Prop} (ht:IsTup s.heap t items) (hs:s.heap.IsSliceOf sl vl vu .none) (pl:IsPart vl lo) (pu:IsPart vu hi)
  (hw:¬ (sIx items.size 0 lo=0/\sIx items.size items.size hi=items.size))
  (h:Q (.ref s.heap.objs.size) { s with heap:=s.heap.push { cls:=.type "tuple",data:=.seq ((items.toList.drop (sIx items.size 0 lo)).take (sIx items.size items.size hi - sIx items.size 0 lo)).toArray } })
  (hsz:items.size<=sizeLine):aF (aI prog w) A (getItem (.ref t) (.ref sl)) Q E s:=by
 have htake:sizeOk (.seq ((items.toList.drop (sIx items.size 0 lo)).take (sIx items.size items.size hi - sIx items.size 0 lo)).toArray):=by
  show ((items.toList.drop (sIx items.size 0 lo)).take (sIx items.size items.size hi - sIx items.size 0 lo)).toArray.size<=sizeLine;rw [D3,List.length_take,List.length_drop,Array.length_toList];omega
 have hj:sIx items.size items.size hi<=items.size:=Qkn _ _ (O8 _) hi;obtain ⟨os,hos,hcs,hds⟩:=id hs;have hTs:s.TypeIs (.ref sl) "slice" := ⟨os,hos,hcs⟩;unfold getItem
 try with_reducible refine aZ ?_
 first | refine aD (wpAny_pure ?_) | skip
 refine aD (wpAny_sequenceKey ht.typeIs (by decide) ?_);refine aD (wpAny_callSpecial?_slot (name:=Str.ofString "__getitem__") ht.typeIs PyProof.Rows.slot_tuple_getitem
  (ag PyProof.Rows.slot_tuple_getitem ht.typeIs entry_tuple_getitem ?_ (args_tuple_getitem _ _)))
 show aF _ _ (Builtin.Tuple.tupleItemsOf (.ref t) >>= _) _ _ s;refine aD (tupleItemsOf_ ht ?_);refine aD (bM hTs ?_);rw [bN (by decide)];refine aD (Uy hs pl pu ?_);have hno:¬ ((((sIx items.size 0 lo:Nat):Int) == 0 && (1:Int) == 1 && (sIx items.size items.size hi - sIx items.size 0 lo) == items.size)=true):=by
  intro q;rw [L8,L8] at q;have q1:((sIx items.size 0 lo:Nat):Int)=0:=eq_of_beq q.1.1;have q2:sIx items.size items.size hi - sIx items.size 0 lo=items.size:=eq_of_beq q.2;exact hw ⟨by omega,by omega⟩
 show aF _ _ (if (((sIx items.size 0 lo:Nat):Int) == 0 && (1:Int) == 1 && (sIx items.size items.size hi - sIx items.size 0 lo) == items.size)=true then _ else _) _ _ s;rw [bO hno,Qct]
 first
  | exact aD (m:=Builtin.Tuple.tupleExact _) (bA (wpAny_pure ⟨_,rfl,wpAny_pure h⟩) htake)
  | exact aD (m:=Builtin.Tuple.tupleExact _) (bA (aD (wpAny_pure (wpAny_pure ⟨_,rfl,wpAny_pure h⟩))) htake)
  | exact aD (aD (m:=Builtin.Tuple.tupleExact _) (bA (wpAny_pure (wpAny_pure ⟨_,rfl,wpAny_pure h⟩)) htake))
  | exact aD (aD (m:=Builtin.Tuple.tupleExact _) (bA (wpAny_pure ⟨_,rfl,wpAny_pure h⟩) htake))
end
end HT
namespace L2
open PySem PySem.Spec PyProof.Rows
variable {xs:List V} {us:List aA} {n t':Nat} {α:Type} {σ:St} {H:Hp} {s:aC} {p:aB}
abbrev TO:=St->Hp->(Option Int->Hp->Prop)->Prop
def PO (X:Cx) (e:Option aH) (t:TO):Prop:=
 ∀ (pins:List (aB × Obj)) (s:aC) (σ:St) (H:Hp) (Q:Option Int->Hp->Prop),Inv X pins σ H s->t σ H Q ->
  aF (aI X.prog X.w) X.A (evalPart e X.env) (fun u s'=>∃ o H',Inv X pins σ H' s'/\IsPart u o/\Q o H') X.xe s
def Qfv:TO:=fun _ H Q=>Q none H
def Qqc (t:TE):TO:=fun σ H Q=>t σ H fun x H1=>∃ i,x=.int i/\Q (some i) H1
theorem je {ns:List Int}:∀ {us:List aA},Vals (ns.map V.int) us->IntsAre us ns:=by
 induction ns with
 | nil=>intro us r; rw [List.map_nil] at r; cases r; exact .nil
 | cons n ns ih=>
  intro us r;rw [D9] at r;cases r with
  | cons r1 r2=>
   obtain ⟨t,e⟩:=r1;subst e;exact .cons n t (ih r2)
variable {X:Cx} {e:aH} {te:TE} {lo hi:Option aH} {tl th:TO} {p2:Pos}
section
variable {pos:Pos}
theorem Qgw:PO X none Qfv:=by
 intro pins s σ H Q I h;rw [evalPart_none];exact wpAny_pure ⟨none,H,I,.none,h⟩
theorem Qgv (h:PE X e te):PO X (some e) (Qqc te):=by
 intro pins s σ H Q I hw;rw [evalPart_some];refine thn (h pins s σ H _ I hw) fun u s1 ⟨x,H1,I1,r1,q1⟩=>?_
 obtain ⟨i,rfl,q⟩:=q1;obtain ⟨t,rfl⟩:=r1;exact ⟨some i,H1,I1,.int i t,q⟩
def SlR (X:Cx) (r:V->Option Int->Option Int->Hp->VK->Prop):Prop:=
 ∀ (pins:List (aB × Obj)) (s:aC) (σ:St) (H:Hp) (x:V) (v vl vu:aA) (lo hi:Option Int) (sl:aB) (Q:VK),Inv X pins σ H s->RelV x v->s.heap.IsSliceOf sl vl vu .none->IsPart vl lo->IsPart vu hi->r x lo hi H Q ->
  ∃ T id,typeLookup (.type T) "__getitem__" = pure (some (.builtin id))/\s.TypeIs v T/\aF (aI X.prog X.w) X.A (getItem v (.ref sl)) (EP X pins σ Q) X.xe s
theorem SlR.or {r r':V->Option Int->Option Int->Hp->VK->Prop} (h:SlR X r) (h':SlR X r'):SlR X (fun x lo hi H Q=>r x lo hi H Q\/r' x lo hi H Q):=by
 intro pins s σ H x v vl vu lo hi sl Q I rx hs pl pu q;rcases q with q | q
 ·exact h pins s σ H x v vl vu lo hi sl Q I rx hs pl pu q
 ·exact h' pins s σ H x v vl vu lo hi sl Q I rx hs pl pu q
def tSl (r:V->Option Int->Option Int->Hp->VK->Prop) (te:TE) (tl th:TO):TE:=fun σ H Q=>te σ H fun x H1=>tl σ H1 fun l H2=>th σ H2 fun u H3=>r x l u H3 Q
theorem Qcz {r:V->Option Int->Option Int->Hp->VK->Prop} (hr:SlR X r) (he:PE X e te) (hl:PO X lo tl) (hu:PO X hi th):PE X (.Subscript e (.Slice lo hi none p2) pos) (tSl r te tl th):=by
 intro pins s σ H Q I h;refine Subscript_ (thn (he pins s σ H _ I h) fun v s1 ⟨x,H1,I1,r1,q1⟩=>?_)
 refine wpAny_Slice (thn (hl pins s1 σ H1 _ I1 q1) fun vl s2 ⟨l,H2,I2,pl,q2⟩=>thn (hu pins s2 σ H2 _ I2 q2) fun vu s3 ⟨u,H3,I3,pu,q3⟩=>?_)
 rw [evalPart_none];refine wpAny_pure ?_;have I4:Inv X pins σ H3 { s3 with heap:=s3.heap.push { cls:=.type "slice",data:=.fields #[vl,vu,.none] } }:=I3.kept (t':=s3.toks) fun b ob q=>O6 _ q
 obtain ⟨T,id,hT,ht,hg⟩:=hr pins { s3 with heap:=s3.heap.push { cls:=.type "slice",data:=.fields #[vl,vu,.none] } } σ H3 x v vl vu l u s3.heap.objs.size Q I4 r1 (Heap.IsSliceOf.new ..) pl pu q3;show aF (aI X.prog X.w) X.A (subscriptTail e (.Slice lo hi none p2) v (.ref s3.heap.objs.size)) (EP X pins σ Q) X.xe { s3 with heap:=s3.heap.push { cls:=.type "slice",data:=.fields #[vl,vu,.none] } };exact tail_any (ops:=[.ref s3.heap.objs.size,v]) ht hT hg (by with_unfolding_all rfl)
def Q6d (xs:List V) (lo hi:Option Int):List V:=(xs.drop (HT.sIx xs.length 0 lo)).take (HT.sIx xs.length xs.length hi - HT.sIx xs.length 0 lo)
theorem yx (xs:List V) (lo hi:Option Int):(Q6d xs lo hi).length<=xs.length:=by
 unfold Q6d;rw [List.length_take,List.length_drop];omega
def Qup (K:PySem.W.Frag):V->Option Int->Option Int->Hp->VK->Prop:=fun x lo hi H Q=>∃ a xs,x=.ref a/\SqT K H a xs /\
 ¬ (HT.sIx xs.length 0 lo=0/\HT.sIx xs.length xs.length hi=xs.length)/\∀ p,H p=none->Q (.ref p) (upd H p (.tup (Q6d xs lo hi)))
theorem sl_tup:SlR X (Qup X.K):=by
 intro pins s σ H x v vl vu lo hi sl Q I rx hs pl pu h;obtain ⟨a,xs,rfl,hx,hw,q⟩:=h;cases rx;obtain ⟨its,r,ht,hz⟩:=I.tuple hx;have hlen:its.toArray.size=xs.length:=by rw [D3]; exact r.length.symm
 refine ⟨"tuple",_,PyProof.Rows.slot_tuple_getitem.lookup,ht.typeIs,?_⟩;refine HT.getItem_tuple_cut ht hs pl pu (by rw [hlen]; exact hw) ?_ (by rw [hlen]; exact hz);rw [hlen];refine ⟨.ref s.heap.objs.size,_,I.laid (t':=s.toks) (o:=.tup (Q6d xs lo hi)) (fun b ob q=>O6 _ q) (O8 _) ?_,rfl,q _ (I.hok.fresh (O8 _))⟩;exact ⟨F6 (yx xs lo hi) hz,_,(r.drop (HT.sIx xs.length 0 lo)).take (HT.sIx xs.length xs.length hi - HT.sIx xs.length 0 lo),IsTup.new _ _⟩
def Qus (K:PySem.W.Frag):R2:=fun x y H Q=>∃ a b ns ms,x=.ref a/\y=.ref b/\SqT K H a (ns.map V.int)/\SqT K H b (ms.map V.int)/\Q (.bl (HT.lexLt ns ms)) H
theorem Qmx (hu:X.A.units < aO):OpR X (aS .Lt) (Qus X.K):=by
 intro pins s σ H x y v u Q I rx ry h;obtain ⟨a,b,ns,ms,rfl,rfl,ha,hb,q⟩:=h;cases rx;cases ry;obtain ⟨its,r1,p1,_⟩:=I.tuple ha;obtain ⟨its2,r2,p2,_⟩:=I.tuple hb;have i1:IntsAre its.toArray.toList ns:=je r1;have i2:IntsAre its2.toArray.toList ms:=je r2;exact HT.lt_tupInts p1 p2 i1 i2 hu ⟨.bl (HT.lexLt ns ms),H,I,rfl,q⟩
def Qiz (K:PySem.W.Frag):R2:=fun x y H Q=>∃ a b xs ys,x=.ref a/\y=.ref b/\SqT K H a xs/\SqT K H b ys/\xs≠[]/\xs.length + ys.length<=sizeLine /\
 (ys=[]->Q (.ref a) H)/\(ys≠[]->∀ p,H p=none->Q (.ref p) (upd H p (.tup (xs ++ ys))))
theorem Vals.nil_iff (r:Vals xs us):us=[] <-> xs=[]:=by
 cases r with
 | nil=>simp
 | cons _ _=>simp
theorem op_catT:OpR X (aV .Add) (Qiz X.K):=by
 intro pins s σ H x y v u Q I rx ry h;obtain ⟨a,b,xs,ys,rfl,rfl,ha,hb,hx,hz,q1,q2⟩:=h;cases rx;cases ry;obtain ⟨its,r1,p1,_⟩:=I.tuple ha;obtain ⟨its2,r2,p2,_⟩:=I.tuple hb;refine HT.cat_tup p1 p2 (fun z=>hx (r1.nil_iff.mp z)) (fun z=>⟨.ref a,H,I,rfl,q1 (r2.nil_iff.mp z)⟩) (fun z=>?_) (by rw [<- r1.length,<- r2.length]; exact hz)
 refine ⟨.ref s.heap.objs.size,_,I.laid (t':=s.toks) (o:=.tup (xs ++ ys)) (fun b ob q=>O6 _ q) (O8 _) ?_,rfl,q2 (fun w=>z (r2.nil_iff.mpr w)) _ (I.hok.fresh (O8 _))⟩;exact ⟨by rw [O4]; exact hz,_,r1.append r2,IsTup.new _ _⟩
end
def ixN (n:Nat) (i:Int):Option Nat:=if 0<=i then (if i < n then some i.toNat else none) else if -(n:Int)<=i then some (i + n).toNat else none
def atI {α:Type} (xs:List α) (i:Int):Option α:=(ixN xs.length i).bind fun j=>xs[j]?
theorem Q8z {i:Int} {j:Nat} (h:ixN n i=some j):seqIndex? i n=some j/\j < n/\-(n:Int)<=i/\i < n:=by
 unfold ixN at h
 by_cases h0:0<=i
 ·rw [bN h0] at h
  by_cases h1:i < n
  ·rw [bN h1] at h;have e:i.toNat=j:=Option.some.inj h;exact ⟨by rw [seqIndex_of h0 h1,e],by omega,by omega,h1⟩
  ·rw [bO h1] at h; cases h
 ·rw [bO h0] at h
  by_cases h1:-(n:Int)<=i
  ·rw [bN h1] at h;have e:(i + n).toNat=j:=Option.some.inj h;exact ⟨by rw [seqIndex_neg (by omega) h1,e],by omega,h1,by omega⟩
  ·rw [bO h1] at h; cases h
theorem atI_get {xs:List α} {i:Int} {v:α} (h:atI xs i=some v):∃ j,seqIndex? i xs.length=some j/\xs[j]?=some v/\j < xs.length/\-(xs.length:Int)<=i/\i < xs.length:=by
 unfold atI at h;cases e:ixN xs.length i with
 | none=>rw [e] at h; cases h
 | some j=>
  rw [e] at h;obtain ⟨h1,h2,h3,h4⟩:=Q8z e;exact ⟨j,h1,h,h2,h3,h4⟩
def Q9g (b:aH):Prop:=∀ o i,subscripted b false o i=operate [o,i] (getItem o i)
def IxR (X:Cx) (r:R2):Prop:=
 ∀ (value slice:aH) (pins:List (aB × Obj)) (s:aC) (σ:St) (H:Hp) (x y:V) (v u:aA) (Q:VK),Inv X pins σ H s->RelV x v->RelV y u->r x y H Q ->
  subscripted slice false v u=operate [v,u] (getItem v u)->aF (aI X.prog X.w) X.A (subscriptTail value slice v u) (EP X pins σ Q) X.xe s
def MtR (X:Cx) (id:String) (r:V->List V->Hp->VK->Prop):Prop:=
 ∀ (pins:List (aB × Obj)) (s:aC) (σ:St) (H:Hp) (x:V) (xs:List V) (v:aA) (us:List aA) (Q:VK),Inv X pins σ H s->RelV x v->Vals xs us->r x xs H Q ->
  aF (aI X.prog X.w) X.A (call (.builtin id) (v :: us)) (EP X pins σ Q) X.xe s
section
variable {X:Cx} {a b:aH} {ta tb:TE} {pos:Pos}
theorem IxR.or {r r':R2} (h:IxR X r) (h':IxR X r'):IxR X (fun x y H Q=>r x y H Q\/r' x y H Q):=by
 intro value slice pins s σ H x y v u Q I rx ry q hs;rcases q with q | q
 ·exact h value slice pins s σ H x y v u Q I rx ry q hs
 ·exact h' value slice pins s σ H x y v u Q I rx ry q hs
theorem Qrb {r:R2} (hr:IxR X r) (ha:PE X a ta) (hb:PE X b tb) (hs:Q9g b):PE X (.Subscript a b pos) (tOp r ta tb):=by
 intro pins s σ H Q I h;exact Subscript_ (Qpf ha hb I h fun v u s2 x y H2 I2 rx ry q=>hr a b pins s2 σ H2 x y v u Q I2 rx ry q (hs _ _))
def Qks (K:PySem.W.Frag):R2:=fun x y H Q=>∃ p xs i v,x=.ref p/\y=.int i/\SqL K H p xs/\atI xs i=some v/\Q v H
def Qr0 (K:PySem.W.Frag):R2:=fun x y H Q=>∃ p xs i v,x=.ref p/\y=.int i/\SqT K H p xs/\atI xs i=some v/\Q v H
def Qr1:R2:=fun x y H Q=>∃ z i c,x=.str z/\y=.int i/\z.length<=sizeLine/\atI z.cps.toList i=some c/\Q (.str ⟨#[c]⟩) H
theorem ix_list:IxR X (Qks X.K):=by
 intro value slice pins s σ H x y v u Q I rx ry h hs;obtain ⟨p,xs,i,z,rfl,rfl,hq,he,q⟩:=h;cases rx;obtain ⟨t,rfl⟩:=ry;obtain ⟨its,r,pl,hz⟩:=I.list hq;obtain ⟨j,h1,h2,h3,h4,h5⟩:=atI_get he;obtain ⟨w,ew,rw'⟩:=r.get h2;have hl:=r.length;have hn:=jb;have fin:EP X pins σ Q w s:=⟨z,H,I,rw',q⟩
 by_cases h0:0<=i
 ·have hj:i.toNat=j:=by
   rw [seqIndex_of h0 h5] at h1;exact Option.some.inj h1
  exact item_listR pl.isList h0 (by omega) (by rw [hj]; simpa using ew) fin hs
 ·have hj:(i + (its.toArray.size:Int)).toNat=j:=by
   rw [seqIndex_neg (by omega) h4] at h1;rw [D3,<- hl];exact Option.some.inj h1
  exact subscriptTail_builtinR (x:=w) pl.isList.typeIs slot_list_getitem.lookup
   (wpAny_getItem_list_neg (Q:=fun r s'=>r=w/\EP X pins σ Q r s') pl.isList (by omega) (by rw [D3] <;> omega) (by omega) (by rw [hj]; simpa using ew) ⟨rfl,fin⟩) hs
theorem ix_tup:IxR X (Qr0 X.K):=by
 intro value slice pins s σ H x y v u Q I rx ry h hs;obtain ⟨p,xs,i,z,rfl,rfl,hq,he,q⟩:=h;cases rx;obtain ⟨t,rfl⟩:=ry;obtain ⟨its,r,pl,hz⟩:=I.tuple hq;obtain ⟨j,h1,h2,h3,h4,h5⟩:=atI_get he;obtain ⟨w,ew,rw'⟩:=r.get h2;have hl:=r.length;have hn:=jb;have fin:EP X pins σ Q w s:=⟨z,H,I,rw',q⟩;exact subscriptTail_builtinR (x:=w) pl.typeIs slot_tuple_getitem.lookup
  (getItem_tuple (j:=j) (Q:=fun r s'=>r=w/\EP X pins σ Q r s') pl (by omega) (by omega) (by rw [D3,<- hl]; exact h1) (by simpa using ew) ⟨rfl,fin⟩) hs
theorem Qnn:IxR X Qr1:=by
 intro value slice pins s σ H x y v u Q I rx ry h hs;obtain ⟨z,i,c,rfl,rfl,hz,he,q⟩:=h;obtain ⟨t,rfl⟩:=rx;obtain ⟨t',rfl⟩:=ry;obtain ⟨j,h1,h2,h3,h4,h5⟩:=atI_get he;have hl:z.cps.toList.length=z.length:=by simp [Str.length]
 rw [hl] at h1 h4 h5;have hn:=jb;exact tail_any (typeIs_str s z t) slot_str_getitem.lookup (getItem_str (c:=c) (by
  have e1:decide (i < -(2 ^ 63:Int))=false:=bP (by omega);have e2:decide (i>=2 ^ 63)=false:=bP (by omega);rw [e1,e2,Bool.or_false]) (by rw [h1]; simpa using h2) ⟨.str ⟨#[c]⟩,H,I.tok _,⟨_,rfl⟩,q⟩) hs
def rIx (K:PySem.W.Frag):R2:=fun x y H Q=>Qks K x y H Q\/Qr0 K x y H Q\/Qr1 x y H Q
theorem Qnp:IxR X (rIx X.K):=ix_list.or (ix_tup.or Qnn)
theorem Q7a (its:List aA) (n j:Nat) (u:aA):Obj.mapSeq (·.setIfInBounds j u) { cls:=.type "list",data:=.seq its.toArray n }={ cls:=.type "list",data:=.seq (its.set j u).toArray n }:=by
 simp [Obj.mapSeq]
theorem Inv.lst {pins:List (aB × Obj)} (I:Inv X pins σ H s) (h:H p=some (.lst xs)) :
  ∃ (its:List aA) (n:Nat),Vals xs its/\s.heap.get? p=some { cls:=.type "list",data:=.seq its.toArray n }/\xs.length<=sizeLine:=by
 obtain ⟨z,its,n,r,e⟩:=I.hok p _ h;exact ⟨its,n,r,e,z⟩
theorem Inv.lstUpd {pins:List (aB × Obj)} {ys:List V} {its its':List aA} {n n':Nat} {f:Obj->Obj} (I:Inv X pins σ H s) (h:H p=some (.lst xs))
  (ho:s.heap.get? p=some { cls:=.type "list",data:=.seq its.toArray n }) (hf:f { cls:=.type "list",data:=.seq its.toArray n }={ cls:=.type "list",data:=.seq its'.toArray n' }) (r:Vals ys its') (hz:ys.length<=sizeLine) (t:Nat) :
  Inv X pins σ (upd H p (.lst ys)) { s with heap:=s.heap.update p f,toks:=t }:=by
 have e:(s.heap.update p f).get? p=some { cls:=.type "list",data:=.seq its'.toArray n' }:=by
  rw [N0 f ho (by rw [hf] <;> rfl),hf]
 refine I.write (x:=p) (e:=p) (by rw [h]; trivial) (.inl rfl) (fun b u hb q=>(M0 _ _ (Ne.symm hb)).trans q) ⟨_,e⟩ ?_
 exact ⟨hz,its',n',r,e⟩
def Qqy:V->V->V->Hp->(Hp->Prop)->Prop:=fun o i v H Q=>∃ p xs k j,o=.ref p/\i=.int k/\H p=some (.lst xs)/\ixN xs.length k=some j/\Q (upd H p (.lst (xs.set j v)))
theorem Q51:Qpj X Qqy:=by
 intro pins s σ H o i v ov iv u Q I ro ri rv h;obtain ⟨p,xs,k,j,rfl,rfl,hp,hj,q⟩:=h;cases ro;obtain ⟨t,rfl⟩:=ri;obtain ⟨its,n,r,ho,hz⟩:=I.lst hp;obtain ⟨h1,h2,h3,h4⟩:=Q8z hj;have hl:=r.length;have hn:=jb;have I':Inv X pins σ (upd H p (.lst (xs.set j v))) { s with heap:=s.heap.update p (Obj.mapSeq (·.setIfInBounds j u)) }:=
  I.lstUpd hp ho (Q7a its n j u) (r.set rv j) (by rw [D5]; exact hz) s.toks
 by_cases h0:0<=k
 ·have hk:k.toNat=j:=by
   rw [seqIndex_of h0 h4] at h1;exact Option.some.inj h1
  exact PySem.W.ki_setAt ho h0 (by omega) (by rw [D3,<- hl]; exact h4) (by rw [hk]; exact ⟨_,I',q⟩)
 ·have hk:(k + (its.toArray.size:Int)).toNat=j:=by
   rw [seqIndex_neg (by omega) h3] at h1;rw [D3,<- hl];exact Option.some.inj h1
  exact PySem.W.ki_setBack ho (by omega) (by rw [D3,<- hl]; exact h3) (by omega) (by rw [hk]; exact ⟨_,I',q⟩)
theorem Q3n (lo hi:Option Int) (n:Nat):(bD lo hi none n).1=((HT.sIx n 0 lo:Nat):Int)/\(bD lo hi none n).2.1=((HT.sIx n n hi:Nat):Int)/\(bD lo hi none n).2.2=1:=by
 refine ⟨?_,?_,rfl⟩
 ·cases lo with
  | none=>simp [bD,HT.sIx]
  | some i=>
   simp only [bD,HT.sIx,Option.getD_none,show (1:Int) > 0 by decide,if_true]
   by_cases h:i < 0
   ·simp only [h,if_true] <;> omega
   ·simp only [h,if_false] <;> omega
 ·cases hi with
  | none=>simp [bD,HT.sIx]
  | some i=>
   simp only [bD,HT.sIx,Option.getD_none,show (1:Int) > 0 by decide,if_true]
   by_cases h:i < 0
   ·simp only [h,if_true] <;> omega
   ·simp only [h,if_false] <;> omega
theorem Q22 (its:List aA) (lo hi:Option Int):slicePick its.toArray lo hi none=((its.drop (HT.sIx its.length 0 lo)).take (HT.sIx its.length its.length hi - HT.sIx its.length 0 lo)).toArray:=by
 obtain ⟨h1,h2,h3⟩:=Q3n lo hi its.toArray.size;unfold slicePick;rw [h1,h2,h3];simp only [sliceRange_one,pick_run,D3] <;> rfl
def Quq (K:PySem.W.Frag):V->Option Int->Option Int->Hp->VK->Prop:=fun x lo hi H Q=>∃ a xs,x=.ref a/\SqL K H a xs/\∀ p,H p=none->Q (.ref p) (upd H p (.lst (Q6d xs lo hi)))
theorem Qg5:SlR X (Quq X.K):=by
 intro pins s σ H x v vl vu lo hi sl Q I rx hs pl pu h;obtain ⟨a,xs,rfl,hx,q⟩:=h;cases rx;obtain ⟨its,r,ht,hz⟩:=I.list hx;have hlen:=r.length;refine ⟨"list",_,slot_list_getitem.lookup,ht.isList.typeIs,?_⟩;refine wpAny_getItem_list_slice ht.isList hs pl pu .none (by simp) ?_ (by rw [D3] <;> omega);rw [Q22,<- hlen];refine ⟨.ref s.heap.objs.size,_,I.laid (t':=s.toks) (o:=.lst (Q6d xs lo hi)) (fun b ob q=>O6 _ q) (O8 _) ?_,rfl,q _ (I.hok.fresh (O8 _))⟩;exact ⟨F6 (yx xs lo hi) hz,_,0,(r.drop (HT.sIx xs.length 0 lo)).take (HT.sIx xs.length xs.length hi - HT.sIx xs.length 0 lo),E9 _ rfl⟩
theorem Q4e:Vh X (.builtin "len") (fun xs H Q=>∃ p ys,xs=[.ref p]/\(SqL X.K H p ys\/SqT X.K H p ys)/\Q (.int ys.length) H):=by
 intro pins s σ H xs us Q I r h;obtain ⟨p,ys,rfl,hq,q⟩:=h;obtain ⟨u,rfl,rx⟩:=qp r;cases rx;have hn:=jb;rcases hq with hq | hq
 ·obtain ⟨its,r',pl,hz⟩:=I.list hq;have hlen:=r'.length;exact Calls.call_len_list pl.isList (by simp only [D3] <;> omega) ⟨.int ys.length,H,I.tok _,⟨s.toks + 1,by rw [D3,hlen]⟩,q⟩
 ·obtain ⟨its,r',pl,hz⟩:=I.tuple hq;have hlen:=r'.length;exact len_tuple pl (by simp only [D3] <;> omega) ⟨.int ys.length,H,I.tok _,⟨s.toks + 1,by rw [D3,hlen]⟩,q⟩
theorem Q4d:Vh X (.builtin "len") (fun xs H Q=>∃ z,xs=[.str z]/\z.length<=sizeLine/\Q (.int z.length) H):=by
 intro pins s σ H xs us Q I r h;obtain ⟨z,rfl,hz,q⟩:=h;obtain ⟨u,rfl,t,rfl⟩:=qp r;have hn:=jb;exact len_str (by omega) ⟨.int z.length,H,I.tok _,⟨_,rfl⟩,q⟩
theorem zn:Vh X (.type "list") (fun xs H Q=>∃ p ys,xs=[.ref p]/\(SqL X.K H p ys\/SqT X.K H p ys)/\∀ l,H l=none->Q (.ref l) (upd H l (.lst ys))):=by
 intro pins s σ H xs us Q I r h;obtain ⟨p,ys,rfl,hq,q⟩:=h;obtain ⟨u,rfl,rx⟩:=qp r;cases rx;have fin:∀ (its:List aA),Vals ys its->ys.length<=sizeLine->∀ (h':Heap) (c':Nat),(∀ b o',s.heap.get? b=some o'->h'.get? b=some o') ->
   h'.get? s.heap.objs.size=some { cls:=.type "list",dict:=none,data:=.seq its.toArray c',slots:=#[] }->EP X pins σ Q (.ref s.heap.objs.size) { s with heap:=h' }:=fun its r' hz h' c' kp e=>
  ⟨.ref s.heap.objs.size,_,I.laid (t':=s.toks) kp (O8 _) (show ObjOk X.prog X.w _ h' _ (.lst ys) from ⟨hz,its,c',r',e⟩),rfl,q _ (I.hok.fresh (O8 _))⟩
 rcases hq with hq | hq
 ·obtain ⟨its,r',pl,hz⟩:=I.list hq;have hlen:=r'.length;obtain ⟨o,ho,hc,n,hd⟩:=pl.isList;exact call_list_seq p (.inl rfl) ho hc hd (fun h' c' kp e=>fin its r' hz h' c' kp e) (by simp only [D3] <;> omega)
 ·obtain ⟨its,r',pl,hz⟩:=I.tuple hq;have hlen:=r'.length;obtain ⟨o,ho,hc,n,hd⟩:=pl;exact call_list_seq p (.inr rfl) ho hc hd (fun h' c' kp e=>fin its r' hz h' c' kp e) (by simp only [D3] <;> omega)
theorem qu:Vh X (.type "tuple") (fun xs H Q=>∃ p ys,xs=[.ref p]/\((SqL X.K H p ys/\∀ l,H l=none->Q (.ref l) (upd H l (.tup ys)))\/(SqT X.K H p ys/\Q (.ref p) H))):=by
 intro pins s σ H xs us Q I r h;obtain ⟨p,ys,rfl,h⟩:=h;obtain ⟨u,rfl,rx⟩:=qp r;cases rx;rcases h with ⟨hq,q⟩ | ⟨hq,q⟩
 ·obtain ⟨its,r',pl,hz⟩:=I.list hq;have hlen:=r'.length;refine call_tuple_list pl.isList (fun h' kp=>?_) (by simp only [D3] <;> omega);have I1:Inv X pins σ H { s with heap:=h' }:=I.kept (t':=s.toks) kp;have I2:Inv X pins σ (upd H h'.objs.size (.tup ys)) { s with heap:=h'.push { cls:=.type "tuple",data:=.seq its.toArray } }:=
   I1.laid (t':=s.toks) (fun b o e=>O6 _ e) (O8 _) (show ObjOk X.prog X.w _ _ _ (.tup ys) from ⟨hz,its,r',IsTup.new _ _⟩)
  exact ⟨.ref h'.objs.size,_,I2,rfl,q _ (I1.hok.fresh (O8 _))⟩
 ·obtain ⟨its,r',pl,hz⟩:=I.tuple hq;exact call_tuple_same pl ⟨.ref p,H,I,rfl,q⟩
def tyV (K:PySem.W.Frag) (T:String) (x:V) (H:Hp):Prop:=match x with
 | .str _=>T = "str"
 | .int _=>T = "int"
 | .ref p=>(T = "list" /\ ∃ xs,SqL K H p xs)\/(T = "tuple" /\ ∃ o,K.lookup p=some o/\o.cls=.type "tuple" /\ o.dict=none) \/
   (T = "dict" /\ ((∃ kvs,H p=some (.dK kvs))\/∃ kvs,H p=some (.dT kvs)))\/(T = "set" /\ ∃ S n,H p=some (.set S n))
 | _=>False
theorem Qjk {pins:List (aB × Obj)} {T:String} {x:V} {v:aA} (I:Inv X pins σ H s) (r:RelV x v) (ty:tyV X.K T x H) :
  s.TypeIs v T/\∀ a,v=.ref a->∃ ob,s.heap.get? a=some ob/\ob.dict=none:=by
 cases x with
 | str z=>
  obtain ⟨t,rfl⟩:=r;cases (show T = "str" from ty);exact ⟨typeIs_str s z t,fun _ e=>nomatch e⟩
 | int i=>
  obtain ⟨t,rfl⟩:=r;cases (show T = "int" from ty);exact ⟨typeIs_int s i t,fun _ e=>nomatch e⟩
 | ref p=>
  cases r;rcases ty with ⟨rfl,xs,hq⟩ | ⟨rfl,o,hk,hc,hd⟩ | ⟨rfl,hk⟩ | ⟨rfl,S,n,hk⟩
  ·obtain ⟨its,_,pl,_⟩:=I.list hq;refine ⟨pl.isList.typeIs,fun a e=>?_⟩;cases e;obtain ⟨o,n,e,c,hd,_⟩:=pl;exact ⟨o,e,hd⟩
  ·refine ⟨⟨o,I.kIn p o hk,hc⟩,fun a e=>?_⟩
   cases e;exact ⟨o,I.kIn _ o hk,hd⟩
  ·have z:∃ o,s.heap.get? p=some o/\o.ExactDict:=by
    rcases hk with ⟨kvs,hk⟩ | ⟨kvs,hk⟩
    ·obtain ⟨_,_,_,_,o,_,_,e,ex,_⟩:=I.hok p _ hk;exact ⟨o,e,ex⟩
    ·obtain ⟨_,_,_,_,o,_,_,e,ex,_⟩:=I.hok p _ hk;exact ⟨o,e,ex⟩
   obtain ⟨o,e,ex⟩:=z;refine ⟨⟨o,e,ex.1⟩,fun a e2=>?_⟩
   cases e2;exact ⟨o,e,ex.2.1⟩
  ·obtain ⟨o,_,_,_,e,ex,_⟩:=I.hok p _ hk;refine ⟨⟨o,e,ex.1⟩,fun a e2=>?_⟩
   cases e2;exact ⟨o,e,ex.2.1⟩
 | _=>exact False.elim ty
def tBM (K:PySem.W.Frag) (T:String) (r:V->List V->Hp->VK->Prop) (to:TE) (t:TA):TE:=fun σ H Q=>to σ H fun x H1=>tyV K T x H1/\t σ H1 fun xs H2=>r x xs H2 Q
variable {o e:aH} {es:List aH} {to:TE} {t:TA} {name:Str} {apos cpos:Pos} {T id:String} {r:V->List V->Hp->VK->Prop}
theorem Qrc (pa:PlainAttrs T) (slot:Slot T name id) (hty:typeOf (.builtin id)=pure (.type "method_descriptor")) (hm:MtR X id r) (ho:PE X o to) (ha:PA X (e :: es) t)
  (hbase:bH o name X.env (aM o X.env)=aM o X.env:=by rfl)
  (hfew:((aX cpos (aN (e :: es) X.env)).all (fun x=>!x.1) && (backToKw cpos (keywordEach [] X.env)).all (fun x=>x.1.isSome)
   && decide ((e :: es).length + ([]:List Keyword).length + (if ([]:List Keyword).isEmpty then 0 else 1) < 30))=true:=by rfl)
  (hline:(apos.endLine == cpos.line)=true:=by rfl) (hs:aN (e :: es) X.env=(false,aM e X.env) :: aN es X.env:=by rfl) (hplain:(aX cpos (aN es X.env)).any (·.1)=false:=by rfl) :
  PE X (.Call (.Attribute o name apos) (e :: es) [] cpos) (tBM X.K T r to t):=by
 intro pins s σ H Q I h;refine wpAny_Call_method_late hbase hfew hline rfl (thn (ho pins s σ H _ I h) fun v s1 ⟨x,H1,I1,r1,ty,q1⟩=>?_)
 obtain ⟨h1,h2⟩:=Qjk I1 r1 ty;refine ⟨T,id,pa,slot,hty,h1,h2,?_⟩;have hA:=ha cpos pins s1 σ H1 _ I1 q1;rw [hs] at hA ⊢;refine Calls.callWith_builtin (by show (false || (aX cpos (aN es X.env)).any (·.1))=false; rw [hplain] <;> rfl) (Calls.evalArgs_plain ?_);exact thn hA fun us s2 ⟨vs,H2,I2,r2,q2⟩=>hm pins s2 σ H2 x vs v us Q I2 r1 r2 q2
end
def MtM (X:Cx) (id:String) (r:V->List V->Hp->VK->Prop):Prop:=
 ∀ (pins:List (aB × Obj)) (s:aC) (σ:St) (H:Hp) (x:V) (xs:List V) (v:aA) (us:List aA) (Q:VK),Inv X pins σ H s->RelV x v->Vals xs us->r x xs H Q ->
  aF (aI X.prog X.w) X.A (call (.builtin id) (v :: us)) (EP X pins σ Q) X.xe s
theorem Vals.one:∀ {x:V} {us:List aA},Vals [x] us->∃ u,us=[u]/\RelV x u
 | _,_,.cons r .nil=>⟨_,rfl,r⟩
theorem Vals.rep (h:Vals xs us):∀ k:Nat,Vals (List.replicate k xs).flatten (List.replicate k us).flatten
 | 0=>.nil
 | k + 1=>by
  rw [List.replicate_succ,List.replicate_succ,List.flatten_cons,List.flatten_cons];exact Vals.append h (Vals.rep h k)
theorem yk (its:List aA):∀ (k:Nat) (acc:List aA),
  List.foldl (fun x1 x2=>x1 ++ x2) acc.toArray (List.replicate k its.toArray)=(acc ++ (List.replicate k its).flatten).toArray
 | 0,acc=>by simp
 | k + 1,acc=>by
  have e:acc.toArray ++ its.toArray=(acc ++ its).toArray:=by simp
  have e2:(acc ++ its) ++ (List.replicate k its).flatten=acc ++ (List.replicate (k + 1) its).flatten:=by
   rw [List.replicate_succ,List.flatten_cons,L9]
  rw [<- e2,<- yk its k (acc ++ its),<- e,List.replicate_succ,List.foldl_cons]
variable {pins:List (aB × Obj)} {σ:St} {H:Hp} {s:aC} {l b:aB} {xs ys zs:List V}
theorem Inv.lset {its its':List aA} {n:Nat} {f:Array aA->Array aA} {t':Nat} (I:Inv X pins σ H s) (hH:H l=some (.lst xs))
  (e:s.heap.get? l=some { cls:=.type "list",data:=.seq its.toArray n }) (hf:f its.toArray=its'.toArray) (hv:Vals ys its') (hz:ys.length<=sizeLine) :
  Inv X pins σ (upd H l (.lst ys)) { s with heap:=s.heap.update l (Obj.mapSeq f),toks:=t' }:=by
 have q:=PySem.IsL.update e f;rw [hf] at q;refine I.write (x:=l) (e:=l) (by rw [hH]; exact trivial) (.inl rfl) (fun b' u hb hu=>(M0 s.heap (Obj.mapSeq f) (Ne.symm hb)).trans hu) ⟨_,q⟩ ?_
 exact ⟨hz,its',_,hv,q⟩
theorem Inv.lnew {its:List aA} {t':Nat} (I:Inv X pins σ H s) (hv:Vals ys its) (hz:ys.length<=sizeLine) :
  Inv X pins σ (upd H s.heap.objs.size (.lst ys)) { s with heap:=s.heap.push { cls:=.type "list",data:=.seq its.toArray },toks:=t' }:=
 I.laid (fun _ _ q=>O6 _ q) (O8 _) ⟨hz,its,0,hv,E9 _ rfl⟩
theorem Inv.fresh (I:Inv X pins σ H s):H s.heap.objs.size=none:=I.hok.fresh (O8 _)
theorem Inv.lstM (I:Inv X pins σ H s) (hH:H l=some (.lst xs)):xs.length<=sizeLine/\∃ (its:List aA) (n:Nat),Vals xs its/\xs.length=its.length/\s.heap.get? l=some { cls:=.type "list",data:=.seq its.toArray n }:=by
 obtain ⟨z,its,n,r,e⟩:=I.hok l _ hH;exact ⟨z,its,n,r,r.length,e⟩
theorem Q5p (h:n<=sizeLine):Builtin.List.listTooLong n=false:=by
 unfold Builtin.List.listTooLong;exact bP (by omega)
def Qgi:V->List V->Hp->VK->Prop:=fun x vs H Q=>∃ l xs y,x=.ref l/\vs=[y]/\H l=some (.lst xs)/\xs.length < sizeLine/\Q .non (upd H l (.lst (xs ++ [y])))
theorem Qac:MtM X "list.append" Qgi:=by
 intro pins s σ H x vs v us Q I rx rv h;obtain ⟨l,xs,y,rfl,rfl,hH,hz,q⟩:=h;cases rx;obtain ⟨u,rfl,ru⟩:=rv.one;obtain ⟨z,its,n,r,hl,e⟩:=I.lstM hH;refine bB F.slot_list_append ⟨_,e,rfl⟩ F.entry_list_append (F.args_list_append_2 _ _) (PySem.list_append l its.toArray n u (by rw [D3]; omega)) ⟨e,?_⟩;refine ⟨.non,_,I.lset (its':=its ++ [u]) hH e (by simp) (r.append (.cons ru .nil)) ?_,rfl,q⟩;rw [O4,List.length_singleton];omega
def Qgh:V->List V->Hp->VK->Prop:=fun x vs H Q=>∃ l b xs zs,x=.ref l/\vs=[.ref b]/\H l=some (.lst xs)/\H b=some (.lst zs)/\xs.length + zs.length<=sizeLine/\Q .non (upd H l (.lst (xs ++ zs)))
theorem Qab:MtM X "list.extend" Qgh:=by
 intro pins s σ H x vs v us Q I rx rv h;obtain ⟨l,b,xs,zs,rfl,rfl,hH,hB,hz,q⟩:=h;cases rx;obtain ⟨u,rfl,ru⟩:=rv.one;cases ru;obtain ⟨z,its,n,r,hl,e⟩:=I.lstM hH;obtain ⟨z2,its2,n2,r2,hl2,e2⟩:=I.lstM hB;have hsz:its.toArray.size + its2.toArray.size<=sizeLine:=by rw [D3,D3]; omega
 have hlong:¬ (!its.toArray.isEmpty && Builtin.List.listTooLong (its.toArray.size + its2.toArray.size))=true:=by
  rw [Q5p hsz,Bool.and_false];exact F0
 refine bB F.slot_list_extend ⟨_,e,rfl⟩ F.entry_list_extend (F.args_list_extend_2 _ _)
  (AutoSeq1.list_extend_list_list_0 l its.toArray n b its2.toArray n2 hlong (by rw [D3]; omega) (by omega)) ⟨e,e2,?_⟩
 refine ⟨.non,_,I.lset (its':=its ++ its2) hH e (by simp) (r.append r2) ?_,rfl,q⟩;rw [O4];omega
def Qut:R2:=fun x y H Q=>∃ l b xs zs,x=.ref l/\y=.ref b/\H l=some (.lst xs)/\H b=some (.lst zs)/\xs.length + zs.length<=sizeLine/\∀ p,H p=none->Q (.ref p) (upd H p (.lst (xs ++ zs)))
theorem Qmy:OpR X (aV .Add) Qut:=by
 intro pins s σ H x y v u Q I rx ry h;obtain ⟨l,b,xs,zs,rfl,rfl,hH,hB,hz,q⟩:=h;cases rx;cases ry;obtain ⟨z,its,n,r,hl,e⟩:=I.lstM hH;obtain ⟨z2,its2,n2,r2,hl2,e2⟩:=I.lstM hB;refine PySem.P.add_list e e2 ?_ (by rw [D3,D3]; omega);have ea:its.toArray ++ its2.toArray=(its ++ its2).toArray:=by simp
 rw [ea];exact ⟨.ref _,_,I.lnew (t':=s.toks) (r.append r2) (by rw [O4]; omega),rfl,q _ I.fresh⟩
def Qur:R2:=fun x y H Q=>∃ l k xs,x=.ref l/\y=.int k/\H l=some (.lst xs)/\-(2 ^ 63)<=k/\k < 2 ^ 63/\xs.length * k.toNat<=sizeLine /\
 ∀ p,H p=none->Q (.ref p) (upd H p (.lst (List.replicate k.toNat xs).flatten))
theorem Q43 (xs:List α) (k:Nat):(List.replicate k xs).flatten.length=k * xs.length:=by
 induction k with
 | zero=>simp
 | succ k ih=>rw [List.replicate_succ,List.flatten_cons,O4,ih,Nat.succ_mul,Nat.add_comm]
theorem Qmt:OpR X (aV .Mult) Qur:=by
 intro pins s σ H x y v u Q I rx ry h;obtain ⟨l,k,xs,rfl,rfl,hH,h1,h2,hz,q⟩:=h;cases rx;obtain ⟨t,rfl⟩:=ry;obtain ⟨z,its,n,r,hl,e⟩:=I.lstM hH;have hlen:its.toArray.size * k.toNat<=sizeLine:=by rw [D3,<- hl]; exact hz
 have hcap:¬ its.toArray.size * k.toNat > (2 ^ 63 - 1) / 8:=by
  have:(sizeLine:Nat)<=(2 ^ 63 - 1) / 8:=by decide
  omega
 have hfit:¬ (!Builtin.List.listFitsIndex k)=true:=by
  rw [fitsIndex_both h1 h2];exact F0
 have hlong:¬ Builtin.List.listTooLong (its.toArray.size * k.toNat)=true:=by
  rw [Q5p hlen];exact F0
 have hnew:List.foldl (fun x1 x2=>x1 ++ x2) #[] (List.replicate (if its.toArray.isEmpty=true then 0 else k.toNat) its.toArray)=(List.replicate k.toNat its).flatten.toArray:=by
  have f0:∀ m:Nat,List.foldl (fun x1 x2=>x1 ++ x2) #[] (List.replicate m its.toArray)=(List.replicate m its).flatten.toArray:=fun m=>by
   have:=yk its m [];rw [List.nil_append] at this;exact this
  rw [f0];cases its with
  | nil=>simp
  | cons a r'=>rw [bO (by simp)]
 refine wpAny_binaryOp_repeat_ref (T := "list") (U := "int") (by decide) ⟨_,e,rfl⟩ (fun s'=>typeIs_int s' k t) noFill_list_mul F.fills_int_mul F.slot_int_rmul repeat_list F.slot_int_index.lookup
  (bB F.slot_int_rmul (typeIs_int s k t) F.entry_int_rmul (F.args_int_rmul_2 _ _) (int___rmul___int_list k t l its.toArray n)
   ⟨e,rfl,⟨_,e,rfl⟩,bB F.slot_list_mul ⟨_,e,rfl⟩ F.entry_list_mul (F.args_list_mul_2 _ _) (AutoListH.list___mul___list_int_3 l its.toArray n k t hfit hcap hlong) ⟨e,?_⟩⟩)
 rw [hnew];exact ⟨.ref _,_,I.lnew (t':=s.toks) (r.rep k.toNat) (by rw [Q43,Nat.mul_comm]; exact hz),rfl,q _ I.fresh⟩
end L2
namespace Att
open PySem PySem.W PySem.Calls PyProof.Rows
theorem xm {P:Params} {h:Heap}:∀ (ns:List Int) (vs:List aA),WellAll P h vs (ns.map WData.int)->IntsAre vs ns:=by
 intro ns
 induction ns with
 | nil=>
  intro vs w;rw [List.map_nil] at w;cases w;exact .nil
 | cons n ns ih=>
  intro vs w;rw [D9] at w;cases w with
  | cons a b=>
   cases a;exact .cons _ _ (ih _ b)
theorem Q9z {l:OpenLaw} {n:Nat} (hn:l.most=some n) {P:Params} {h:Heap} {args:List WData} {vals:List aA}
  (hpre:l.row.toRowW.claim.pre args=true) (hwl:WellAll P h vals args) :
  ∃ a vs ns,vals=[Value.ref a]/\args=[WData.list (ns.map WData.int)]/\h.get? a=some { cls:=.type "list",data:=.seq vs.toArray }/\IntsAre vs ns/\ns.length<=n:=by
 have hsh:WShape.hasAll [] args [.list .int]=true:=(pre_splitW hpre).1;have hc:l.pre.holds [] { args:=args }=true:=(pre_splitW hpre).2;obtain ⟨d,r,rfl,h1,h2⟩:=hasAllW_cons hsh;obtain rfl:=hasAllW_nil h2;obtain ⟨xs,rfl,h3⟩:=hasW_list h1;obtain ⟨ns,rfl⟩:=items_int h3;have hlen:ns.length<=n:=by
  unfold OpenLaw.pre at hc;have h4:(WTm.not (.lt (.lit (.int (n:Int))) (.len (.arg 0)))).holds [] { args:=[.list (ns.map .int)] }=true:=by
   have h4:=(holds_andW hc).1;rw [hn] at h4;exact h4
  have h5:=condW_of h4 (w_not (w_lt w_lit (w_len_list (w_arg rfl))));rw [O1] at h5;refine Nat.le_of_not_lt fun q=>?_
  have q':(n:Int) < ((ns.length:Nat):Int):=by omega
  first
   | (rw [bQ q'] at h5; exact absurd h5 (by decide))
   | (simp at h5; omega)
 cases hwl with
 | cons w1 w2=>
  cases w2;cases w1 with
  | list ho hall=>exact ⟨_,_,ns,rfl,rfl,ho,xm ns _ hall,hlen⟩
theorem Qa3 (l:OpenLaw) (args:List WData):l.row.toRowW.claim.post args (.bool true) args=true:=
 postW_of (r:=l.row.toRowW) (X:=(true == true))
  (show WShape.has [] (.bool true) .bool=true by first | rfl | decide | simp [WShape.has,WShape.arms,WShape.armsAll])
  (show (WTm.eq .res (.lit (.bool true))).value [] { args:=args,res:=some (.bool true),after:=args }=some (.bool (true == true)) from w_eq_bool (w_res rfl) w_lit) rfl
theorem attach_call {l:OpenLaw} {n:Nat} {q:aL} {loose:List Str} {XP:(Str->Option aA)->Heap->Prop} {YP:aJ->Heap->Prop} {d:DefRec}
  (hn:l.most=some n) (hdf:d.params.defaults=[])
  (call:∀ (w:aJ) (s₀ s₁:aC) (mg mb:Str->Option aA) (fa:aB) (o:Obj) (pm cd doc:aA) (a:aB) (vs:List aA) (ns:List Int),
   Ground q loose [] XP w s₀ mg mb s₁.heap->YP w s₁.heap ->
   s₁.heap.get? fa=some o->o.data=.func (docDef d.name d.params d.body d.scope pm cd doc)->s₁.heap.CodeRec cd d.name->mg d.name=some (.ref fa) ->
   s₁.heap.get? a=some { cls:=.type "list",data:=.seq vs.toArray }->IntsAre vs ns->ns.length<=n->s₁.gens=#[] ->
   codeAny (aI l.prog w) callerA (.call (.ref fa) ⟨[.ref a],[]⟩) (fun r s'=>r=.ok (.ret (.bool true))/\OldK s₁.heap s'.heap/\s'.os=s₁.os/\AllBare s'.gens) s₁) :
  WalkO q loose XP YP l.row.toRowW d [] (fun f vs=>PySem.call f vs):=by
 intro w s₀ s₁ mg mb G Y fa o pm cd doc dV kV ho hd hcd hD hmg hg args vals as hpre hlay hrd hwl hlo;obtain rfl:dV=.none:=Dflts.none hD hdf;obtain rfl:kV=.none:=Dflts.noKw hD;obtain ⟨a,vs,ns,rfl,rfl,hobj,hints,hlen⟩:=Q9z hn hpre hwl;refine enter_call (bL (call w s₀ s₁ mg mb fa o pm cd doc a vs ns G Y ho (fd_plain hd) hcd hmg hobj hints hlen hg) fun r s' hq=>?_)
 obtain ⟨rfl,h2,h3,h4⟩:=hq;exact ⟨.inl ⟨.bool true,.bool true,[],rfl,fun _=>rfl,.bool true,Qa3 l _,fun _=>⟨List.Pairwise.nil,fun _ hm=>(nomatch hm)⟩⟩,h2,h3,h4⟩
end Att
namespace L2
open PySem PySem.Spec PyProof.Rows
variable {k k1 k2:Nat} {a f it l z i1 i2 l1 l2:aB} {fd:aP} {x:Str} {ns:List Int} {st:aK} {h h':Heap} {Q:aA->aC->Prop} {t1 t2:Bool} {b:aA} {xs:List V} {ta:TA} {tp:Pos} {o:HO} {cl:List (Str × aB)}
theorem Q2d:∀ {vs:List aA} {ns:List Int},IntsAre vs ns->Vals (ns.map V.int) vs
 | _,_,.nil=>.nil
 | _,_,.cons n t h=>.cons ⟨t,rfl⟩ (Q2d h)
def Qpk (H:Hp):Prop:=∀ b,H b=none\/∃ o xs,H b=some (.frz o (.lst xs))
theorem Qe0 {P:aL} {w:aJ} {K:PySem.W.Frag} {mg mb:Str->Option aA} {CX:CXT} {k:Nat} {fa a:aB} {fd:aP} {x:Str} {sp:Sp} {s₁:aC} {vs:List aA} {ns:List Int}
  (KX:K.In s₁.heap) (hns:s₁.heap.Ns aR mg) (hb:s₁.heap.Ns builtinsNs mb) (hbb:∀ x:Str,x≠"__name__" -> mb x=aW x) (hlim:s₁.heap.NoLimit) (hg:s₁.gens=#[])
  (ha:s₁.heap.get? a=some { cls:=.type "list",data:=.seq vs.toArray }) (hi:IntsAre vs ns) (hl:ns.length<=sizeLine) (hr:Room k callerA)
  (F:∀ base:Heap,K.In base->base.Ns aR mg->FnOk P w K mg base CX k fa fd [x] sp) (hbind:∀ (s:aC) (u:aA),BindsTo s fd ⟨[u],[]⟩ [(x,u)])
  (hsp:∀ H:Hp,Qpk H->SqL K H a (ns.map V.int)->sp [.ref a] H (fun v _=>v=.bl true) fun _ _ _=>False)
  (hCX:∀ H e s',CX [] H s₁ (fun _ _ _=>False) e s'->False) :
  codeAny (aI P w) callerA (.call (.ref fa) ⟨[.ref a],[]⟩) (fun r s'=>r=.ok (.ret (.bool true))/\OldK s₁.heap s'.heap/\s'.os=s₁.os/\AllBare s'.gens) s₁:=by
 have rv:=Q2d hi;have lenV:=hi.length;have core:∀ H:Hp,Qpk H->SqL K H a (ns.map V.int)->HOk P w H s₁.heap->(∀ b,H b≠none->b=a)->(H a≠none->K.lookup a=none) ->
   codeAny (aI P w) callerA (.call (.ref fa) ⟨[.ref a],[]⟩) (fun r s'=>r=.ok (.ret (.bool true))/\OldK s₁.heap s'.heap/\s'.os=s₁.os/\AllBare s'.gens) s₁:=by
  intro H hO hS hok hA hK;have base_of:∀ {b:aB} {o:Obj},s₁.heap.get? b=some o->H b=none->(Q47 s₁.heap H).get? b=some o:=fun e n=>Qe7 e n
  have noA:∀ {b:aB} {o:Obj} {es:Array DictEntry} {ep:Nat},s₁.heap.get? b=some o->o.data=.dict es ep->H b=none:=fun {b o es ep} e d=>by
   cases q:H b with
   | none=>rfl
   | some u=>
    have e':b=a:=hA b (by rw [q]; simp);subst e';rw [ha] at e; cases e;have d':Data.seq vs.toArray _=Data.dict es ep:=d;cases d'
  have nsK:∀ {b:aB} {m:Str->Option aA},s₁.heap.Ns b m->(Q47 s₁.heap H).Ns b m:=fun {b m} ⟨o,es,ep,e,d,r⟩=>⟨o,es,ep,base_of e (noA e d),d,r⟩
  have hKb:K.In (Q47 s₁.heap H):=fun b o e=>base_of (KX b o e) (by
   cases q:H b with
   | none=>rfl
   | some u=>
    have e':b=a:=hA b (by rw [q]; simp);subst e';rw [hK (by rw [q]; simp)] at e; cases e)
  have hM:Mod K mg (Q47 s₁.heap H):=⟨hKb,nsK hns,⟨mb,nsK hb,hbb⟩,let ⟨mc,h1,h2⟩:=hlim; ⟨mc,nsK h1,h2⟩⟩;have e0:Env0 P w K mg (Q47 s₁.heap H) callerA [] s₁ H:=⟨rfl,hM,fun b o e=>Qhj e,Nat.le_of_eq (Qaq _ _),trivial,fun b hb=>absurd (show b∈([]:List aB) from hb) (by simp),hok,.of_eq hg⟩;refine bL ((F _ hKb (nsK hns)).run callerA [] s₁ H ⟨[.ref a],[]⟩ [.ref a] [.ref a] _ _ hr e0 (hbind s₁ (.ref a)) (.cons rfl .nil) (hsp H hO hS)) fun r s' h=>?_
  cases r with
  | error e=>exact (hCX H e s' h).elim
  | ok fl=>
   cases fl with
   | next=>exact False.elim h
   | brk=>exact False.elim h
   | cont=>exact False.elim h
   | ret u=>
    obtain ⟨v,H',os,bare,un,hok',r',q⟩:=h;have q':v=.bl true:=q;subst q';obtain rfl:u=Value.bool true:=r';refine ⟨rfl,OldK.of_keep fun b o e=>?_,os,bare⟩;cases q:H b with
    | none=>exact un.keep b o e q (by intro z; exact absurd (show b∈([]:List aB) from z) (by simp)) (by simp)
    | some u=>
     rcases hO b with z | ⟨ob,xs,z⟩
     ·rw [q] at z; cases z
     ·have z2:=un.frzs b ob _ z;obtain ⟨e1,_⟩:=hok b _ z;obtain ⟨e2,_⟩:=hok' b _ z2;rw [e] at e1; cases e1;exact e2
 cases hk:K.lookup a with
 | some o=>
  have e:=KX a o hk;rw [ha] at e;cases e;refine core (fun _=>none) (fun _=>.inl rfl) (.inr ⟨_,vs.toArray,_,hk,rfl,rfl,rfl,by rw [D3,lenV]; exact hl,by simpa using rv⟩) (fun b u z=>by have z':(none:Option HO)=some u:=z; cases z') (fun b z=>absurd rfl z) fun z=>absurd rfl z
 | none=>
  refine core (fun b=>if b=a then some (.frz { cls:=.type "list",data:=.seq vs.toArray } (.lst (ns.map V.int))) else none) (fun b=>?_) (.inl (.inr ⟨{ cls:=.type "list",data:=.seq vs.toArray },bN rfl⟩)) (fun b u z=>?_) (fun b z=>?_) fun _=>hk
  ·by_cases hb:b=a
   ·exact .inr ⟨_,_,bN hb⟩
   ·exact .inl (bO hb)
  ·by_cases hb:b=a
   ·have z':=(bN hb).symm.trans z;cases z';subst hb;exact ⟨ha,by rw [O1]; exact hl,vs,_,rv,ha⟩
   ·have z':=(bO hb).symm.trans z;cases z'
  ·by_cases hb:b=a
   ·exact hb
   ·exact absurd (bO hb) z
theorem walk_of {l:PySem.W.OpenLaw} {n k:Nat} {q:aL} {loose:List Str} {XP:(Str->Option aA)->Heap->Prop} {YP:aJ->Heap->Prop} {d:DefRec} {K:Params->PySem.W.Frag} {CX:aJ->CXT} {sp:aJ->Sp} {x:Str}
  (hn:l.most=some n) (hn2:n<=sizeLine) (hdf:d.params.defaults=[]) (hr:Room k callerA)
  (hY:∀ (w:aJ) (h:Heap),YP w h->(K w.params).In h)
  (F:∀ (w:aJ) (mg:Str->Option aA) (fa:aB) (h:Heap),(K w.params).In h->h.Ns aR mg->mg d.name=some (.ref fa) ->
   ∃ fd:aP,(∀ (s:aC) (u:aA),BindsTo s fd ⟨[u],[]⟩ [(x,u)]) /\
    ∀ base:Heap,(K w.params).In base->base.Ns aR mg->FnOk l.prog w (K w.params) mg base (CX w) k fa fd [x] (sp w))
  (hsp:∀ (w:aJ) (H:Hp) (a:aB) (ns:List Int),ns.length<=n->Qpk H->SqL (K w.params) H a (ns.map V.int)->sp w [.ref a] H (fun v _=>v=.bl true) fun _ _ _=>False)
  (hCX:∀ (w:aJ) (H:Hp) (s:aC) (e:aA) (s':aC),CX w [] H s (fun _ _ _=>False) e s'->False) :
  PySem.W.WalkO q loose XP YP l.row.toRowW d [] (fun f vs=>PySem.call f vs):=by
 refine Att.attach_call hn hdf fun w s₀ s₁ mg mb fa o pm cd doc a vs ns G Y ho hd hcd hmg hobj hints hlen hg=>?_
 have KX:=hY w _ Y;obtain ⟨fd,hb,hF⟩:=F w mg fa _ KX G.T.g hmg;exact Qe0 KX G.T.g G.T.b G.T.builtins G.T.nolimit hg hobj hints (F6 hlen hn2) hr hF hb (fun H hO hS=>hsp w H a ns hlen hO hS) fun H e s'=>hCX w H s₁ e s'
def Ya (s:aK):Arguments:=match s with
 | .FunctionDef _ a _ _ _ _ _ _ _ _=>a
 | _=>{ posonlyargs:=[],args:=[],vararg:=none,kwonlyargs:=[],kw_defaults:=[],kwarg:=none,defaults:=[] }
def Z2 (s:aK):List aK:=match s with
 | .FunctionDef _ _ b _ _ _ _ _ _ _=>b
 | _=>[]
def Q9 (s:aK):Scope:=match s with
 | .FunctionDef _ _ _ _ _ _ sc _ _ _=>sc
 | _=>{ kind:=.function,names:=[],isGenerator:=false,isCoroutine:=false }
abbrev E0:XK:=fun _ _ _=>False
structure Fun (K:PySem.W.Frag) (x qual:Str) (st:aK) (f:aB) (fd:aP):Prop where
 ex:∃ (oc:aA) (od:Option aB) (kV doc pm:aA) (an:Option aB) (cdv ct:aA) (osl:Array (Option aA)),
  fd=PySem.W.fnOf x qual (Ya st) (Z2 st) (Q9 st) .none kV doc pm an cdv ct/\K.lookup f=some ⟨oc,od,.func fd,osl⟩/\PySem.W.codeIn K cdv qual=true
 kp:PySem.W.keepIn K (.ref f)=true
variable {P:aL} {K:PySem.W.Frag} {mg:Str->Option aA} {base:Heap}
section
variable {w:aJ}
theorem Fun.binds {qual:Str} {ps:List Str} (F:Fun K x qual st f fd)
  (h:∀ (kV doc pm:aA) (an:Option aB) (cdv ct:aA) (us:List aA),us.length=ps.length->bindArgs (PySem.W.fnOf x qual (Ya st) (Z2 st) (Q9 st) .none kV doc pm an cdv ct) ⟨us,[]⟩=pure (ps.zip us)):Binds K fd ps []:=by
 obtain ⟨oc,od,kV,doc,pm,an,cdv,ct,osl,rfl,lk,hcd⟩:=F.ex;exact .all (h kV doc pm an cdv ct)
theorem Qed {qual:Str} {oc:aA} {od an:Option aB} {osl:Array (Option aA)} {kV doc pm cdv ct:aA} (l:K.lookup f=some ⟨oc,od,.func (PySem.W.fnOf x qual (Ya st) (Z2 st) (Q9 st) .none kV doc pm an cdv ct),osl⟩)
  (c:PySem.W.codeIn K cdv qual=true) (k:PySem.W.keepIn K (.ref f)=true):Fun K x qual st f (PySem.W.fnOf x qual (Ya st) (Z2 st) (Q9 st) .none kV doc pm an cdv ct):=⟨⟨oc,od,kV,doc,pm,an,cdv,ct,osl,rfl,l,c⟩,k⟩
end
variable {X:Cx}
theorem pv (i:Nat) {pos:Pos} (hN:X.N[i]?=some x:=by rfl) (hv:Vis X.env.scope x:=by first | exact Or.inl rfl | exact Or.inr (Or.inl rfl) | exact Or.inr (Or.inr rfl)) (hd:(x == ("__debug__" : Str))=false:=by decide)
  (hcd:(x == ("__classdict__" : Str))=false:=by decide):PE X (.Name x pos) (Qq8 i):=Qcy hN hv hd hcd
def Same (H H':Hp):Prop:=∀ b o,H b=some o->H' b=some o
theorem Same.refl (H:Hp):Same H H:=fun _ _ h=>h
theorem Q7r {scope:Scope} {env:Env} (h:∀ x∈scope.names,x.2=.free->∃ c,env.cells.lookup x.1=some c) :
  ∃ cl,closureFor scope env=pure cl/\(∀ x c,cl.lookup x=some c->env.cells.lookup x=some c)/\(∀ x∈scope.names,x.2=.free->∃ c,cl.lookup x.1=some c):=by
 have key:∀ (l:List (Str × ao)) (acc:List (Str × aB)),(∀ x∈l,x.2=.free->∃ c,env.cells.lookup x.1=some c)->(∀ x c,acc.lookup x=some c->env.cells.lookup x=some c) ->
   ∃ cl,(forIn l acc fun (x:Str × ao) (r:List (Str × aB))=>(match x with
    | (name,kind)=>if (kind == NameKind.free)=true then (do let c <- cellOf env name; pure (ForInStep.yield ((name,c) :: r))) else (do pure PUnit.unit; pure (ForInStep.yield r)):Sem (ForInStep (List (Str × aB)))))=pure cl /\
    (∀ x c,cl.lookup x=some c->env.cells.lookup x=some c)/\(∀ x∈l,x.2=.free->∃ c,cl.lookup x.1=some c)/\(∀ x c,acc.lookup x=some c->∃ c',cl.lookup x=some c'):=by
  intro l
  induction l with
  | nil=>intro acc _ ha; exact ⟨acc,rfl,ha,fun x hx=>(by simp at hx),fun x c e=>⟨c,e⟩⟩
  | cons x r ih=>
   intro acc hl ha;obtain ⟨n,k⟩:=x
   by_cases hk:k=.free
   ·subst hk;obtain ⟨c,hc⟩:=hl (n,.free) D1 rfl;have ha':∀ x c',((n,c) :: acc).lookup x=some c'->env.cells.lookup x=some c':=fun x c' e=>by
     rw [List.lookup_cons] at e
     by_cases hx:x=n
     ·subst hx; simp at e; rw [<- e]; exact hc
     ·have:(x == n)=false:=by simpa using hx
      rw [this] at e; exact ha x c' e
    obtain ⟨cl,e1,e2,e3,e4⟩:=ih ((n,c) :: acc) (fun y hy=>hl y (O7 _ hy)) ha'
    refine ⟨cl,?_,e2,fun y hy hf=>?_,fun y c' e=>?_⟩
    ·rw [List.forIn_cons];have hcell:cellOf env n=pure c:=by unfold cellOf; rw [hc]
     simp only [beq_self_eq_true,if_true,hcell];exact e1
    ·rcases E2.mp hy with e | hy
     ·subst e;exact e4 n c (by simp)
     ·exact e3 y hy hf
    ·by_cases hy:y=n
     ·subst hy; exact e4 y c (by simp)
     ·have:(y == n)=false:=by simpa using hy
      exact e4 y c' (by rw [List.lookup_cons,this]; exact e)
   ·obtain ⟨cl,e1,e2,e3,e4⟩:=ih acc (fun y hy=>hl y (O7 _ hy)) ha
    refine ⟨cl,?_,e2,fun y hy hf=>?_,e4⟩
    ·rw [List.forIn_cons];have:(k == NameKind.free)=false:=by simpa using hk
     simp only [this,L6,if_false];exact e1
    ·rcases E2.mp hy with e | hy
     ·subst e; exact absurd hf hk
     ·exact e3 y hy hf
 obtain ⟨cl,e1,e2,e3,_⟩:=key scope.names [] h (fun x c e=>by simp at e);refine ⟨cl,?_,e2,e3⟩;unfold closureFor;exact (congrArg (fun z=>z >>= pure) e1).trans rfl
theorem ze (f:Str->ao->ao) (x:Str):∀ l:List (Str × ao),(l.map fun y=>(y.1,f y.1 y.2)).lookup x=(l.lookup x).map (f x)
 | []=>rfl
 | (n,k) :: r=>by
  have ih:=ze f x r;rw [D9,List.lookup_cons,List.lookup_cons]
  by_cases hx:x=n
  ·subst hx; simp
  ·have hb:(x == n)=false:=by simpa using hx
   rw [hb]; exact ih
theorem K7 {scope:Scope} {env:Env} :(relabel scope env).names.lookup x =
  (scope.names.lookup x).map fun k=>if (k == .free && env.scope.kind == .function && env.kindOf x == some .cell) then .cell else k:=by
 rw [<- ze (fun n k=>if (k == .free && env.scope.kind == .function && env.kindOf n == some .cell) then .cell else k)]
 unfold relabel;refine congrArg (List.lookup x) (G8 fun y _=>?_);obtain ⟨n,k⟩:=y;show (if (k == NameKind.free && env.scope.kind == .function && env.kindOf n == some .cell)=true then (n,NameKind.cell) else (n,k))=_
 split <;> rfl
def zk (cap:List (Option Nat)) (σ:St):St:=cap.map fun c=>c.bind fun j=>(σ[j]?).join
def HasItems (t:Bool) (h:Heap) (a:aB) (items:Array aA):Prop:=if t=true then h.IsTuple a items else h.IsList a items
def IterAt (t:Bool) (h:Heap) (it a:aB) (i:Nat):Prop:=if t=true then h.IsTupleIter it a i else h.IsListIter it a i
theorem HasItems.at {t:Bool} {items:Array aA} (x:HasItems t h a items) (k:∀ o,h.get? a=some o->h'.get? a=some o):HasItems t h' a items:=by
 cases t
 ·exact Heap.IsList.at x k
 ·obtain ⟨o,e,r⟩:=x;exact ⟨o,k o e,r⟩
theorem HasItems.there {t:Bool} {items:Array aA} (x:HasItems t h a items):∃ o,h.get? a=some o:=by
 cases t
 ·obtain ⟨o,e,_⟩:=x; exact ⟨o,e⟩
 ·obtain ⟨o,e,_⟩:=x; exact ⟨o,e⟩
theorem IterAt.at {t:Bool} {i:Nat} (x:IterAt t h it a i) (k:∀ o,h.get? it=some o->h'.get? it=some o):IterAt t h' it a i:=by
 cases t
 ·exact Heap.IsListIter.at x k
 ·obtain ⟨o,e,r⟩:=x;exact ⟨o,k o e,r⟩
theorem IterAt.there {t:Bool} {i:Nat} (x:IterAt t h it a i):∃ o,h.get? it=some o/\∀ v,o.data≠.cell v:=by
 cases t
 ·obtain ⟨o,e,_,d⟩:=x; exact ⟨o,e,fun v z=>by rw [d] at z; cases z⟩
 ·obtain ⟨o,e,_,d⟩:=x; exact ⟨o,e,fun v z=>by rw [d] at z; cases z⟩
variable {prog:aL} {A:aQ} {E:aA->aC->Prop} {s:aC}
section
variable {w:aJ}
theorem za {i:Nat} {items} {x:aA} {Q:aA->aC->Prop} (hit:s.heap.IsTupleIter it l i)
  (hl:s.heap.IsTuple l items) (hx:items[i]?=some x)
  (hQ:∀ h',h'.IsTupleIter it l (i + 1)->Heap.SameBut it s.heap h'->Q x { s with heap:=h' }) :
  aF (aI prog w) A (Builtin.SmallTypes.nextOf (.ref it)) Q E s:=by
 obtain ⟨o,ho,hc,hd⟩:=id hit;obtain ⟨ol,hol,_,nl,hdl⟩:=hl;unfold Builtin.SmallTypes.nextOf;refine aD (wpAny_callSpecial?_slot (name:=Str.ofString "__next__") hit.typeIs F.slot_tuple_iterator_next
  (ag F.slot_tuple_iterator_next hit.typeIs F.entry_tuple_iterator_next ?_ (F.args_tuple_iterator_next_1 _)))
 show aF _ _ (field (.ref it) 0 >>= _) _ _ s;refine aD (aY ho hd (x:=.ref l) rfl ?_);show aF _ _ (if (Value.ref l == Value.none)=true then _ else _) _ _ s;rw [bO (show ¬ ((Value.ref l == Value.none)=true) from F0)];show aF _ _ (field (.ref it) 1 >>= _) _ _ s;refine aD (aY ho hd (x:=.int i 0) rfl ?_);show aF _ _ (seqItems? (.ref l) >>= _) _ _ s;refine aD (ay hol hdl ?_);simp only [Int.toNat_natCast,hx];refine aD (wpAny_setField ho hd (by simp) (wpAny_pure ⟨x,rfl,wpAny_pure (hQ _ ?_ (Heap.SameBut.update ..))⟩));exact ⟨_,N0 _ ho (Obj.isFreed_of_fields (Obj.data_mapFields hd _)),(Obj.cls_mapFields ..).trans hc,by
  rw [Obj.data_mapFields hd]; simp [ae]⟩
theorem y6 {it l:aB} {i:Nat} {items} {Q:aA->aC->Prop} (hh:A.handled=none)
  (hit:s.heap.IsTupleIter it l i) (hl:s.heap.IsTuple l items) (hx:items[i]?=none)
  (hE:∀ h' e,Heap.ExtBut it s.heap h'->(∃ o,h'.get? e=some o/\o.cls=.type "StopIteration")->E (.ref e) { s with heap:=h' }) :
  aF (aI prog w) A (Builtin.SmallTypes.nextOf (.ref it)) Q E s:=by
 obtain ⟨o,ho,hc,hd⟩:=id hit;obtain ⟨ol,hol,_,nl,hdl⟩:=hl;unfold Builtin.SmallTypes.nextOf;refine aD (wpAny_callSpecial?_slot (name:=Str.ofString "__next__") hit.typeIs F.slot_tuple_iterator_next
  (ag F.slot_tuple_iterator_next hit.typeIs F.entry_tuple_iterator_next ?_ (F.args_tuple_iterator_next_1 _)))
 show aF _ _ (field (.ref it) 0 >>= _) _ _ s;refine aD (aY ho hd (x:=.ref l) rfl ?_);show aF _ _ (if (Value.ref l == Value.none)=true then _ else _) _ _ s;rw [bO (show ¬ ((Value.ref l == Value.none)=true) from F0)];show aF _ _ (field (.ref it) 1 >>= _) _ _ s;refine aD (aY ho hd (x:=.int i 0) rfl ?_);show aF _ _ (seqItems? (.ref l) >>= _) _ _ s;refine aD (ay hol hdl ?_);simp only [Int.toNat_natCast,hx];refine aD (ah (aD (wpAny_setField ho hd (by simp) ?_)));show aF _ _ (newExc (.type "StopIteration") [] >>= _) _ _ _;refine aD ?_;simp only [newExc,newTuple];refine aD (bA ?_ (by size_fits));refine aD (m:=firstArgMember _ _) (wpAny_of_eq (a:=Value.none) (by first | rfl | (simp only [firstArgMember]; rfl)) ?_);refine bA ?_ (by size_fits);simp only [raiseNew]
 refine aD (wpAny_handled ?_)
 first | rw [show A.in1.handled=none from hh] | rw [hh]
 refine aD (wpAny_pure (wpAny_throw ?_));exact hE _ _ (((Heap.SameBut.update ..).extBut.push _).push _) ⟨_,E9 _ rfl,rfl⟩
theorem Uc {t:Bool} {i:Nat} {items:Array aA} {x:aA} {Q:aA->aC->Prop} (hit:IterAt t s.heap it l i)
  (hl:HasItems t s.heap l items) (hx:items[i]?=some x)
  (hQ:∀ h',IterAt t h' it l (i + 1)->Heap.SameBut it s.heap h'->Q x { s with heap:=h' }) :
  aF (aI prog w) A (Builtin.SmallTypes.nextOf (.ref it)) Q E s:=by
 cases t
 ·exact wpAny_nextOf_list_item hit hl hx hQ
 ·exact za hit hl hx hQ
theorem Xj {t:Bool} {it l:aB} {i:Nat} {items:Array aA} {Q:aA->aC->Prop} (hh:A.handled=none)
  (hit:IterAt t s.heap it l i) (hl:HasItems t s.heap l items) (hx:items[i]?=none)
  (hE:∀ h' e,Heap.ExtBut it s.heap h'->(∃ o,h'.get? e=some o/\o.cls=.type "StopIteration")->E (.ref e) { s with heap:=h' }) :
  aF (aI prog w) A (Builtin.SmallTypes.nextOf (.ref it)) Q E s:=by
 cases t
 ·exact wpAny_nextOf_list_end hh hit hl hx hE
 ·exact y6 hh hit hl hx hE
def Wd (t:Bool) (l:aB):Obj:=if t=true then { cls:=.type "tuple_iterator",data:=.fields #[.ref l,.int 0 0] } else { cls:=.type "list_iterator",data:=.fields #[.ref l,.int 0 0] }
theorem Ws {t:Bool} {items:Array aA} {Q:aA->aC->Prop} (hl:HasItems t s.heap l items)
  (hQ:Q (.ref s.heap.objs.size) { s with heap:=s.heap.push (Wd t l) }):aF (aI prog w) A (pyIter (.ref l)) Q E s:=by
 cases t
 ·exact wpAny_pyIter_list hl hQ
 ·exact bJ hl hQ
theorem jd {t:Bool} (e:h.get? it=some (Wd t l)):IterAt t h it l 0:=by
 cases t
 ·exact ⟨_,e,rfl,rfl⟩
 ·exact ⟨_,e,rfl,rfl⟩
theorem Xr (t:Bool) (l:aB):(Wd t l).isFreed=false:=by cases t <;> rfl
theorem Q9j {t1 t2:Bool} {TI TO:aB} {k1 k2:Nat} {xs ys:Array aA} {x y a b:aA} {Q:aA->aC->Prop} (D:ZipApart z TI TO i1 i2 l1 l2)
  (hz:IsZip s.heap z TI TO .none) (hTI:aU s.heap TI (.ref i1) (.ref i2)) (hTO:aU s.heap TO a b)
  (h1:IterAt t1 s.heap i1 l1 k1) (h2:IterAt t2 s.heap i2 l2 k2) (hl1:HasItems t1 s.heap l1 xs) (hl2:HasItems t2 s.heap l2 ys) (hx:xs[k1]?=some x) (hy:ys[k2]?=some y)
  (hQ:∀ h',IsZip h' z TI TO (ae s.heap.objs.size)->aU h' TO x y->IterAt t1 h' i1 l1 (k1 + 1)->IterAt t2 h' i2 l2 (k2 + 1)->aU h' s.heap.objs.size x y->h'.objs.size=s.heap.objs.size + 1 ->
   (∀ c o,c≠z->c≠TO->c≠i1->c≠i2->s.heap.get? c=some o->h'.get? c=some o)->Q (.ref s.heap.objs.size) { s with heap:=h' }) :
  aF (aI prog w) A (Builtin.«zip.__next__» ⟨[.ref z],[]⟩) (fun fin s'=>∃ v,fin=.done (.ret v)/\Q v s') E s:=by
 show aF _ _ (field (.ref z) 2 >>= _) _ _ _;refine aD (aY hz rfl (x:=.bool false) rfl ?_);show aF _ _ (field (.ref z) 3 >>= _) _ _ _;refine aD (aY hz rfl (x:=.ref TI) rfl ?_);refine aD (ay hTI rfl ?_);show aF _ _ (Builtin.SmallTypes.ownedTupleIsFree (.ref z) >>= _) _ _ _;refine aD ?_;unfold Builtin.SmallTypes.ownedTupleIsFree;refine aD (aY hz rfl (x:=.none) rfl (wpAny_pure ?_));simp only [if_true];refine aD (ah ?_);refine aD (aY hz rfl (x:=.ref TO) rfl ?_);refine aD (bI hz (by simp) fun h₁ hz₁ hs₁=>?_)
 replace hz₁:IsZip h₁ z TI TO .ellipsis:=hz₁;refine aD ?_;simp only [List.zipIdx_cons,List.zipIdx_nil,List.forIn_cons,List.forIn_nil];refine aD (aD (wpAny_onRaise ?_));show aF _ _ (Builtin.SmallTypes.nextOf (.ref i1) >>= _) _ _ _;refine aD (Uc (h1.at fun o e=>hs₁.extBut _ _ D.i1z e) (hl1.at fun o e=>hs₁.extBut _ _ D.l1z e) hx fun h₂ h1₂ hs₂=>wpAny_pure ?_)
 have hTO₂:aU h₂ TO a b:=hs₂.extBut _ _ D.TOi1 (hs₁.extBut _ _ D.TOz hTO);refine aD (ay hTO₂ rfl ?_);refine aD (wpAny_updateSeq_pair hTO₂ fun h₃ hTO₃ hs₃=>?_);replace hTO₃:aU h₃ TO x b:=hTO₃;refine aD (wpAny_letGo (wpAny_pure ?_));refine aD (aD (wpAny_onRaise ?_));show aF _ _ (Builtin.SmallTypes.nextOf (.ref i2) >>= _) _ _ _;refine aD (Uc (h2.at fun o e=>hs₃.extBut _ _ D.TOi2.symm (hs₂.extBut _ _ D.i12.symm (hs₁.extBut _ _ D.i2z e)))
  (hl2.at fun o e=>hs₃.extBut _ _ D.l2TO (hs₂.extBut _ _ D.l2i1 (hs₁.extBut _ _ D.l2z e))) hy fun h₄ h2₄ hs₄=>wpAny_pure ?_)
 have hTO₄:aU h₄ TO x b:=hs₄.extBut _ _ D.TOi2 hTO₃;refine aD (ay hTO₄ rfl ?_);refine aD (wpAny_updateSeq_pair hTO₄ fun h₅ hTO₅ hs₅=>?_);replace hTO₅:aU h₅ TO x y:=hTO₅;refine aD (wpAny_letGo (wpAny_pure (wpAny_pure ?_)));refine aD (ay hTO₅ rfl ?_);refine aD (wpAny_newTuple ?_);have hsz:h₅.objs.size=s.heap.objs.size:=by rw [hs₅.1,hs₄.1,hs₃.1,hs₂.1,hs₁.1]
 have hz₅:IsZip h₅ z TI TO .ellipsis:=hs₅.extBut _ _ D.TOz.symm (hs₄.extBut _ _ D.i2z.symm (hs₃.extBut _ _ D.TOz.symm (hs₂.extBut _ _ D.i1z.symm hz₁)));have hk₅:∀ c o,c≠z->c≠TO->c≠i1->c≠i2->s.heap.get? c=some o->h₅.get? c=some o:=fun c o c1 c2 c3 c4 e=>
  hs₅.extBut _ _ c2 (hs₄.extBut _ _ c4 (hs₃.extBut _ _ c2 (hs₂.extBut _ _ c3 (hs₁.extBut _ _ c1 e))))
 have h1₅:IterAt t1 h₅ i1 l1 (k1 + 1):=h1₂.at fun o e=>hs₅.extBut _ _ D.TOi1.symm (hs₄.extBut _ _ D.i12 (hs₃.extBut _ _ D.TOi1.symm e))
 have h2₅:IterAt t2 h₅ i2 l2 (k2 + 1):=h2₄.at fun o e=>hs₅.extBut _ _ D.TOi2.symm e
 have hzlt:z < h₅.objs.size:=E6 hz₅;show aF _ _ (Builtin.SmallTypes.ownedTupleHandOut (.ref z) (.ref h₅.objs.size) >>= _) _ _ _;refine aD ?_;unfold Builtin.SmallTypes.ownedTupleHandOut;have hz₆:IsZip (h₅.push { cls:=.type "tuple",data:=.seq #[x,y] }) z TI TO .ellipsis:=O6 _ hz₅;refine aD (bI hz₆ (by simp) fun h₇ hz₇ hs₇=>?_)
 replace hz₇:IsZip h₇ z TI TO (ae h₅.objs.size):=hz₇;refine bI hz₇ (by simp) fun h₈ hz₈ hs₈=>?_
 replace hz₈:IsZip h₈ z TI TO (ae h₅.objs.size):=hz₈;have up:∀ c o,c≠z->h₅.get? c=some o->h₈.get? c=some o:=fun c o c1 e=>hs₈.extBut _ _ c1 (hs₇.extBut _ _ c1 (O6 _ e))
 have hT₈:aU h₈ h₅.objs.size x y:=hs₈.extBut _ _ (Nat.ne_of_gt hzlt) (hs₇.extBut _ _ (Nat.ne_of_gt hzlt) (E9 _ rfl));have hz8:h₈.objs.size=h₅.objs.size + 1:=by rw [hs₈.1,hs₇.1,L3]
 rw [hsz] at hz₈ hT₈ hz8;refine wpAny_pure ⟨_,rfl,?_⟩;show Q (.ref h₅.objs.size) _;rw [hsz];exact hQ h₈ hz₈ (up _ _ D.TOz hTO₅) (h1₅.at fun o e=>up _ o D.i1z e) (h2₅.at fun o e=>up _ o D.i2z e) hT₈ hz8 fun c o c1 c2 c3 c4 e=>up c o c1 (hk₅ c o c1 c2 c3 c4 e)
theorem Qbc {t1 t2:Bool} {TI TO:aB} {k1 k2:Nat} {xs ys:Array aA} {a b:aA} {Q:Fin->aC->Prop} (hh:A.handled=none) (D:ZipApart z TI TO i1 i2 l1 l2)
  (hz:IsZip s.heap z TI TO .none) (hTI:aU s.heap TI (.ref i1) (.ref i2)) (hTO:aU s.heap TO a b)
  (h1:IterAt t1 s.heap i1 l1 k1) (h2:IterAt t2 s.heap i2 l2 k2) (hl1:HasItems t1 s.heap l1 xs) (hl2:HasItems t2 s.heap l2 ys) (hend:xs[k1]?=none\/ys[k2]?=none)
  (hE:∀ h' e,(∀ c o,c≠z->c≠TO->c≠i1->c≠i2->s.heap.get? c=some o->h'.get? c=some o)->(∃ o,h'.get? e=some o/\o.cls=.type "StopIteration")->E (.ref e) { s with heap:=h' }) :
  aF (aI prog w) A (Builtin.«zip.__next__» ⟨[.ref z],[]⟩) Q E s:=by
 show aF _ _ (field (.ref z) 2 >>= _) _ _ _;refine aD (aY hz rfl (x:=.bool false) rfl ?_);show aF _ _ (field (.ref z) 3 >>= _) _ _ _;refine aD (aY hz rfl (x:=.ref TI) rfl ?_);refine aD (ay hTI rfl ?_);show aF _ _ (Builtin.SmallTypes.ownedTupleIsFree (.ref z) >>= _) _ _ _;refine aD ?_;unfold Builtin.SmallTypes.ownedTupleIsFree;refine aD (aY hz rfl (x:=.none) rfl (wpAny_pure ?_));simp only [if_true];refine aD (ah ?_);refine aD (aY hz rfl (x:=.ref TO) rfl ?_);refine aD (bI hz (by simp) fun h₁ hz₁ hs₁=>?_)
 replace hz₁:IsZip h₁ z TI TO .ellipsis:=hz₁;refine aD ?_;simp only [List.zipIdx_cons,List.zipIdx_nil,List.forIn_cons,List.forIn_nil];refine aD (aD (wpAny_onRaise ?_));show aF _ _ (Builtin.SmallTypes.nextOf (.ref i1) >>= _) _ _ _;cases hx:xs[k1]? with
 | none=>
  refine aD (Xj hh (h1.at fun o e=>hs₁.extBut _ _ D.i1z e) (hl1.at fun o e=>hs₁.extBut _ _ D.l1z e) hx fun h₂ e hs₂ he=>?_)
  obtain ⟨oe,hoe,hce⟩:=he;have hz₂:IsZip h₂ z TI TO .ellipsis:=hs₂ _ _ D.i1z.symm hz₁;have hez:e≠z:=fun x=>by subst x; rw [hz₂] at hoe; cases hoe; simp at hce
  refine bI hz₂ (by simp) fun h₃ _ hs₃=>hE h₃ e (fun c o c1 _ c3 _ x=>hs₃.extBut _ _ c1 (hs₂ _ _ c3 (hs₁.extBut _ _ c1 x))) ⟨oe,hs₃.extBut _ _ hez hoe,hce⟩
 | some x=>
  have hy:ys[k2]?=none:=by rcases hend with h | h; rw [hx] at h; cases h; exact h
  refine aD (Uc (h1.at fun o e=>hs₁.extBut _ _ D.i1z e) (hl1.at fun o e=>hs₁.extBut _ _ D.l1z e) hx fun h₂ h1₂ hs₂=>wpAny_pure ?_)
  have hTO₂:aU h₂ TO a b:=hs₂.extBut _ _ D.TOi1 (hs₁.extBut _ _ D.TOz hTO);refine aD (ay hTO₂ rfl ?_);refine aD (wpAny_updateSeq_pair hTO₂ fun h₃ hTO₃ hs₃=>?_);refine aD (wpAny_letGo (wpAny_pure ?_));refine aD (aD (wpAny_onRaise ?_));show aF _ _ (Builtin.SmallTypes.nextOf (.ref i2) >>= _) _ _ _;refine aD (Xj hh (h2.at fun o e=>hs₃.extBut _ _ D.TOi2.symm (hs₂.extBut _ _ D.i12.symm (hs₁.extBut _ _ D.i2z e)))
   (hl2.at fun o e=>hs₃.extBut _ _ D.l2TO (hs₂.extBut _ _ D.l2i1 (hs₁.extBut _ _ D.l2z e))) hy fun h₄ e hs₄ he=>?_)
  obtain ⟨oe,hoe,hce⟩:=he;have hz₄:IsZip h₄ z TI TO .ellipsis:=hs₄ _ _ D.i2z.symm (hs₃.extBut _ _ D.TOz.symm (hs₂.extBut _ _ D.i1z.symm hz₁));have hez:e≠z:=fun x=>by subst x; rw [hz₄] at hoe; cases hoe; simp at hce
  refine bI hz₄ (by simp) fun h₅ _ hs₅=>hE h₅ e (fun c o c1 c2 c3 c4 x=>hs₅.extBut _ _ c1 (hs₄ _ _ c4 (hs₃.extBut _ _ c2 (hs₂.extBut _ _ c3 (hs₁.extBut _ _ c1 x))))) ⟨oe,hs₅.extBut _ _ hez hoe,hce⟩
theorem Q14 {t1 t2:Bool} {TI TO:aB} {k1 k2:Nat} {xs ys:Array aA} {x y a b:aA} {Q:Option aA->aC->Prop} (D:ZipApart z TI TO i1 i2 l1 l2)
  (hz:IsZip s.heap z TI TO .none) (hTI:aU s.heap TI (.ref i1) (.ref i2)) (hTO:aU s.heap TO a b)
  (h1:IterAt t1 s.heap i1 l1 k1) (h2:IterAt t2 s.heap i2 l2 k2) (hl1:HasItems t1 s.heap l1 xs) (hl2:HasItems t2 s.heap l2 ys) (hx:xs[k1]?=some x) (hy:ys[k2]?=some y)
  (hQ:∀ h',IsZip h' z TI TO (ae s.heap.objs.size)->aU h' TO x y->IterAt t1 h' i1 l1 (k1 + 1)->IterAt t2 h' i2 l2 (k2 + 1)->aU h' s.heap.objs.size x y->h'.objs.size=s.heap.objs.size + 1 ->
   (∀ c o,c≠z->c≠TO->c≠i1->c≠i2->s.heap.get? c=some o->h'.get? c=some o)->Q (some (.ref s.heap.objs.size)) { s with heap:=h' }) :
  aF (aI prog w) A (au (.ref z)) Q E s:=by
 have hT:s.TypeIs (.ref z) "zip" := ⟨_,hz,rfl⟩;unfold au;exact aD (wpAny_attempt (wpAny_callSpecial?_slot (name:=Str.ofString "__next__") hT F.slot_zip_next
  (ag F.slot_zip_next hT F.entry_zip_next
   (Q9j D hz hTI hTO h1 h2 hl1 hl2 hx hy fun h' a1 a2 a3 a4 a5 a6 a7=>wpAny_pure (hQ h' a1 a2 a3 a4 a5 a6 a7)) (F.args_zip_next_1 _))))
theorem Q29 {t1 t2:Bool} {TI TO:aB} {k1 k2:Nat} {xs ys:Array aA} {a b:aA} {Q:Option aA->aC->Prop} (hh:A.handled=none) (D:ZipApart z TI TO i1 i2 l1 l2)
  (hz:IsZip s.heap z TI TO .none) (hTI:aU s.heap TI (.ref i1) (.ref i2)) (hTO:aU s.heap TO a b)
  (h1:IterAt t1 s.heap i1 l1 k1) (h2:IterAt t2 s.heap i2 l2 k2) (hl1:HasItems t1 s.heap l1 xs) (hl2:HasItems t2 s.heap l2 ys) (hend:xs[k1]?=none\/ys[k2]?=none)
  (hQ:∀ h',(∀ c o,c≠z->c≠TO->c≠i1->c≠i2->s.heap.get? c=some o->h'.get? c=some o)->Q none { s with heap:=h' }):aF (aI prog w) A (au (.ref z)) Q E s:=by
 have hT:s.TypeIs (.ref z) "zip" := ⟨_,hz,rfl⟩;unfold au;refine aD (wpAny_attempt (wpAny_callSpecial?_slot (name:=Str.ofString "__next__") hT F.slot_zip_next
  (ag F.slot_zip_next hT F.entry_zip_next (Qbc hh D hz hTI hTO h1 h2 hl1 hl2 hend fun h' e hk he=>?_) (F.args_zip_next_1 _))))
 obtain ⟨o,ho,hc⟩:=he;refine aD (bK (T := "StopIteration") (b:=true) ⟨o,ho,hc⟩ isSubtype_stop ?_);exact wpAny_pure (hQ _ hk)
end
def zH1 (t1:Bool) (h:Heap) (l1:aB):Heap:=h.push (Wd t1 l1)
def zH2 (t1 t2:Bool) (h:Heap) (l1 l2:aB):Heap:=(zH1 t1 h l1).push (Wd t2 l2)
def zH3 (t1 t2:Bool) (h:Heap) (l1 l2:aB):Heap:=(zH2 t1 t2 h l1 l2).push { cls:=.type "tuple",data:=.seq #[.ref h.objs.size,.ref (zH1 t1 h l1).objs.size] }
def zH4 (t1 t2:Bool) (h:Heap) (l1 l2:aB):Heap:=(zH3 t1 t2 h l1 l2).push { cls:=.type "tuple",data:=.seq #[.none,.none] }
def zH5 (t1 t2:Bool) (h:Heap) (l1 l2:aB):Heap:=(zH4 t1 t2 h l1 l2).push { cls:=.type "zip",data:=.fields #[.none,.bool false,.bool false,.ref (zH2 t1 t2 h l1 l2).objs.size,.ref (zH3 t1 t2 h l1 l2).objs.size] }
theorem Q16 (t1 t2:Bool) (l1 l2:aB) (xs ys:Array aA) :
  Meets (Builtin.«zip.__new__» ⟨[.type "zip",.ref l1,.ref l2],[]⟩) (fun _ R s=>HasItems t1 s.heap l1 xs/\HasItems t2 s.heap l2 ys /\
   R (.ok (.ret (.ref (zH4 t1 t2 s.heap l1 l2).objs.size))) { s with heap:=zH5 t1 t2 s.heap l1 l2 }):=
 .of_wp fun prog w A R s h=>by
  obtain ⟨hp,g,d,tk,os⟩:=s; obtain ⟨hl1,hl2,h⟩:=h;have hsub:=sub_zip;have hL1:HasItems t1 (Shared.heap ⟨hp,g,d,tk,os⟩) l1 xs:=hl1;have hL2:HasItems t2 (Shared.heap ⟨hp.push (Wd t1 l1),g,d,tk,os⟩) l2 ys:=hl2.at fun o e=>O6 _ e
  wp_walk using Ws hL1,Ws hL2
  exact ⟨_,rfl,h⟩
section
variable {w:aJ}
theorem Qay {xs ys:Array aA} {Q:aA->aC->Prop} (hl1:HasItems t1 s.heap l1 xs) (hl2:HasItems t2 s.heap l2 ys)
  (h:∀ h',IsZip h' (s.heap.objs.size + 4) (s.heap.objs.size + 2) (s.heap.objs.size + 3) .none->aU h' (s.heap.objs.size + 2) (.ref s.heap.objs.size) (.ref (s.heap.objs.size + 1)) ->
   aU h' (s.heap.objs.size + 3) .none .none->IterAt t1 h' s.heap.objs.size l1 0->IterAt t2 h' (s.heap.objs.size + 1) l2 0->h'.objs.size=s.heap.objs.size + 5 ->
   (∀ c o,s.heap.get? c=some o->h'.get? c=some o)->Q (.ref (s.heap.objs.size + 4)) { s with heap:=h' }) :
  aF (aI prog w) A (call (.type "zip") [.ref l1,.ref l2]) Q E s:=by
 refine callType_new F.called_zip (by decide) (F.typeCall_zip_2 _ _) (F.newCall_zip_2 _ _) (fun obj=>F.args_object_init_3 obj _ _) F.entry_zip_new
  (Q16 t1 t2 l1 l2 xs ys) ⟨hl1,hl2,?_⟩
 have z1:(zH1 t1 s.heap l1).objs.size=s.heap.objs.size + 1:=L3 ..;have z2:(zH2 t1 t2 s.heap l1 l2).objs.size=s.heap.objs.size + 2:=by unfold zH2; rw [L3,z1]
 have z3:(zH3 t1 t2 s.heap l1 l2).objs.size=s.heap.objs.size + 3:=by unfold zH3; rw [L3,z2]
 have z4:(zH4 t1 t2 s.heap l1 l2).objs.size=s.heap.objs.size + 4:=by unfold zH4; rw [L3,z3]
 have z5:(zH5 t1 t2 s.heap l1 l2).objs.size=s.heap.objs.size + 5:=by unfold zH5; rw [L3,z4]
 have g5:(zH5 t1 t2 s.heap l1 l2).get? (zH4 t1 t2 s.heap l1 l2).objs.size=some { cls:=.type "zip",data:=.fields #[.none,.bool false,.bool false,.ref (zH2 t1 t2 s.heap l1 l2).objs.size,.ref (zH3 t1 t2 s.heap l1 l2).objs.size] }:=E9 _ rfl;have g4:(zH5 t1 t2 s.heap l1 l2).get? (zH3 t1 t2 s.heap l1 l2).objs.size=some { cls:=.type "tuple",data:=.seq #[.none,.none] }:=O6 _ (E9 _ rfl);have g3:(zH5 t1 t2 s.heap l1 l2).get? (zH2 t1 t2 s.heap l1 l2).objs.size=some { cls:=.type "tuple",data:=.seq #[.ref s.heap.objs.size,.ref (zH1 t1 s.heap l1).objs.size] }:=O6 _ (O6 _ (E9 _ rfl));have g2:(zH5 t1 t2 s.heap l1 l2).get? (zH1 t1 s.heap l1).objs.size=some (Wd t2 l2):=O6 _ (O6 _ (O6 _ (E9 _ (Xr _ _))));have g1:(zH5 t1 t2 s.heap l1 l2).get? s.heap.objs.size=some (Wd t1 l1):=O6 _ (O6 _ (O6 _ (O6 _ (E9 _ (Xr _ _)))));show _/\_;rw [z2,z3,z4] at g5;rw [z1,z2] at g3;rw [z3] at g4;rw [z1] at g2;rw [z4];exact ⟨⟨_,g5,rfl⟩,h _ g5 g3 g4 (jd g1) (jd g2) z5 fun c o x=>
  O6 _ (O6 _ (O6 _ (O6 _ (O6 _ x))))⟩
end
def SqK (K:PySem.W.Frag) (t:Bool) (H:Hp) (a:aB) (xs:List V):Prop:=if t=true then SqT K H a xs else SqL K H a xs
variable {pins:List (aB × Obj)} {σ:St} {H:Hp}
theorem Inv.seqK {t:Bool} (I:Inv X pins σ H s) (h:SqK X.K t H a xs):∃ its:List aA,Vals xs its/\HasItems t s.heap a its.toArray/\xs.length<=sizeLine:=by
 cases t
 ·obtain ⟨its,r,p,z⟩:=I.list h;exact ⟨its,r,p.isList,z⟩
 ·obtain ⟨its,r,p,z⟩:=I.tuple h;exact ⟨its,r,p,z⟩
theorem Inv.seqK_inj {t:Bool} {ys:List V} (I:Inv X pins σ H s) (h:SqK X.K t H a xs) (h':SqK X.K t H a ys):xs=ys:=by
 cases t
 ·exact I.list_inj h h'
 ·exact I.tuple_inj h h'
theorem Inv.turnedL {t':Nat} {its:List aB} (I:Inv X pins σ H s) (k:∀ b o,b∉its->s.heap.get? b=some o->h'.get? b=some o) (hf:∀ b∈its,Q1y X pins H b):Inv X pins σ H { s with heap:=h',toks:=t' }:=by
 have nit:∀ b u,H b=some u->b∉its:=fun b u e z=>by rw [(hf b z).1] at e; cases e
 refine I.step (g':=s.gens) (d':=s.drawn) (ch:=its) (fun b hb=>?_) (fun b o _ _ hc e _=>k b o hc e) (fun b o _ _ hc e _=>⟨o.slots,k b o hc e⟩) (fun _ _ _ _ n=>n)
  (fun b o hc e=>⟨o,k b o hc e⟩) (fun _ _ e=>e) (fun _ _ _ e=>e) (fun b ps e=>⟨#[],by rw [e]; simp⟩) (fun m hm=>?_) (fun b u e=>?_) I.bare
 ·obtain ⟨f0,f1,f2,f3,f4,f5⟩:=hf b hb;exact ⟨f3,f1,f4,f5⟩
 ·obtain ⟨o,es,ep,ho,r⟩:=hm;exact ⟨o,es,ep,k _ o (fun z=>(hf _ z).2.1 rfl) ho,r⟩
 ·refine (I.hok b u e).stay (fun c v hc q=>k c v ?_ q) (fun _ q=>q) fun _ _ q=>q
  rcases hc with z | z
  ·rw [z]; exact nit b u e
  ·exact nit c _ z
def Itz (K:PySem.W.Frag) (t1 t2:Bool) (a b:aB):It:=
 ⟨fun i H=>∃ xs ys x y,SqK K t1 H a xs/\SqK K t2 H b ys/\xs[i]?=some x/\ys[i]?=some y,
  fun i H v H'=>∃ p x y,H p=none/\v=.ref p/\H'=upd H p (.tup [x,y])/\∀ xs ys,SqK K t1 H a xs->SqK K t2 H b ys->xs[i]?=some x/\ys[i]?=some y,
  fun i H=>∃ xs ys,SqK K t1 H a xs/\SqK K t2 H b ys/\(xs.length<=i\/ys.length<=i)⟩
def Qq5 (t1 t2:Bool) (z TI TO i1 i2 a b:aB) (i:Nat) (h:Heap):Prop:=
 IsZip h z TI TO .none/\aU h TI (.ref i1) (.ref i2)/\(∃ u v,aU h TO u v)/\IterAt t1 h i1 a i/\IterAt t2 h i2 b i
theorem Q2p {a:aA}:∀ v,({ cls:=.type "tuple",data:=.seq #[a,b] }:Obj).data≠.cell v:=fun v z=>by cases z
theorem Qbh {P:aL} {w:aJ} {K:PySem.W.Frag} {elts:List aH} {k:Nat} {pos:Pos} {t1 t2:Bool} {TI TO b:aB} (D:ZipApart z TI TO i1 i2 a b) :
  Turn P w K (.Tuple elts k pos) (Itz K t1 t2 a b) [z,TI,TO,i1,i2] z (Qq5 t1 t2 z TI TO i1 i2 a b) where
 mem:=by simp
 obj:=fun i h st c hc=>by
  obtain ⟨hz,hTI,⟨u,v,hTO⟩,h1,h2⟩:=st;simp at hc;rcases hc with rfl | rfl | rfl | rfl | rfl
  ·exact ⟨_,hz,fun v q=>by cases q⟩
  ·exact ⟨_,hTI,Q2p⟩
  ·exact ⟨_,hTO,Q2p⟩
  ·exact h1.there
  ·exact h2.there
 keep:=fun i h h' st kk=>by
  obtain ⟨hz,hTI,⟨u,v,hTO⟩,h1,h2⟩:=st;exact ⟨kk z (by simp) _ hz,kk TI (by simp) _ hTI,⟨u,v,kk TO (by simp) _ hTO⟩,h1.at fun o e=>kk i1 (by simp) o e,h2.at fun o e=>kk i2 (by simp) o e⟩
 item:=by
  intro X hP hw hK hc i pins s σ H E I hf st hg;subst hP hw hK;obtain ⟨xs,ys,x,y,hq1,hq2,hx,hy⟩:=hg;obtain ⟨hz,hTI,⟨u,v,hTO⟩,h1,h2⟩:=st;obtain ⟨its,rv,p,_⟩:=I.seqK hq1;obtain ⟨its2,rv2,p2,_⟩:=I.seqK hq2;obtain ⟨ux,hux,rux⟩:=rv.get hx;obtain ⟨uy,huy,ruy⟩:=rv2.get hy;refine Q14 D hz hTI hTO h1 h2 p p2 (x:=ux) (y:=uy) (by simpa using hux) (by simpa using huy) fun h' a1 a2 a3 a4 a5 a6 a7=>⟨_,rfl,?_⟩
  refine wpAny_letOwnedTupleGo_zip (s:={ s with heap:=h' }) a1 fun h'' b1 b2=>?_
  have hfr:H s.heap.objs.size=none:=I.fresh;have zlt:z < s.heap.objs.size:=E6 hz;have TIlt:TI < s.heap.objs.size:=E6 hTI;have TOlt:TO < s.heap.objs.size:=E6 hTO;have i1lt:i1 < s.heap.objs.size:=by obtain ⟨o,e,_⟩:=h1.there; exact E6 e
  have i2lt:i2 < s.heap.objs.size:=by obtain ⟨o,e,_⟩:=h2.there; exact E6 e
  have I1:Inv X pins σ H { s with heap:=h'' }:=I.turnedL (t':=s.toks) (its:=[z,TO,i1,i2]) (fun c o hc e=>(b2.2 c (fun q=>hc (by simp [q]))).trans (a7 c o (fun q=>hc (by simp [q])) (fun q=>hc (by simp [q])) (fun q=>hc (by simp [q])) (fun q=>hc (by simp [q])) e))
   fun c hc=>hf c (by simp at hc ⊢; rcases hc with rfl | rfl | rfl | rfl <;> simp)
  have tupAt:aU h'' s.heap.objs.size ux uy:=(b2.2 _ (Nat.ne_of_gt zlt)).trans a5;have fsz:H s.heap.objs.size=none:=hfr;have I2:Inv X pins σ (upd H s.heap.objs.size (.tup [x,y])) { s with heap:=h'' }:=by
   refine ⟨I1.ok,I1.os,I1.bare,?_,I1.loc,I1.cell,?_,?_,?_,?_,I1.len⟩
   ·have u0:=I1.base;have old:∀ c o,X.s₀.heap.get? c=some o->c≠s.heap.objs.size:=fun c o e=>F8 (E4 (E6 e) I.sz)
    exact ⟨u0.keep,u0.slot,fun c o e n hx=>by rw [Q8 (old c o e)]; exact u0.free c o e n hx,u0.there,
     fun c ts e=>by have:=u0.tups c ts e; rw [Q8 (Qa this fsz)]; exact this,
     fun c o ts e=>by have:=u0.frzs c o ts e; rw [Q8 (Qa this fsz)]; exact this,
     fun c ps e=>by obtain ⟨more,q⟩:=u0.tbls c ps e; exact ⟨more,by rw [Q8 (Qa q fsz)]; exact q⟩⟩
   ·rw [Q8 (F8 I.lt)]; exact I.free
   ·intro x' c e;obtain ⟨v',q⟩:=I.cell x' c e;rw [Q8 (F8 q.lt)]; exact I.freeC x' c e
   ·intro p' hp';obtain ⟨e,n,ne,nf,d⟩:=I1.pin p' hp';have e0:=(I.pin p' hp').1;exact ⟨e,by rw [Q8 (F8 (E6 e0))]; exact n,ne,nf,d⟩
   ·intro c o q
    by_cases hcs:c=s.heap.objs.size
    ·subst hcs;rw [Qu] at q; cases q;exact ⟨by simp only [E7,List.length_nil]; rw [sizeLine_eq]; decide,[ux,uy],.cons rux (.cons ruy .nil),⟨_,tupAt,rfl,0,rfl⟩⟩
    ·rw [Q8 hcs] at q;exact (I1.hok c o q).stay (fun _ _ _ r=>r) (fun c' r=>by rw [Q8 (Qa r fsz)]; exact r) fun c' ts r=>by rw [Q8 (Qa r fsz)]; exact r
  refine ⟨.ref s.heap.objs.size,_,I2,rfl,⟨s.heap.objs.size,x,y,fsz,rfl,rfl,fun xs' ys' q1 q2=>?_⟩,?_,fun c hc=>?_⟩
  ·rw [I.seqK_inj q1 hq1,I.seqK_inj q2 hq2]; exact ⟨hx,hy⟩
  ·exact ⟨b1,b2.extBut _ _ D.TIz (a7 _ _ D.TIz D.TITO D.TIi1 D.TIi2 hTI),⟨_,_,b2.extBut _ _ D.TOz a2⟩,a3.at fun o e=>b2.extBut _ _ D.i1z e,a4.at fun o e=>b2.extBut _ _ D.i2z e⟩
  ·have:=(hf c hc).1;have clt:c < s.heap.objs.size:=by simp at hc; rcases hc with rfl | rfl | rfl | rfl | rfl <;> assumption
   rw [Q8 (F8 clt)]; exact this
 done:=by
  intro X hP hw hK hc i pins s σ H E I hf st hg;subst hP hw hK;obtain ⟨xs,ys,hq1,hq2,hend⟩:=hg;obtain ⟨hz,hTI,⟨u,v,hTO⟩,h1,h2⟩:=st;obtain ⟨its,rv,p,_⟩:=I.seqK hq1;obtain ⟨its2,rv2,p2,_⟩:=I.seqK hq2;have l1:=rv.length;have l2:=rv2.length;refine Q29 (I.ok.hd hc) D hz hTI hTO h1 h2 p p2 (hend.elim (fun h=>.inl (by simp; omega)) fun h=>.inr (by simp; omega)) fun h' kk=>⟨rfl,?_⟩
  exact I.turnedL (t':=s.toks) (its:=[z,TO,i1,i2]) (fun c o hc e=>kk c o (fun q=>hc (by simp [q])) (fun q=>hc (by simp [q])) (fun q=>hc (by simp [q])) (fun q=>hc (by simp [q])) e)
   fun c hc=>hf c (by simp at hc ⊢; rcases hc with rfl | rfl | rfl | rfl <;> simp)
 self:=fun _ _ _ _ _ st h=>wpAny_pyIter_zip st.1 h
def Qv3 (K:PySem.W.Frag) (t1 t2:Bool) (ta:TA):TI:=fun σ H R=>ta σ H fun vs H1=>∃ a b xs ys,vs=[.ref a,.ref b]/\SqK K t1 H1 a xs/\SqK K t2 H1 b ys/\R (Itz K t1 t2 a b) H1
theorem Qf7:aW "zip" = some (.type "zip"):=by decide +kernel
theorem Qm5 (t1 t2:Bool) {a b:aH} {p pos:Pos} {elts:List aH} {k:Nat} {tp:Pos} (hg:Gl X "zip") (hm:X.mg "zip" = none) (ha:PA X [a,b] ta) (hs:aN [a,b] X.env=[(false,aM a X.env),(false,aM b X.env)]:=by rfl) (hs2:aN [b] X.env=[(false,aM b X.env)]:=by rfl) :
  PI X (.Tuple elts k tp) (.Call (.Name "zip" p) [a,b] [] pos) (Qv3 X.K t1 t2 ta):=by
 intro pins s σ H R I h;refine Call_ (jc I hg hm Qf7 (PyProof.Rows.callWith_type1 (thn (ha pos pins s σ H _ I h) fun us s1 ⟨vs,H1,I1,r1,q1⟩=>?_) (by rw [hs,hs2]) (by rw [hs2]; rfl)))
 obtain ⟨a',b',xs,ys,e,q1,q2,q⟩:=q1;subst e;cases r1 with
 | cons r rr=>
  cases rr with
  | cons r' rr=>
   cases rr;cases r;cases r';obtain ⟨its,rv,p1,_⟩:=I1.seqK q1;obtain ⟨its2,rv2,p2,_⟩:=I1.seqK q2;refine Qay p1 p2 fun h' z1 z2 z3 z4 z5 z6 z7=>?_
   refine wpAny_pyIter_zip (s:={ s1 with heap:=h' }) z1 ?_;have lta:a' < s1.heap.objs.size:=by obtain ⟨o,e⟩:=p1.there; exact E6 e
   have ltb:b' < s1.heap.objs.size:=by obtain ⟨o,e⟩:=p2.there; exact E6 e
   have D:ZipApart (s1.heap.objs.size + 4) (s1.heap.objs.size + 2) (s1.heap.objs.size + 3) s1.heap.objs.size (s1.heap.objs.size + 1) a' b':=by
    constructor <;> (intro z; unfold aB at *; omega)
   refine ⟨_,[s1.heap.objs.size + 4,s1.heap.objs.size + 2,s1.heap.objs.size + 3,s1.heap.objs.size,s1.heap.objs.size + 1],_,_,H1,rfl,I1.kept (t':=s1.toks) z7,Qbh (t1:=t1) (t2:=t2) D,⟨z1,z2,⟨_,_,z3⟩,z4,z5⟩,fun c hc=>?_,q⟩
   have hc':s1.heap.objs.size<=c:=by simp at hc; unfold aB at *; omega
   exact I1.fpOk hc' (I1.hok.fresh hc')
theorem Q3f {prog:aL} {w:aJ} (hh:A.handled=none) (t:Bool) (I ax:aB) (hne:ax≠I) (items:Array aA) :
  Walks prog w A I [I,ax] [I] items.size (fun i v=>items[i]?=some v) (fun i h=>IterAt t h I ax i/\HasItems t h ax items):=by
 cases t
 ·exact Walks.list hh I ax hne items
 ·exact Walks.tuple hh I ax hne items
theorem zj {α:Type} (l:List α) (d:α) {n:Nat} (h:n < l.length):l.getD n d=l[n]:=by simp [List.getD,h]
theorem Q5c (ns:List Int):preSum (fun j=>ns.getD j 0) ns.length=ns.sum:=by
 have key:∀ (k:Nat),k<=ns.length->preSum (fun j=>ns.getD j 0) k=(ns.take k).sum:=by
  intro k
  induction k with
  | zero=>intro _; rfl
  | succ k ih=>
   intro hk;show preSum _ k + ns.getD k 0=_;have hlt:k < ns.length:=by omega
   rw [ih (by omega),List.take_succ,List.sum_append,zj _ _ hlt,O2 hlt];simp
 rw [key ns.length (O8 _),List.take_length]
theorem Inv.movedNew {s':aC} (I:Inv X pins σ H s) {o:Obj} (m:Moved [s.heap.objs.size] (fun a b=>b=a) { s with heap:=s.heap.push o } s'):Inv X pins σ H s':=by
 obtain ⟨m1,m2,m3,m4,m5⟩:=m;obtain ⟨h',g',d',t',o'⟩:=s';have e1:g'=s.gens:=m2;have e2:d'=s.drawn:=m3;have e3:o'=s.os:=m4;subst e1 e2 e3;refine I.kept (t':=t') fun b u e=>m1 b u (fun z=>?_) (O6 _ e)
 have:b=s.heap.objs.size:=by simpa using z
 exact absurd (E6 e) (by rw [this]; exact Nat.lt_irrefl _)
theorem Kg {its:List aA} (r:Vals (ns.map V.int) its):∀ (i:Nat) (v:aA),its.toArray[i]?=some v->∃ t,v=Value.int (ns.getD i 0) t:=fun i v e=>by
 have e':its[i]?=some v:=by simpa using e
 have hi:i < its.length:=(O0.mp e').1;have hl:=r.length;rw [O1] at hl;have hn:(ns.map V.int)[i]?=some (V.int (ns.getD i 0)):=by
  have:i < ns.length:=by omega
  simp [List.getD,this]
 obtain ⟨u,hu,t,ru⟩:=r.get hn;rw [e'] at hu;cases hu;exact ⟨t,ru⟩
theorem Qb7 {bs:List Bool} {its:List aA} (r:Vals (bs.map V.bl) its):∀ (i:Nat) (v:aA),its.toArray[i]?=some v->v=Value.bool (bs.getD i false):=fun i v e=>by
 have e':its[i]?=some v:=by simpa using e
 have hi:i < its.length:=(O0.mp e').1;have hl:=r.length;rw [O1] at hl;have hn:(bs.map V.bl)[i]?=some (V.bl (bs.getD i false)):=by
  have:i < bs.length:=by omega
  simp [List.getD,this]
 obtain ⟨u,hu,ru⟩:=r.get hn;rw [e'] at hu;cases hu;exact ru
theorem Vk {t:Bool} {items:Array aA} (hl:HasItems t s.heap l items):l≠s.heap.objs.size /\
  (IterAt t (s.heap.push (Wd t l)) s.heap.objs.size l 0/\HasItems t (s.heap.push (Wd t l)) l items)/\∀ b∈[s.heap.objs.size,l],b < (s.heap.push (Wd t l)).objs.size:=by
 obtain ⟨o,e⟩:=hl.there;have hlt:=E6 e;refine ⟨F8 hlt,⟨jd (E9 _ (Xr _ _)),hl.at fun o e=>O6 _ e⟩,fun b hb=>?_⟩
 rw [L3];simp at hb;rcases hb with rfl | rfl
 ·exact Nat.lt_succ_self _
 ·exact Nat.lt_succ_of_lt hlt
theorem Qf0 (t:Bool) (hc:X.calm=true):Vh X (.builtin "sum") (fun xs H Q=>∃ (a:aB) (ns:List Int),xs=[.ref a]/\SqK X.K t H a (ns.map V.int)/\Q (.int ns.sum) H):=by
 intro pins s σ H xs us Q I r h;obtain ⟨a,ns,rfl,hq,q⟩:=h;obtain ⟨u,rfl,r1⟩:=qp r;cases r1;obtain ⟨its,rv,p,_⟩:=I.seqK hq;obtain ⟨w1,w2,w3⟩:=Vk p;have hl:=rv.length;rw [O1] at hl;refine call_sum_walkAnyS (Ws p ⟨_,_,_,_,_,_,_,fun j=>ns.getD j 0,rfl,(Q3f (A:=X.A.in1) (I.ok.hd hc) t _ a w1 its.toArray).toS,w2,w3,Kg rv,fun s' t' m=>?_⟩);refine ⟨.int ns.sum,H,I.movedNew m,⟨t',?_⟩,q⟩;rw [D3,<- hl,Q5c]
theorem Qa1 (bs:List Bool):(List.range bs.length).all (fun i=>bs.getD i false)=bs.all id:=by
 induction bs with
 | nil=>rfl
 | cons b r ih=>
  rw [E7,List.range_succ_eq_map,List.all_cons,List.all_map,List.all_cons,<- ih];rfl
theorem Qf1 (t:Bool) (hc:X.calm=true):Vh X (.builtin "all") (fun xs H Q=>∃ (a:aB) (bs:List Bool),xs=[.ref a]/\SqK X.K t H a (bs.map V.bl)/\Q (.bl (bs.all id)) H):=by
 intro pins s σ H xs us Q I r h;obtain ⟨a,bs,rfl,hq,q⟩:=h;obtain ⟨u,rfl,r1⟩:=qp r;cases r1;obtain ⟨its,rv,p,_⟩:=I.seqK hq;obtain ⟨w1,w2,w3⟩:=Vk p;have hl:=rv.length;rw [O1] at hl;refine call_all_walkS (Ws p ⟨_,_,_,_,_,_,_,fun j=>bs.getD j false,rfl,(Q3f (A:=X.A.in1) (I.ok.hd hc) t _ a w1 its.toArray).toS,w2,fun i v s' Q' E' hv hQ=>?_,fun s' m=>?_⟩)
 ·rw [Qb7 rv i v hv];exact az hQ
 ·refine ⟨.bl (bs.all id),H,I.movedNew m,?_,q⟩;show Value.bool _=_;rw [D3,<- hl,Qa1]
theorem Qb1 (t:Bool) (hc:X.calm=true):Vh X (.builtin "max") (fun xs H Q=>∃ (a:aB) (ns:List Int),xs=[.ref a]/\SqK X.K t H a (ns.map V.int)/\ns≠[]/\∀ m,m∈ns->(∀ k,k∈ns->k<=m)->Q (.int m) H):=by
 intro pins s σ H xs us Q I r h;obtain ⟨a,ns,rfl,hq,hne,q⟩:=h;obtain ⟨u,rfl,r1⟩:=qp r;cases r1;obtain ⟨its,rv,p,_⟩:=I.seqK hq;obtain ⟨w1,w2,w3⟩:=Vk p;have hl:=rv.length;rw [O1] at hl;have hpos:0 < ns.length:=List.length_pos_iff.mpr hne;refine call_max_walkS (Ws p ⟨_,_,_,_,_,_,_,_,rfl,(Q3f (A:=X.A.in1) (I.ok.hd hc) t _ a w1 its.toArray).toS,w2,w3,by rw [D3]; omega,CmpOf.ints_gt (fun j=>ns.getD j 0) (fun i v hv=>Kg rv i v hv),fun v s' hv m=>?_⟩);obtain ⟨t',rfl⟩:=Kg rv _ _ hv;obtain ⟨h1,h2⟩:=argBest_gt (fun j=>ns.getD j 0) (its.toArray.size - 1);have hb:argBest (fun i j=>decide (ns.getD i 0 > ns.getD j 0)) (its.toArray.size - 1) < ns.length:=by
  have e':its.toArray.size=ns.length:=by rw [D3]; omega
  rw [e'] at h1 ⊢;exact Nat.lt_of_le_of_lt h1 (by omega)
 refine ⟨.int (ns.getD (argBest (fun i j=>decide (ns.getD i 0 > ns.getD j 0)) (its.toArray.size - 1)) 0),H,I.movedNew m,⟨t',rfl⟩,q _ ?_ fun k hk=>?_⟩
 ·rw [zj _ _ hb];exact F5 hb
 ·obtain ⟨j,hj,rfl⟩:=List.mem_iff_getElem.mp hk;have:=h2 j (by rw [D3]; omega);rw [zj _ _ hj] at this;exact this
theorem Qaz (t:Bool) (hc:X.calm=true):Vh X (.builtin "min") (fun xs H Q=>∃ (a:aB) (ns:List Int),xs=[.ref a]/\SqK X.K t H a (ns.map V.int)/\ns≠[]/\∀ m,m∈ns->(∀ k,k∈ns->m<=k)->Q (.int m) H):=by
 intro pins s σ H xs us Q I r h;obtain ⟨a,ns,rfl,hq,hne,q⟩:=h;obtain ⟨u,rfl,r1⟩:=qp r;cases r1;obtain ⟨its,rv,p,_⟩:=I.seqK hq;obtain ⟨w1,w2,w3⟩:=Vk p;have hl:=rv.length;rw [O1] at hl;have hpos:0 < ns.length:=List.length_pos_iff.mpr hne;refine call_min_walkS (Ws p ⟨_,_,_,_,_,_,_,_,rfl,(Q3f (A:=X.A.in1) (I.ok.hd hc) t _ a w1 its.toArray).toS,w2,w3,by rw [D3]; omega,CmpOf.ints_lt (fun j=>ns.getD j 0) (fun i v hv=>Kg rv i v hv),fun v s' hv m=>?_⟩);obtain ⟨t',rfl⟩:=Kg rv _ _ hv;obtain ⟨h1,h2⟩:=argBest_lt (fun j=>ns.getD j 0) (its.toArray.size - 1);have hb:argBest (fun i j=>decide (ns.getD i 0 < ns.getD j 0)) (its.toArray.size - 1) < ns.length:=by
  have e':its.toArray.size=ns.length:=by rw [D3]; omega
  rw [e'] at h1 ⊢;exact Nat.lt_of_le_of_lt h1 (by omega)
 refine ⟨.int (ns.getD (argBest (fun i j=>decide (ns.getD i 0 < ns.getD j 0)) (its.toArray.size - 1)) 0),H,I.movedNew m,⟨t',rfl⟩,q _ ?_ fun k hk=>?_⟩
 ·rw [zj _ _ hb];exact F5 hb
 ·obtain ⟨j,hj,rfl⟩:=List.mem_iff_getElem.mp hk;have:=h2 j (by rw [D3]; omega);rw [zj _ _ hj] at this;exact this
theorem Qnz {prog:aL} {w:aJ} (hh:A.handled=none) (t:Bool) (it l:aB) (hne:l≠it) (items:Array aA) :
  Draws prog w A it [it,l] items.size (fun i v=>items[i]?=some v) (fun i h=>IterAt t h it l i/\HasItems t h l items) where
 live:=fun _ _ st=>let ⟨o,e,_⟩:=st.1.there; ⟨o,e⟩
 frame:=fun _ _ _ st hk=>⟨st.1.at fun o e=>hk it (by simp) o e,st.2.at fun o e=>hk l (by simp) o e⟩
 item:=fun i s Q E hi st hQ=>by
  refine Uc st.1 st.2 (x:=items[i]) (by simp [hi]) fun h' hit' hs'=>?_
  exact hQ _ h' s.toks (by simp [hi]) ⟨hit',st.2.at fun o e=>hs'.extBut _ _ hne e⟩ hs'
 done:=fun s Q E st hE=>Xj hh st.1 st.2 (by simp) hE
theorem Q5v (l:aB) (items:Array aA) (n:Nat) (dct:Option aB) (sl:Array (Option aA)) :
  Meets (Builtin.«enumerate.__new__» ⟨[.type "enumerate",.ref l],[]⟩) (fun _ R s=>s.heap.get? l=some { cls:=.type "tuple",dict:=dct,data:=.seq items n,slots:=sl } /\
   R (.ok (.ret (.ref (s.heap.push { cls:=.type "tuple_iterator",data:=.fields #[.ref l,.int 0 0] }).objs.size)))
    { s with heap:=(s.heap.push { cls:=.type "tuple_iterator",data:=.fields #[.ref l,.int 0 0] }).push { cls:=.type "enumerate",data:=.fields #[.none,.bool false,.ref s.heap.objs.size,ae 0,.none,.none] } }):=
 .of_wp fun prog w A R s h=>by
  obtain ⟨hp,g,d,tk,os⟩:=s; obtain ⟨hl,h⟩:=h;have hsub:=sub_enumerate;have hL:Heap.IsTuple (Shared.heap ⟨hp,g,d,tk,os⟩) l items:=⟨_,hl,rfl,n,rfl⟩
  wp_walk using AutoSeq1.wpAny_loadPart' hl
  refine wpAny_stack_any fun st=>wpAny_pure ?_
  split
  ·rename_i c _ _ _ _ _;cases (c == Value.type "enumerate")
   ·wp_walk using AutoSeq1.wpAny_loadPart' hl,bJ hL
    exact ⟨_,rfl,h⟩
   ·wp_walk using AutoSeq1.wpAny_loadPart' hl,bJ hL
    exact ⟨_,rfl,h⟩
  ·wp_walk using AutoSeq1.wpAny_loadPart' hl,bJ hL
   exact ⟨_,rfl,h⟩
section
variable {w:aJ}
theorem Q7s {items:Array aA} {Q:aA->aC->Prop} (hL:s.heap.IsTuple l items)
  (h:∀ h',IsEnum h' (s.heap.objs.size + 1) s.heap.objs.size 0 .none->h'.IsTupleIter s.heap.objs.size l 0->h'.objs.size=s.heap.objs.size + 2 ->
   (∀ b o,s.heap.get? b=some o->h'.get? b=some o)->Q (.ref (s.heap.objs.size + 1)) { s with heap:=h' }) :
  aF (aI prog w) A (call (.type "enumerate") [.ref l]) Q E s:=by
 obtain ⟨⟨c,dct,dt,sl⟩,hl,hc,n,hd⟩:=hL;replace hc:c=.type "tuple" := hc;replace hd:dt=.seq items n:=hd;subst hc hd;refine callType_new F.called_enumerate (by decide) (F.typeCall_enumerate_1 _) (F.newCall_enumerate_1 _) (fun obj=>F.args_object_init_2 obj _) F.entry_enumerate_new
  (Q5v l items n dct sl) ⟨hl,?_⟩
 have hz:(s.heap.push { cls:=.type "tuple_iterator",data:=.fields #[.ref l,.int 0 0] }).objs.size=s.heap.objs.size + 1:=L3 ..;show _/\_;rw [hz];have he:IsEnum ((s.heap.push { cls:=.type "tuple_iterator",data:=.fields #[.ref l,.int 0 0] }).push
   { cls:=.type "enumerate",data:=.fields #[.none,.bool false,.ref s.heap.objs.size,ae 0,.none,.none] }) (s.heap.objs.size + 1) s.heap.objs.size 0 .none:=by
  have:=E9 (s.heap.push { cls:=.type "tuple_iterator",data:=.fields #[.ref l,.int 0 0] })
   (o:={ cls:=.type "enumerate",data:=.fields #[.none,.bool false,.ref s.heap.objs.size,ae 0,.none,.none] }) rfl
  rw [hz] at this; exact this
 refine ⟨⟨_,he,rfl⟩,h _ he ⟨_,O6 _ (E9 _ rfl),rfl,rfl⟩ (by rw [L3,hz]) fun b o x=>O6 _ (O6 _ x)⟩
theorem Q7t {t:Bool} {items:Array aA} {Q:aA->aC->Prop} (hL:HasItems t s.heap l items)
  (h:∀ h',IsEnum h' (s.heap.objs.size + 1) s.heap.objs.size 0 .none->IterAt t h' s.heap.objs.size l 0->h'.objs.size=s.heap.objs.size + 2 ->
   (∀ b o,s.heap.get? b=some o->h'.get? b=some o)->Q (.ref (s.heap.objs.size + 1)) { s with heap:=h' }) :
  aF (aI prog w) A (call (.type "enumerate") [.ref l]) Q E s:=by
 cases t
 ·exact call_enumerate_list hL h
 ·exact Q7s hL h
end
def Ite (K:PySem.W.Frag) (t:Bool) (a:aB):It:=
 ⟨fun i H=>∃ xs x,SqK K t H a xs/\xs[i]?=some x,
  fun i H v H'=>∃ p x,H p=none/\v=.ref p/\H'=upd H p (.tup [.int i,x])/\∀ xs,SqK K t H a xs->xs[i]?=some x,
  fun i H=>∃ xs,SqK K t H a xs/\xs.length<=i⟩
theorem Inv.tracks {s1:aC} {p:aB} {its:List aA} (I:Inv X pins σ H s) (I1:Inv X pins σ H s1) (hp:s.heap.objs.size<=p) (hn:H p=none) (rv:Vals xs its) (hz:xs.length<=sizeLine)
  (ht:IsTup s1.heap p its.toArray):Inv X pins σ (upd H p (.tup xs)) s1:=by
 refine ⟨I1.ok,I1.os,I1.bare,?_,I1.loc,I1.cell,?_,?_,?_,?_,I1.len⟩
 ·have u0:=I1.base;have old:∀ c o,X.s₀.heap.get? c=some o->c≠p:=fun c o e=>F8 (E4 (E6 e) (F6 I.sz hp))
  exact ⟨u0.keep,u0.slot,fun c o e n hx=>by rw [Q8 (old c o e)]; exact u0.free c o e n hx,u0.there,
   fun c ts e=>by have:=u0.tups c ts e; rw [Q8 (Qa this hn)]; exact this,
   fun c o ts e=>by have:=u0.frzs c o ts e; rw [Q8 (Qa this hn)]; exact this,
   fun c ps e=>by obtain ⟨more,q⟩:=u0.tbls c ps e; exact ⟨more,by rw [Q8 (Qa q hn)]; exact q⟩⟩
 ·rw [Q8 (F8 (E4 I.lt hp))]; exact I.free
 ·intro x' c e;obtain ⟨v',q⟩:=I.cell x' c e;rw [Q8 (F8 (E4 q.lt hp))]; exact I.freeC x' c e
 ·intro p' hp';obtain ⟨e,n,ne,nf,d⟩:=I1.pin p' hp';have e0:=(I.pin p' hp').1;exact ⟨e,by rw [Q8 (F8 (E4 (E6 e0) hp))]; exact n,ne,nf,d⟩
 ·intro c o q
  by_cases hcs:c=p
  ·subst hcs;rw [Qu] at q; cases q;exact ⟨hz,its,rv,ht⟩
  ·rw [Q8 hcs] at q;exact (I1.hok c o q).stay (fun _ _ _ r=>r) (fun c' r=>by rw [Q8 (Qa r hn)]; exact r) fun c' ts r=>by rw [Q8 (Qa r hn)]; exact r
def Qnx (t:Bool) (e it a:aB) (i:Nat) (h:Heap):Prop:=(∃ old,IsEnum h e it i old)/\IterAt t h it a i
theorem Q9p {P:aL} {w:aJ} {K:PySem.W.Frag} {elts:List aH} {k:Nat} {pos:Pos} {t:Bool} {e:aB} (hei:e≠it) (hae:a≠e) (hai:a≠it) :
  Turn P w K (.Tuple elts k pos) (Ite K t a) [e,it] e (Qnx t e it a) where
 mem:=by simp
 obj:=fun i h st c hc=>by
  obtain ⟨⟨old,he⟩,h1⟩:=st;simp at hc;rcases hc with rfl | rfl
  ·exact ⟨_,he,fun v q=>by cases q⟩
  ·exact h1.there
 keep:=fun i h h' st kk=>by
  obtain ⟨⟨old,he⟩,h1⟩:=st;exact ⟨⟨old,kk e (by simp) _ he⟩,h1.at fun o q=>kk it (by simp) o q⟩
 item:=by
  intro X hP hw hK hc i pins s σ H E I hf st hg;subst hP hw hK;obtain ⟨xs,x,hq1,hx⟩:=hg;obtain ⟨⟨old,he⟩,h1⟩:=st;obtain ⟨its,rv,p,_⟩:=I.seqK hq1;obtain ⟨ux,hux,rux⟩:=rv.get hx;have hlt:i < its.toArray.size:=by rw [D3]; exact (O0.mp hux).1
  refine wpAny_pyNext_enum_itemD (Qnz (A:=X.A.in1) (I.ok.hd hc) t it a hai its.toArray) he ⟨h1,p⟩ hlt hei (by simp; exact ⟨hei,fun z=>hae z.symm⟩) fun x' h' tk hx' ho hs' hT hsz hk=>⟨_,rfl,?_⟩
  have:x'=ux:=by
   have e1:its[i]?=some x':=by simpa using hx'
   rw [hux] at e1; exact (Option.some.inj e1).symm
  subst this;refine wpAny_letOwnedTupleGo_enum (s:={ s with heap:=h',toks:=tk + 1 }) ho fun h'' he' hs''=>?_
  have elt:e < s.heap.objs.size:=E6 he;have ilt:it < s.heap.objs.size:=by obtain ⟨o,q,_⟩:=h1.there; exact E6 q
  have hfr:H s.heap.objs.size=none:=I.fresh;have I1:Inv X pins σ H { s with heap:=h'',toks:=tk + 1 }:=I.turnedL (its:=[e,it]) (fun c o hc' q=>(hs''.2 c (fun z=>hc' (by simp [z]))).trans (hk c o (fun z=>hc' (by simp [z])) (fun z=>hc' (by simp [z])) q)) fun c hc'=>hf c hc'
  have tupAt:h''.get? s.heap.objs.size=some { cls:=.type "tuple",data:=.seq #[.int i tk,x'] }:=(hs''.2 _ (Nat.ne_of_gt elt)).trans hT;have I2:=I.tracks (xs:=[.int i,x]) (its:=[.int i tk,x']) I1 (O8 _) hfr (.cons ⟨tk,rfl⟩ (.cons rux .nil)) (by simp only [E7,List.length_nil]; rw [sizeLine_eq]; decide) ⟨_,tupAt,rfl,0,rfl⟩;refine ⟨.ref s.heap.objs.size,_,I2,rfl,⟨s.heap.objs.size,x,hfr,rfl,rfl,fun xs' q1=>?_⟩,?_,fun c hc'=>?_⟩
  ·rw [I.seqK_inj q1 hq1]; exact hx
  ·exact ⟨⟨x',by simpa using he'⟩,hs'.1.at fun o q=>hs''.extBut _ _ (Ne.symm hei) q⟩
  ·have:=(hf c hc').1;have clt:c < s.heap.objs.size:=by simp at hc'; rcases hc' with rfl | rfl <;> assumption
   rw [Q8 (F8 clt)]; exact this
 done:=by
  intro X hP hw hK hc i pins s σ H E I hf st hg;subst hP hw hK;obtain ⟨xs,hq1,hend⟩:=hg;obtain ⟨⟨old,he⟩,h1⟩:=st;obtain ⟨its,rv,p,_⟩:=I.seqK hq1;have hl:=rv.length;have hT:s.TypeIs (.ref e) "enumerate" := ⟨_,he,rfl⟩;unfold au;refine aD (wpAny_attempt (wpAny_callSpecial?_slot (name:=Str.ofString "__next__") hT F.slot_enumerate_next
   (ag F.slot_enumerate_next hT F.entry_enumerate_next ?_ (F.args_enumerate_next_1 _))))
  show aF _ _ (field (.ref e) 2 >>= _) _ _ _;refine aD (aY he rfl (x:=.ref it) rfl ?_);refine aD (Xj (I.ok.hd hc) h1 p (by simp; omega) fun h' x he' hx'=>?_)
  obtain ⟨o,ho,hc'⟩:=hx';refine aD (bK (T := "StopIteration") (b:=true) ⟨o,ho,hc'⟩ isSubtype_stop ?_);exact wpAny_pure ⟨rfl,I.turnedL (t':=s.toks) (its:=[it]) (fun c o hc2 q=>he' c o (fun z=>hc2 (by simp [z])) q) fun c hc2=>hf c (by simp at hc2; simp [hc2])⟩
 self:=fun _ _ _ _ _ st h=>by
  obtain ⟨⟨old,he⟩,_⟩:=st;exact wpAny_pyIter_enum he h
def Qsc (K:PySem.W.Frag) (t:Bool) (ta:TA):TI:=fun σ H R=>ta σ H fun vs H1=>∃ a xs,vs=[.ref a]/\SqK K t H1 a xs/\R (Ite K t a) H1
theorem Q1r:aW "enumerate" = some (.type "enumerate"):=by decide +kernel
theorem Qh1 (t:Bool) {a:aH} {p pos:Pos} {elts:List aH} {k:Nat} {tp:Pos} (hg:Gl X "enumerate") (hm:X.mg "enumerate" = none) (ha:PA X [a] ta) (hs:aN [a] X.env=[(false,aM a X.env)]:=by rfl) :
  PI X (.Tuple elts k tp) (.Call (.Name "enumerate" p) [a] [] pos) (Qsc X.K t ta):=by
 intro pins s σ H R I h;refine Call_ (jc I hg hm Q1r (PyProof.Rows.callWith_type1 (thn (ha pos pins s σ H _ I h) fun us s1 ⟨vs,H1,I1,r1,q1⟩=>?_) hs rfl))
 obtain ⟨a',xs,e,q1,q⟩:=q1;subst e;obtain ⟨u,rfl,r⟩:=qp r1;cases r;obtain ⟨its,rv,p1,_⟩:=I1.seqK q1;refine Q7t p1 fun h' z1 z2 z3 z4=>?_
 refine wpAny_pyIter_enum (s:={ s1 with heap:=h' }) z1 ?_;have lta:a' < s1.heap.objs.size:=by obtain ⟨o,e⟩:=p1.there; exact E6 e
 refine ⟨_,[s1.heap.objs.size + 1,s1.heap.objs.size],_,_,H1,rfl,I1.kept (t':=s1.toks) z4,Q9p (t:=t) (Nat.ne_of_gt (Nat.lt_succ_self _)) (F8 (Nat.lt_succ_of_lt lta)) (F8 lta),⟨⟨_,z1⟩,z2⟩,fun c hc=>?_,q⟩
 have hc':s1.heap.objs.size<=c:=by simp at hc; unfold aB at *; omega
 exact I1.fpOk hc' (I1.hok.fresh hc')
theorem Q54 (h:H a=none):Same H (upd H a o):=fun b u e=>by rw [Q8 (Qa e h)]; exact e
variable {te:TE} {H1:Hp} {Q:VK}
section
variable {cap:List (Option Nat)}
abbrev g2 (K:PySem.W.Frag):TG:=Qsh K 2 (Qea (Q66 0) (Qea (Q66 1) Qsi))
end
def Qsw:V->Option aA
 | .ty n=>some (.type n)
 | .ref a=>some (.ref a)
 | _=>none
theorem Qey {c:V} {cv u:aA} (e:Qsw c=some cv) (r:RelV c u):u=cv:=by
 cases c with
 | ty n=>cases e; exact r
 | ref a=>cases e; exact r
 | _=>cases e
theorem Q6g:Vh X (.builtin "isinstance") (fun xs H Q=>∃ x c cv t b,xs=[x,c]/\Qsw c=some cv/\TyOf X.K H x t/\PySem.W.kitOne X.K t cv=some b/\Q (.bl b) H):=by
 intro pins s σ H xs us Q I r h;obtain ⟨x,c,cv,t,b,rfl,hc,ty,e,q⟩:=h;obtain ⟨u,w',rfl,r1,r2⟩:=Qbf r;rw [Qey hc r2];exact Qak I r1 ty e fun tk=>⟨.bl b,H,I.tok tk,rfl,q⟩
theorem xq:aW "isinstance" = some (.builtin "isinstance"):=by decide +kernel
theorem Qf8:aW "sum" = some (.builtin "sum"):=by decide +kernel
theorem Qfc:aW "all" = some (.builtin "all"):=by decide +kernel
theorem Qfa:aW "max" = some (.builtin "max"):=by decide +kernel
theorem Qf9:aW "min" = some (.builtin "min"):=by decide +kernel
theorem Q7u:aW "tuple" = some (.type "tuple"):=by decide +kernel
theorem Q38:aW "list" = some (.type "list"):=by decide +kernel
theorem Qfb:aW "int" = some (.type "int"):=by decide +kernel
theorem Qb6:aW "bool" = some (.type "bool"):=by decide +kernel
theorem ObjOk.there {w:aJ} (x:ObjOk P w H h a o):∃ u,h.get? a=some u:=by
 cases o with
 | lst xs=>obtain ⟨_,_,_,_,e⟩:=x; exact ⟨_,e⟩
 | tup xs=>obtain ⟨_,_,_,o,e,_⟩:=x; exact ⟨o,e⟩
 | dK kvs=>obtain ⟨_,_,_,_,o,_,_,e,_⟩:=x; exact ⟨o,e⟩
 | dT kvs=>obtain ⟨_,_,_,_,o,_,_,e,_⟩:=x; exact ⟨o,e⟩
 | set S n=>obtain ⟨o,_,_,_,e,_⟩:=x; exact ⟨o,e⟩
 | ins C dx fs=>obtain ⟨_,_,_,e,_⟩:=x; exact ⟨_,e⟩
 | own y=>exact x
 | xd fs=>obtain ⟨_,⟨o,_,_,e,_⟩,_⟩:=x; exact ⟨o,e⟩
 | rng lo hi=>obtain ⟨_,_,_,e⟩:=x; exact ⟨_,e⟩
 | frz ob u=>obtain ⟨e,_⟩:=x; exact ⟨_,e⟩
 | tbl ps=>exact ⟨_,x⟩
 | met f y=>exact ⟨_,x⟩
 | ext φ=>exact x.2.1
theorem HOk.none_of {w:aJ} (x:HOk P w H h) (e:h.get? a=none):H a=none:=by
 cases q:H a with
 | none=>rfl
 | some o=>
  obtain ⟨u,z⟩:=(x a o q).there;rw [e] at z;cases z
structure Fly (P:aL) (w:aJ) (outer:List Env) (H H':Hp) (s s':aC) (a:aB) (cls a0:aA) (B:Heap):Prop where
 os:s'.os=s.os
 bare:AllBare s'.gens
 fl:Heap.FlyingW B outer a cls a0 s'.heap
 hokB:HOk P w H' B
 keep:∀ b o,s.heap.get? b=some o->H b=none->b∉frs outer->B.get? b=some o
 there:∀ b o,s.heap.get? b=some o->b∉frs outer->∃ o',B.get? b=some o'
 slot:∀ b o,s.heap.get? b=some o->b∈frs outer->∃ sl,s'.heap.get? b=some { o with slots:=sl }
 free:∀ b o,s.heap.get? b=some o->H b=none->H' b=none
 tups:∀ b xs,H b=some (.tup xs)->H' b=some (.tup xs)
 frzs:∀ b o u,H b=some (.frz o u)->H' b=some (.frz o u)
 tbls:∀ b ps,H b=some (.tbl ps)->∃ more,H' b=some (.tbl (ps ++ more))
@[inline,reducible]def Qfd:List aA:=[.type "ValueError",.type "Exception",.type "BaseException",.type "object"]
theorem Qhd {C:aB} {bmB:List aA} {newId:String} (X:K.In h) (m:mg x=some (.ref C)) (q:PySem.W.excIn K C bmB newId=true):OwnCls x C bmB newId mg h:=by
 refine ⟨m,?_⟩;unfold PySem.W.excIn at q
 split at q
 ·rename_i dd cd sl ho
  split at q
  ·rename_i C' bm k0 k1 k2 k3 n k5 hm hs;simp only [L8,beq_iff_eq,Bool.not_eq_true'] at q;obtain ⟨⟨⟨⟨⟨rfl,rfl⟩,hdel⟩,ht⟩,hok⟩,hni⟩:=q;obtain ⟨nm,bs,mro,ns,qn,hd,sn,sub,ab,col,del⟩:=cd;dsimp only at hm hdel hok hni;subst hm hdel;have hsl:sl=#[k0,k1,k2,k3,some (.builtin n),k5]:=by
    obtain ⟨l⟩:=sl;simp only at hs;rw [hs]
   subst hsl;exact ⟨bm,ns,nm,qn,bs,hd,sn,sub,ab,col,dd,k0,k1,k2,k3,k5,_,X _ _ ho,.of_isNs (PySem.W.isNs_of_in X hok),PySem.W.nsMap_none_of_in X hok hni,PySem.W.tail_of_in X ht⟩
  ·cases q
 ·cases q
def Qjt (C:aB) (E:XK) (t:TA):TS:=fun _ σ H=>t σ H fun vs H1=>vs.length<=sizeLine/\E (.ref C) none H1
theorem Q0i (l:aB) (items:Array aA) (n:Nat) (dd:Option aB) (sl:Array (Option aA)) (t:Tok) :
  Meets (Builtin.«tuple.__mul__» ⟨[.ref l,.int 1 t],[]⟩) (fun _ R s=>s.heap.get? l=some { cls:=.type "tuple",dict:=dd,data:=.seq items n,slots:=sl }/\R (.ok (.ret (.ref l))) s):=
 .of_wp fun prog w A R s h=>by
  obtain ⟨hp,g,d,tk,os⟩:=s; obtain ⟨hl,h⟩:=h
  wp_walk using wpAny_loadPart' hl
  exact ⟨_,rfl,h⟩
theorem Q0j (l:aB) (items:Array aA) (n:Nat) (dd:Option aB) (sl:Array (Option aA)) (x:Int) (t:Tok) (h1:¬ (decide (x < -(2 ^ 63)) || decide (x>=2 ^ 63))=true) (h2:¬ (items.isEmpty || x == 1)=true) (h3:¬ (decide (x<=0) || items.isEmpty)=true) (h4:¬ (items.size:Int) * x > (2 ^ 63 - 1) / 8) (h5:¬ Builtin.Tuple.tupleTooMany ((items.size:Int) * x)=true)
  (h6:((List.replicate x.toNat items).foldl (fun x1 x2=>x1 ++ x2) #[]).size<=sizeLine) :
  Meets (Builtin.«tuple.__mul__» ⟨[.ref l,.int x t],[]⟩) (fun _ R s=>s.heap.get? l=some { cls:=.type "tuple",dict:=dd,data:=.seq items n,slots:=sl } /\
   R (.ok (.ret (Value.ref s.heap.objs.size))) { s with heap:=s.heap.push { cls:=Value.type "tuple",data:=Data.seq ((List.replicate x.toNat items).foldl (fun x1 x2=>x1 ++ x2) #[]) } }):=
 .of_wp fun prog w A R s h=>by
  obtain ⟨hp,g,d,tk,os⟩:=s; obtain ⟨hl,h⟩:=h
  wp_walk using wpAny_loadPart' hl
  refine wpAny_ite_false (bP h1) ?_
  wp_walk using wpAny_loadPart' hl
  refine wpAny_ite_false (bP h4) ?_
  wp_walk using wpAny_loadPart' hl
  all_goals first | exact ⟨_,rfl,h⟩ | (refine wpAny_ite_false (bP h5) ?_; wp_walk) | skip
  all_goals first | exact ⟨_,rfl,h⟩ | (refine wpAny_ite_false (bP (Nat.not_lt.mpr h6)) ?_; wp_walk; exact ⟨_,rfl,h⟩)
theorem Q1g (a:Int) (t:Tok) (l:aB) (items:Array aA) (n:Nat) (dd:Option aB) (sl:Array (Option aA)) :
  Meets (Builtin.«int.__rmul__» ⟨[.int a t,.ref l],[]⟩) (fun _ R s=>s.heap.get? l=some { cls:=.type "tuple",dict:=dd,data:=.seq items n,slots:=sl }/\R (.ok (.ret Value.notImplemented)) s):=
 .of_wp fun prog w A R s h=>by obtain ⟨hp,g,d,tk,os⟩:=s; obtain ⟨hl,h⟩:=h; wp_walk using wpAny_loadPart' hl; exact ⟨_,rfl,h⟩
theorem y4:fillsNumberSlot (.type "tuple") "mul" = pure false:=
 PySem.fillsNumberSlot_seq (id := "tuple.__mul__") (r:=some (.builtin "tuple.__rmul__")) F.slot_tuple_mul.lookup (by decide +kernel) F.slot_tuple_rmul.lookup (by decide +kernel)
theorem Q3s:seqRepeat? (.type "tuple")=pure (some (.builtin "tuple.__mul__")):=by
 unfold seqRepeat?;rw [PySem.seqSlot_of (T := "tuple") (name := "__mul__") (id := "tuple.__mul__") F.slot_tuple_mul.lookup (by decide +kernel),PySem.seqSlot_of (T := "tuple") (name := "__rmul__") (id := "tuple.__rmul__") F.slot_tuple_rmul.lookup (by decide +kernel)];rfl
def Qqz (K:PySem.W.Frag):R2:=fun x y H Q=>∃ a k xs,x=.ref a/\y=.int k/\SqT K H a xs/\xs≠[]/\1<=k/\xs.length * k.toNat<=4096 /\
 (k=1->Q (.ref a) H)/\(k≠1->∀ p,H p=none->Q (.ref p) (upd H p (.tup (List.replicate k.toNat xs).flatten)))
theorem Qhe:OpR X (aV .Mult) (Qqz X.K):=by
 intro pins s σ H x y v u Q I rx ry h;obtain ⟨a,k,xs,rfl,rfl,ha,hne,hk,hz,q1,q2⟩:=h;cases rx;obtain ⟨t,rfl⟩:=ry;obtain ⟨its,r,p1,hs⟩:=I.tuple ha;obtain ⟨⟨cls,dd,data,sl⟩,ho,hc,n,hd⟩:=id p1;simp only at hc hd;subst hc hd;have hl:its.length=xs.length:=r.length.symm;have hpos:0 < its.length:=by rw [hl]; exact List.length_pos_iff.mpr hne
 have hkz:k.toNat<=4096:=by
  have:1 * k.toNat<=xs.length * k.toNat:=Nat.mul_le_mul_right _ (by omega);omega
 refine wpAny_binaryOp_repeat_ref (T := "tuple") (U := "int") (by decide) ⟨_,ho,rfl⟩ (fun s'=>typeIs_int s' k t) y4 F.fills_int_mul F.slot_int_rmul Q3s F.slot_int_index.lookup
  (bB F.slot_int_rmul (typeIs_int s k t) F.entry_int_rmul (F.args_int_rmul_2 _ _) (Q1g k t a its.toArray n dd sl)
   ⟨ho,rfl,⟨_,ho,rfl⟩,?_⟩)
 by_cases h1:k=1
 ·subst h1;exact bB F.slot_tuple_mul ⟨_,ho,rfl⟩ F.entry_tuple_mul (F.args_tuple_mul_2 _ _) (Q0i a its.toArray n dd sl t) ⟨ho,⟨.ref a,H,I,rfl,q1 rfl⟩⟩
 ·have f0:List.foldl (fun x1 x2=>x1 ++ x2) #[] (List.replicate k.toNat its.toArray)=(List.replicate k.toNat its).flatten.toArray:=by
   have:=yk its k.toNat [];rw [List.nil_append] at this;exact this
  have hlen:(its.toArray.size:Int) * k=((its.length * k.toNat:Nat):Int):=by
   rw [D3,Int.natCast_mul,Int.toNat_of_nonneg (by omega)]
  have hfl:(List.replicate k.toNat its).flatten.length<=4096:=by rw [Q43,hl,Nat.mul_comm]; exact hz
  have hb:its.length * k.toNat<=4096:=by rw [hl]; exact hz
  refine bB F.slot_tuple_mul ⟨_,ho,rfl⟩ F.entry_tuple_mul (F.args_tuple_mul_2 _ _) (Q0j a its.toArray n dd sl k t ?_ ?_ ?_ ?_ ?_ ?_) ⟨ho,?_⟩
  ·rw [bP (by omega),bP (by omega)]; exact F0
  ·intro z;rcases Bool.or_eq_true_iff.mp z with z | z
   ·rw [List.isEmpty_toArray,List.isEmpty_iff] at z; rw [z] at hpos; simp at hpos
   ·exact h1 (eq_of_beq z)
  ·intro z;rcases Bool.or_eq_true_iff.mp z with z | z
   ·have:=of_decide_eq_true z; omega
   ·rw [List.isEmpty_toArray,List.isEmpty_iff] at z; rw [z] at hpos; simp at hpos
  ·rw [hlen]; omega
  ·rw [hlen];have:(4096:Int)<=sizeLine:=by decide
   show ¬ decide (((its.length * k.toNat:Nat):Int) > (sizeLine:Int))=true;rw [bP (by omega)]; exact F0
  ·rw [f0,D3]; exact F6 hfl (by decide)
  ·rw [f0];refine ⟨.ref s.heap.objs.size,_,I.laid (t':=s.toks) (o:=.tup (List.replicate k.toNat xs).flatten) (fun b ob q=>O6 _ q) (O8 _) ?_,rfl,q2 h1 _ (I.hok.fresh (O8 _))⟩;exact ⟨by rw [Q43,Nat.mul_comm]; exact F6 hz (by decide),_,r.rep k.toNat,IsTup.new _ _⟩
open PySem.SeqAt
theorem Q5f:OpR X (aS .IsNot) (fun x y H Q=>∃ b c,x=.bl b/\y=.bl c/\Q (.bl (b != c)) H):=by
 intro pins s σ H x y v u Q I rx ry h;obtain ⟨b,c,rfl,rfl,q⟩:=h;cases rx;cases ry;exact PyProof.Rows.isnot_bool ⟨.bl _,H,I,rfl,q⟩
theorem We:∀ (names:List (Str × ao)) (h:Heap) (acc:List (Str × aB)) (x:Str) (c:aB),(af h.objs.size names acc).lookup x=some c ->
  acc.lookup x=some c\/((x,NameKind.cell)∈names/\h.objs.size<=c/\(pushCells h names).IsCell c none)
 | [],_,_,_,_,e=>.inl e
 | (name,kind) :: r,h,acc,x,c,e=>by
  unfold af at e;unfold pushCells
  by_cases hk:(kind == NameKind.cell)=true
  ·rw [bN hk] at e ⊢;have hk':kind=.cell:=by simpa using hk
   have ih:=We r (h.push { cls:=.type "cell",data:=.cell none }) ((name,h.objs.size) :: acc) x c (by rw [L3]; exact e);rw [L3] at ih;rcases ih with z | ⟨z1,z2,z3⟩
   ·rw [List.lookup_cons] at z;cases hb:x == name with
    | true=>
     rw [hb] at z; cases z;exact .inr ⟨by rw [beq_iff_eq.mp hb,hk']; exact D1,O8 _,⟨_,pushCells_keeps _ _ _ _ (E9 _ rfl),rfl⟩⟩
    | false=>rw [hb] at z; exact .inl z
   ·exact .inr ⟨O7 _ z1,by omega,z3⟩
  ·rw [bO hk] at e ⊢;rcases We r h acc x c e with z | ⟨z1,z2,z3⟩
   ·exact .inl z
   ·exact .inr ⟨O7 _ z1,z2,z3⟩
theorem V5 {x:Str}:∀ (names:List (Str × ao)) (n:Nat) (acc:List (Str × aB)),(x,NameKind.cell)∉names->(af n names acc).lookup x=acc.lookup x
 | [],_,_,_=>rfl
 | (name,kind) :: r,n,acc,h=>by
  unfold af;have hr:(x,NameKind.cell)∉r:=fun z=>h (O7 _ z)
  by_cases hk:(kind == NameKind.cell)=true
  ·rw [bN hk,V5 r _ _ hr,List.lookup_cons];cases hb:x == name with
   | true=>exact absurd (by rw [beq_iff_eq.mp hb,show kind=.cell by simpa using hk]; exact D1) h
   | false=>rfl
  ·rw [bO hk,V5 r _ _ hr]
theorem Us {x:Str} {c:aB}:∀ (names:List (Str × ao)) (n:Nat) (acc:List (Str × aB)),(x,NameKind.cell)∈names->(af n names acc).lookup x=some c->n<=c
 | [],_,_,h,_=>by cases h
 | (name,kind) :: r,n,acc,h,e=>by
  unfold af at e
  by_cases hr:(x,NameKind.cell)∈r
  ·by_cases hk:(kind == NameKind.cell)=true
   ·rw [bN hk] at e;exact Nat.le_of_succ_le (Us r _ _ hr e)
   ·rw [bO hk] at e;exact Us r _ _ hr e
  ·rcases E2.mp h with q | q
   ·cases q;rw [bN (by decide),V5 r _ _ hr,List.lookup_cons] at e;simp at e;exact Nat.le_of_eq e
   ·exact absurd q hr
theorem Ut:∀ (names:List (Str × ao)) (n:Nat) (acc:List (Str × aB)),(∀ x c,acc.lookup x=some c->c < n)->(∀ x y c,acc.lookup x=some c->acc.lookup y=some c->x=y) ->
  ∀ x y c,(af n names acc).lookup x=some c->(af n names acc).lookup y=some c->x=y
 | [],_,_,_,h=>h
 | (name,kind) :: r,n,acc,h1,h2=>by
  unfold af
  by_cases hk:(kind == NameKind.cell)=true
  ·rw [bN hk];refine Ut r (n + 1) _ (fun x c e=>?_) (fun x y c e e'=>?_)
   ·rw [List.lookup_cons] at e;cases hb:x == name with
    | true=>rw [hb] at e; cases e; exact Nat.lt_succ_self _
    | false=>rw [hb] at e; exact Nat.lt_succ_of_lt (h1 x c e)
   ·rw [List.lookup_cons] at e e';cases hb:x == name with
    | true=>
     rw [hb] at e; cases e;cases hb':y == name with
     | true=>rw [beq_iff_eq.mp hb,beq_iff_eq.mp hb']
     | false=>rw [hb'] at e'; exact absurd (h1 y _ e') (Nat.lt_irrefl _)
    | false=>
     rw [hb] at e;cases hb':y == name with
     | true=>rw [hb'] at e'; cases e'; exact absurd (h1 x _ e) (Nat.lt_irrefl _)
     | false=>rw [hb'] at e'; exact h2 x y c e e'
  ·rw [bO hk];exact Ut r n acc h1 h2
theorem Q1z {M:Model} {A:aQ} {E:aA->aC->Prop} {s:aC} {scope:Scope} {globals:aB} {cl:List (Str × aB)} {qual:Str} {func:Option aB} {code:aA} {env:Env} {builtins:aB} {Q:Env->aC->Prop}
  (hQ:Q (newEnv scope s.heap.objs.size globals (af (s.heap.objs.size + 1) scope.names cl) qual func code (some env) builtins) { s with heap:=pushCells (s.heap.push { cls:=.type "dict",data:=.dict #[] }) scope.names }) :
  aF M A (newFunctionEnv scope globals cl [] qual func code (some env) builtins) Q E s:=by
 simp only [newFunctionEnv,Option.isSome_some,if_true];refine aD (wpAny_alloc ?_);refine aD (wpAny_layCells _ (fun name kind cells=>by cases hkc:kind == NameKind.cell <;> simp [hkc]) _ _ _ _ ?_);rw [show ({ s with heap:=s.heap.push { cls:=.type "dict",data:=.dict #[] } }:aC).heap.objs.size=s.heap.objs.size + 1 from L3 ..];refine aD ?_;rw [List.forIn_nil];exact wpAny_pure (wpAny_pure hQ)
def compOkC (N N':List Str) (sc scE:Scope) (cap:List (Option Nat)):Bool:=
 sc.kind == .function && sc.names.all (fun x=>x.2 != .cell || sc.names.lookup x.1 == some .cell) && sc.names.all (fun x=>x.2 != .local || sc.names.lookup x.1 == some .local) &&
 sc.names.all (fun x=>x.2 != .free || scE.names.lookup x.1 == some .cell || scE.names.lookup x.1 == some .free) && cap.length == N'.length &&
 (List.range cap.length).all (fun i=>match cap[i]? with
  | some (some j)=>(match N'[i]?,N[j]? with | some a,some b=>a == b && sc.names.lookup a == some .free | _,_=>false)
  | _=>true)
structure CompOkC (N N':List Str) (sc scE:Scope) (cap:List (Option Nat)):Prop where
 kind:sc.kind=.function
 cel:∀ x∈sc.names,x.2=.cell->sc.names.lookup x.1=some .cell
 loc:∀ x∈sc.names,x.2=.local->sc.names.lookup x.1=some .local
 fre:∀ x∈sc.names,x.2=.free->scE.names.lookup x.1=some .cell\/scE.names.lookup x.1=some .free
 len:cap.length=N'.length
 at_:∀ (i j:Nat),cap[i]?=some (some j)->∃ x,N'[i]?=some x/\N[j]?=some x/\sc.names.lookup x=some .free
theorem compOkC.of {N N':List Str} {sc scE:Scope} {cap:List (Option Nat)} (h:compOkC N N' sc scE cap=true):CompOkC N N' sc scE cap:=by
 unfold compOkC at h;simp only [L8,M5,beq_iff_eq,Bool.or_eq_true,bne_iff_ne] at h;obtain ⟨⟨⟨⟨⟨h1,h2⟩,h3⟩,h4⟩,h5⟩,h6⟩:=h;refine ⟨h1,fun x hx e=>?_,fun x hx e=>?_,fun x hx e=>?_,h5,fun i j e=>?_⟩
 ·rcases h2 x hx with z | z
  ·exact absurd e z
  ·exact z
 ·rcases h3 x hx with z | z
  ·exact absurd e z
  ·exact z
 ·rcases h4 x hx with (z | z) | z
  ·exact absurd e z
  ·exact .inl z
  ·exact .inr z
 ·have hi:i < cap.length:=(O0.mp e).1;have:=h6 i (G9.mpr hi);rw [e] at this;simp only at this;cases e1:N'[i]? with
  | none=>rw [e1] at this; cases this
  | some a=>
   cases e2:N[j]? with
   | none=>rw [e1,e2] at this; cases this
   | some b=>
    rw [e1,e2] at this;simp only [L8,beq_iff_eq] at this;obtain ⟨rfl,z⟩:=this;exact ⟨a,rfl,rfl,z⟩
def Zm (X:Cx) (N':List Str) (sc:Scope) (cl:List (Str × aB)) (C:aB) (s0:aC) (H0:Hp) (ex:List aB):Cx:=
 { X with N:=N',s₀:=s0,H₀:=H0,env:=compEnvC sc cl C X.env,outer:=X.stack,ex:=ex,fn:=fun x=>sc.names.lookup x == some .cell,pn:=[],xe:=fun _ _=>False }
theorem Qff {pins:List (aB × Obj)} {σ:St} {H:Hp} {s:aC} {N N':List Str} {sc scE:Scope} {cap:List (Option Nat)} {cl:List (Str × aB)} {fp:List aB}
  (I:Inv X pins σ H s) (hN:X.N=N) (hE:X.env.scope=scE) (ck:CompOkC N N' sc scE cap) (c1:∀ x c,cl.lookup x=some c->X.env.cells.lookup x=some c) (c2:∀ x∈sc.names,x.2=.free->∃ c,cl.lookup x.1=some c)
  (hf:∀ b∈fp,Q1y X pins H b) (hfs:∀ b∈fp,b < s.heap.objs.size) :
  Inv (Zm X N' sc (af (s.heap.objs.size + 1) sc.names cl) s.heap.objs.size s H fp) [] (zk cap σ) H { s with heap:=pushCells (s.heap.push { cls:=.type "dict",data:=.dict #[] }) sc.names }:=by
 obtain ⟨h₁,hh₁⟩:∃ h₁,pushCells (s.heap.push { cls:=.type "dict",data:=.dict #[] }) sc.names=h₁:=⟨_,rfl⟩;obtain ⟨cl',hcl'⟩:∃ cl',af (s.heap.objs.size + 1) sc.names cl=cl':=⟨_,rfl⟩;rw [hh₁,hcl'];have keep:∀ b o,s.heap.get? b=some o->h₁.get? b=some o:=fun b o e=>by rw [<- hh₁]; exact pushCells_keeps _ _ b o (O6 _ e)
 have hns:h₁.Ns s.heap.objs.size (fun _=>none):=by rw [<- hh₁]; exact (Heap.Ns.new s.heap (.type "dict")).keeps (pushCells_keeps _ _)
 have look:∀ x c,cl'.lookup x=some c->cl.lookup x=some c\/(s.heap.objs.size + 1<=c/\h₁.IsCell c none):=fun x c e=>by
  rw [<- hcl'] at e;have:=We (sc.names) (s.heap.push { cls:=.type "dict",data:=.dict #[] }) cl x c (by rw [L3]; exact e);rw [L3,hh₁] at this;rcases this with z | ⟨_,z,z'⟩
  ·exact .inl z
  ·exact .inr ⟨z,z'⟩
 have cellLt:∀ x c,cl.lookup x=some c->c < s.heap.objs.size:=fun x c e=>by
  obtain ⟨v,o,ho,_⟩:=I.cell x c (c1 x c e);exact E6 ho
 have inj:∀ x y c,cl'.lookup x=some c->cl'.lookup y=some c->x=y:=by
  rw [<- hcl'];exact Ut _ _ _ (fun x c e=>Nat.lt_succ_of_lt (cellLt x c e)) fun x y c a b=>I.ok.inj x y c (c1 x c a) (c1 y c b)
 have isC:∀ x,sc.names.lookup x=some .cell->∃ c,cl'.lookup x=some c:=fun x e=>by
  rw [<- hcl'];exact Option.isSome_iff_exists.mp (PySem.W.cellsFrom_some _ _ _ (.inl e))
 have isF:∀ x,sc.names.lookup x=some .free->cl'.lookup x=cl.lookup x:=fun x e=>by
  rw [<- hcl'];refine V5 _ _ _ fun z=>?_
  have:=ck.cel _ z rfl;rw [e] at this; cases this
 have kindOf:∀ x k,(compEnvC sc cl' s.heap.objs.size X.env).kindOf x=some k->k=.cell\/k=.free->sc.names.lookup x=some .free\/sc.names.lookup x=some .cell:=fun x k e hk=>by
  have e':(relabel sc X.env).names.lookup x=some k:=e;rw [K7] at e';cases q:sc.names.lookup x with
  | none=>rw [q] at e'; cases e'
  | some k'=>
   rw [q] at e';have e'':(if (k' == NameKind.free && X.env.scope.kind == .function && X.env.kindOf x == some .cell)=true then NameKind.cell else k')=k:=Option.some.inj e'
   by_cases hc:(k' == NameKind.free && X.env.scope.kind == .function && X.env.kindOf x == some .cell)=true
   ·simp only [L8,beq_iff_eq] at hc;rw [hc.1.1]; exact .inl rfl
   ·rw [bO hc] at e'';subst e'';rcases hk with z | z
    ·rw [z]; exact .inr rfl
    ·rw [z]; exact .inl rfl
 have cellAt:∀ x c,X.env.cells.lookup x=some c->∀ v,s.heap.IsCell c v->h₁.IsCell c v:=fun x c e v ⟨o,ho,hd⟩=>⟨o,keep c o ho,hd⟩
 have Hnew:∀ c,s.heap.objs.size<=c->H c=none:=fun c hc=>I.hok.fresh hc
 refine ⟨⟨I.ok.mod,ck.kind,I.ok.glob,I.ok.blt,O8 _,inj,fun x hx=>?_,fun x c h1 h2=>?_,I.ok.hd,I.ok.frames,.inl rfl,fun b hb=>?_,I.bs,
  F6 I.ok.bsz I.sz,fun b o e hb=>?_,fun b hb hz=>?_,I.stack,I.stkFree⟩,rfl,I.bare,Un.kept keep,⟨_,hns,fun i x v e1 e2 e3=>?_⟩,fun x c e=>?_,Hnew _ (O8 _),fun x c e=>?_,fun p hp=>(by cases hp),I.hok.kept keep,?_⟩
 ·have hx:(compEnvC sc cl' s.heap.objs.size X.env).kindOf x=some .cell\/(compEnvC sc cl' s.heap.objs.size X.env).kindOf x=some .free:=hx;have q:sc.names.lookup x=some .free\/sc.names.lookup x=some .cell:=by
   rcases hx with z | z
   ·exact kindOf x _ z (.inl rfl)
   ·exact kindOf x _ z (.inr rfl)
  rcases q with q | q
  ·obtain ⟨c,hc⟩:=c2 _ (PySem.mem_of_lookup q) rfl;exact ⟨c,(isF x q).trans hc⟩
  ·exact isC x q
 ·have h1:sc.names.lookup x=some .cell:=by simpa [Zm] using h1
  have h2:cl'.lookup x=some c:=h2;rw [<- hcl'] at h2;exact F6 (Nat.le_succ _) (Us _ _ _ (PySem.mem_of_lookup h1) h2)
 ·refine ⟨F8 (hfs b hb),fun x c e=>?_⟩;rcases look x c e with z | ⟨z,_⟩
  ·exact (hf b hb).2.2.2.2.1 x c (c1 x c z)
  ·exact fun q=>absurd (E4 (hfs b hb) (F6 (Nat.le_succ _) (q ▸ z))) (Nat.lt_irrefl _)
 ·rcases (hf b hb).2.2.2.1 with z | z
  ·exact I.ok.noex b o e z
  ·exact absurd (E4 (E6 e) (F6 I.ok.bsz z)) (Nat.lt_irrefl _)
 ·rcases E2.mp (I.stkSub b hz) with e | z
  ·exact (hf b hb).2.1 e
  ·exact (hf b hb).2.2.1 z
 ·have e1:N'[i]?=some x:=e1;have e2:(zk cap σ)[i]?=some (some v):=e2;unfold zk at e2;rw [E8] at e2;cases q:cap[i]? with
  | none=>rw [q] at e2; cases e2
  | some oj=>
   rw [q] at e2;cases oj with
   | none=>cases e2
   | some j=>
    obtain ⟨y,z1,z2,z3⟩:=ck.at_ i j q;rw [e1] at z1; cases z1;have ev:σ[j]?=some (some v):=by
     have e2':(σ[j]?).join=some v:=Option.some.inj e2;cases r:σ[j]? with
     | none=>rw [r] at e2'; cases e2'
     | some o=>rw [r] at e2'; exact congrArg some e2'
    obtain ⟨m',hm',hl⟩:=I.loc;have sK:X.env.scope.names.lookup x=some .cell\/X.env.scope.names.lookup x=some .free:=by rw [hE]; exact ck.fre _ (PySem.mem_of_lookup z3) rfl
    obtain ⟨u,ru,l⟩:=hl j x v (by rw [hN]; exact z2) ev (sK.elim (fun z=>.inr (.inl z)) fun z=>.inr (.inr z))
    refine ⟨u,ru,?_⟩;obtain ⟨c,hc⟩:=c2 _ (PySem.mem_of_lookup z3) rfl;rcases l with ⟨k,_⟩ | ⟨k,c',hc',hcell⟩
    ·have k:X.env.scope.names.lookup x=some .local:=k;rcases sK with z | z <;> (rw [k] at z; cases z)
    ·have:c=c':=by
      have q1:=c1 x c hc;rw [hc'] at q1;exact (Option.some.inj q1).symm
     subst this;refine .inr ⟨?_,c,(isF x z3).trans hc,cellAt x c hc' _ hcell⟩;show (relabel sc X.env).names.lookup x=some .cell\/(relabel sc X.env).names.lookup x=some .free;rw [K7,z3];show some (if _ then NameKind.cell else NameKind.free)=_\/some (if _ then NameKind.cell else NameKind.free)=_
     split
     ·exact .inl rfl
     ·exact .inr rfl
 ·rcases look x c e with z | ⟨_,z⟩
  ·obtain ⟨v,q⟩:=I.cell x c (c1 x c z);exact ⟨v,cellAt x c (c1 x c z) v q⟩
  ·exact ⟨_,z⟩
 ·rcases look x c e with z | ⟨z,_⟩
  ·exact I.freeC x c (c1 x c z)
  ·exact Hnew c (by omega)
 ·unfold zk;show _=N'.length;rw [O1];exact ck.len
end L2
namespace PySem
open Sem (wp)
def Q2b (o:Obj):Option aA:=match o.data with | .fields vs=>vs[2]? | _=>none
theorem Qeh {o:Obj} {vs:Array aA} {x:aA} (od:o.data=.fields vs):Q2b (Obj.mapFields (·.setIfInBounds 1 x) o)=Q2b o:=by
 have d:=Obj.data_mapFields od (·.setIfInBounds 1 x);unfold Q2b;rw [d,od];exact Array.getElem?_setIfInBounds_ne (by decide)
variable {M:Model} {A:aQ} {E:aA->aC->Prop} {s:aC} {en:Env} {ou:List Env} {L e:aB} {ob:Obj} {vs:Array aA} {a0:aA} {Q:Unit->aC->Prop}
section
variable {bs:Heap}
theorem Q1k {head:aA} {nx:Bool} (fr:A.frames=some (en :: ou)) (ff:s.heap.FunFrames bs (en :: ou)) (ef:en.frame=some L) (oe:s.heap.get? e=some ob) (kb:bs.StaysIn s.heap) (ne:bs.get? e=none)
  (od:ob.data=.fields vs) (z1:1 < vs.size) (z0:vs[0]?=some a0)
  (h:∀ h',Heap.LeftW bs (en :: ou) e ob.cls a0 s.heap h'->(∃ o',h'.get? e=some o'/\o'.dict=ob.dict/\Q2b o'=Q2b ob)->Q () { s with heap:=h' }) :
  aF M A (do
   let a <- frameOf en
   let pl <- entryPlaceOf L nx
   let b <- EntryCells.newEntry head a .none (ae L) .none pl
   setField (.ref e) 1 b) (fun _ s'=>aF M A (setFlight (.ref e) none) Q E s') E s:=by
 have nf:e∉(en :: ou).filterMap (·.frame):=fun m=>by
  obtain ⟨_,o,q,n⟩:=ff.mem m;rw [oe] at q;cases q;exact n vs od
 refine aD (wpAny_frameOf_fun fr ff ef fun g gs=>?_);refine aD (wpAny_entryPlaceOf fun pl hp=>?_);unfold EntryCells.newEntry newFields;refine aD (bA ?_ (hp.sizeOk5 _ _ _ _ _));have ge:g.get? e=some ob:=(gs.2.1 e nf).trans oe;have gb:bs.StaysIn g:=fun b o q=>(gs.2.1 b fun m=>by
  rw [(ff.mem m).1] at q;cases q).trans (kb b o q)
 obtain ⟨tb,etb⟩:∃ tb:List aA,[head,.ref L,.none,ae L,.none] ++ (if pl.isEmpty then List.replicate 6 Value.none else pl)=tb:=⟨_,rfl⟩;have l5:3 < tb.length/\tb[3]?=some (ae L):=by
  rw [<- etb];exact ⟨by simp,by simp⟩
 rw [etb];have ge2:=O6 (h:=g) { cls:=.type "traceback",dict:=none,data:=.fields tb.toArray } ge;refine wpAny_setField ge2 od z1 ?_;have te:g.objs.size≠e:=Nat.ne_of_gt (E6 ge);have d3:=Obj.data_mapFields od (·.setIfInBounds 1 (Value.ref g.objs.size));have ge3:=N0 (Obj.mapFields (·.setIfInBounds 1 (Value.ref g.objs.size))) ge2 (Obj.isFreed_of_fields d3);have gt3:=(M0 (g.push { cls:=.type "traceback",dict:=none,data:=.fields tb.toArray })
  (Obj.mapFields (·.setIfInBounds 1 (Value.ref g.objs.size))) te.symm).trans
  (E9 g rfl)
 unfold setFlight;refine aD (aY ge3 d3 (x:=.ref g.objs.size) (by simp [z1]) ?_);rw [bN (show (Value.ref g.objs.size != Value.none)=true by simp)];refine wpAny_setField gt3 rfl (by simpa using l5.1) (h _ ?_ ?_)
 all_goals
  obtain ⟨g3,eg3⟩:∃ g3,((g.push { cls:=.type "traceback",dict:=none,data:=.fields tb.toArray }).update e (Obj.mapFields (·.setIfInBounds 1 (Value.ref g.objs.size))))=g3:=⟨_,rfl⟩;rw [eg3] at ge3 gt3 ⊢
 ·have kp:∀ b o,b≠e->g.get? b=some o->(g3.update g.objs.size (Obj.mapFields (·.setIfInBounds 3 ((none:Option aB).elim Value.none fun f=>ae f)))).get? b=some o:=fun b o n q=>by
   rw [M0 _ _ (Nat.ne_of_gt (E6 q)),<- eg3,M0 _ _ n.symm];exact O6 _ q
  have nr:∀ b o,s.heap.get? b=some o->(∀ ws,o.data≠.fields ws)->b≠e:=fun b o q n z=>by
   rw [z,oe] at q;cases q;exact n vs od
  refine ⟨fun b o q=>kp b o (fun z=>by rw [z,ne] at q; cases q) (gb b o q),ff.of_keeps fun b o q n=>?_,?_,fun b o q n=>?_⟩
  ·obtain ⟨sl,z⟩:=gs.2.2 b o q;exact ⟨_,kp b _ (nr b o q n) z,rfl⟩
  ·refine ⟨_,_,g.objs.size,_,_,?_,⟨Obj.cls_mapFields _ _,?_⟩,d3,by simp [z1],gb.fresh,te,N0 _ gt3 (Obj.isFreed_of_fields (Obj.data_mapFields rfl _)),Obj.data_mapFields rfl _,?_⟩
   ·rw [M0 _ _ te];exact ge3
   ·rw [Array.getElem?_setIfInBounds_ne (by decide)];exact z0
   ·have:=l5.1;simp [this]
  ·obtain ⟨sl,z⟩:=gs.2.2 b o q;exact ⟨sl,kp b _ (nr b o q n) z⟩
 ·refine ⟨_,(M0 _ _ te).trans ge3,?_,Qeh od⟩;cases ob with
  | mk c d dt sl=>cases dt <;> first | rfl | cases od
theorem Q62 (fr:A.frames=some (en :: ou)) (ff:s.heap.FunFrames bs (en :: ou)) (ef:en.frame=some L) (oe:s.heap.get? e=some ob) (kb:bs.StaysIn s.heap) (ne:bs.get? e=none)
  (od:ob.data=.fields vs) (z1:vs[1]?=some .none) (z0:vs[0]?=some a0)
  (h:∀ h',Heap.LeftW bs (en :: ou) e ob.cls a0 s.heap h'->(∃ o',h'.get? e=some o'/\o'.dict=ob.dict/\Q2b o'=Q2b ob)->Q () { s with heap:=h' }):aF M A (leaving en (.ref e)) Q E s:=by
 unfold leaving noteFrame;simp only [ef];refine aD (aD (aY oe od z1 ?_));rw [bO (by decide)];exact Q1k fr ff ef oe kb ne od (Array.getElem?_eq_some_iff.mp z1).1 z0 h
theorem Q61 {cls:aA} {dv:Option aB} (fr:A.frames=some (en :: ou)) (ef:en.frame=some L) (fl:Heap.FlyingW bs (en :: ou) e cls a0 s.heap) (dd:∃ o',s.heap.get? e=some o'/\o'.dict=dv/\Q2b o'=some .none)
  (h:∀ h',Heap.FlyingW bs ou e cls a0 h'->(∃ o',h'.get? e=some o'/\o'.dict=dv/\Q2b o'=some .none)->s.heap.UpToSlots h'->Q () { s with heap:=h' }):aF M A (leaving en (.ref e)) Q E s:=by
 obtain ⟨kb,ne,ff,oe,ws,T,oT,ts,he,⟨hc,z0⟩,od,z1,nT,Te,hT,dT,z3⟩:=fl;obtain ⟨o',ho',hdv,hfl⟩:=dd;rw [he] at ho';cases ho';unfold leaving noteFrame;simp only [ef];refine aD (aD (aY he od z1 ?_));rw [bN (show (Value.ref T != Value.none)=true by simp)];refine aD (aY hT dT z3 ?_);rw [bO (show ¬ ((Value.none == ae L)=true) by simp [ae])];refine aD (wpAny_setField hT dT (Array.getElem?_eq_some_iff.mp z3).1 ?_);have ot:∀ b,b≠T->(s.heap.update T (Obj.mapFields (·.setIfInBounds 3 Value.none))).get? b=s.heap.get? b:=fun b n=>M0 _ _ n.symm
 have nr:∀ b o,s.heap.get? b=some o->(∀ ws,o.data≠.fields ws)->b≠T:=fun b o q n z=>by
  rw [z,hT] at q;cases q;exact n ts dT
 refine Q1k fr (ff.of_keeps fun b o q n=>⟨o,(ot b (nr b o q n)).trans q,rfl⟩) ef ((ot e Te.symm).trans he) (fun b o q=>(ot b fun z=>by rw [z,nT] at q; cases q).trans (kb b o q)) ne od (Array.getElem?_eq_some_iff.mp z1).1 z0 fun h' lf d'=>?_
 obtain ⟨k1,⟨_,_,k2⟩,k3,k4⟩:=lf;rw [hc] at k3;exact h h' ⟨k1,ne,k2,k3⟩ (d'.imp fun o q=>⟨q.1,q.2.1.trans hdv,q.2.2.trans hfl⟩) fun b o q n=>k4 b o ((ot b (nr b o q n)).trans q) n
end
end PySem
namespace L2
open PySem PySem.Spec PyProof.Rows
variable {σ:St} {H1 H':Hp} {s1:aC} {b a:aB} {x:Str} {tt:TT} {wi:TI} {g:TG} {te:TE} {o:Option V} {y:V} {u:aA} {xs:List (HK × aA × aA)} {k:HK} {Q:aA->aC->Prop} {h':Heap}
def CXD (P:aL) (w:aJ):CXT:=fun outer H s E e s'=>∃ a cls a0 dv H' B,e=Value.ref a/\Fly P w outer H H' s s' a cls a0 B/\(∃ o',s'.heap.get? a=some o'/\o'.dict=dv/\Q2b o'=some .none)/\E cls dv H'
theorem Q3u {P:aL} {w:aJ} {X:Cx}:Q1x (CXD P w) X E0:=fun _ _ _ _ _ _ _ h=>by
 obtain ⟨_,_,_,_,_,_,_,_,_,z⟩:=h;exact z.elim
variable {P:aL} {K:PySem.W.Frag} {mg:Str->Option aA} {base:Heap} {N:List Str} {qual:Str} {scope:Scope} {f:aB} {cd:aA} {A:aQ} {outer:List Env} {s:aC} {H:Hp} {E:XK}
section
variable {w:aJ}
abbrev cxD (P:aL) (w:aJ) (K:PySem.W.Frag) (mg:Str->Option aA) (base:Heap) (N:List Str) (qual:Str) (scope:Scope) (f:aB) (cd:aA) (A:aQ) (outer:List Env) (s:aC) (H:Hp) (E:XK):Cx:=Qav (CXD P w) P w K mg base N qual scope f cd A outer s H E
theorem Q3k {pins:List (aB × Obj)} (I:Inv (cxD P w K mg base N qual scope f cd A outer s H E) pins σ H1 s1) {o:Obj} (e:s.heap.get? b=some o) (n:b∉frs outer):b∉frs (cxD P w K mg base N qual scope f cd A outer s H E).stack:=fun hb=>by
 rcases E2.mp (I.stkSub b hb) with z | z
 ·have h1:b < s.heap.objs.size:=E6 e;have h2:s.heap.objs.size<=(cxD P w K mg base N qual scope f cd A outer s H E).env.locals:=I.ok.above;rw [<- z] at h2;exact absurd (E4 h1 h2) (Nat.lt_irrefl _)
 ·exact n z
theorem Qee (h:b∈frs outer):b∈frs (cxD P w K mg base N qual scope f cd A outer s H E).stack:=by
 show b∈frs (_ :: outer);unfold frs at h ⊢;rw [List.filterMap_cons]
 split
 ·exact h
 ·exact O7 _ h
theorem Qkr {pins:List (aB × Obj)} {hx:Heap} {e C t:aB} {dv:Option aB} (I:Inv (cxD P w K mg base N qual scope f cd A outer s H E) pins σ H1 s1)
  (hk:∀ b o,b≠e->s1.heap.get? b=some o->hx.get? b=some o) (he1:∀ o,s1.heap.get? e=some o->∃ vs,o.data=.fields vs) (new:s.heap.get? e=none) (hH:H1 e=none)
  (oe:hx.get? e=some { cls:=.ref C,dict:=dv,data:=.fields #[.ref t,.none,.none,.none,.bool false,.none] }) (hE:E (.ref C) dv H1) :
  (cxD P w K mg base N qual scope f cd A outer s H E).xe (.ref e) { s1 with heap:=hx }:=by
 have hin:∀ en∈(cxD P w K mg base N qual scope f cd A outer s H E).stack,∀ b,en.frame=some b->b∈e :: frs (cxD P w K mg base N qual scope f cd A outer s H E).stack:=fun en he b hb=>O7 _ (List.mem_filterMap.mpr ⟨en,he,hb⟩)
 have ff:=PySem.W.funFrames_hide I.stack hin;have nee:∀ b o,s1.heap.get? b=some o->(∀ vs,o.data≠.fields vs)->b≠e:=fun b o q n z=>by
  subst z;obtain ⟨vs,d⟩:=he1 o q;exact n vs d
 have hid:(PySem.W.hideAll s1.heap (e :: frs (cxD P w K mg base N qual scope f cd A outer s H E).stack)).get? e=none:=PySem.W.hideAll_none _ D1;have kb:(PySem.W.hideAll s1.heap (e :: frs (cxD P w K mg base N qual scope f cd A outer s H E).stack)).StaysIn hx:=fun b o q=>hk b o (fun z=>by rw [z,hid] at q; cases q) (PySem.W.of_hideAll _ q)
 show aF (aI P w) _ (leaving _ (.ref e)) _ _ _;refine Q62 (bs:=PySem.W.hideAll s1.heap (e :: frs (cxD P w K mg base N qual scope f cd A outer s H E).stack)) (a0:=.ref t) (s:={ s1 with heap:=hx }) I.ok.frames (ff.of_keeps fun b o q n=>⟨o,hk b o (nee b o q n) q,rfl⟩) rfl oe kb hid rfl rfl rfl fun h2 lf dd=>?_
 obtain ⟨k1,⟨_,_,k2⟩,k3,k4⟩:=lf;have noex:∀ b:aB,b∉(cxD P w K mg base N qual scope f cd A outer s H E).ex:=fun b z=>absurd (show b∈([]:List aB) from z) (by simp)
 have nse:∀ b o,s.heap.get? b=some o->b≠e:=fun b o q z=>by rw [z,new] at q; cases q
 have out:∀ b o,s.heap.get? b=some o->b∉frs outer->b∉e :: frs (cxD P w K mg base N qual scope f cd A outer s H E).stack:=fun b o q n m=>by
  rcases E2.mp m with z | z
  ·exact nse b o q z
  ·exact Q3k I q n z
 refine ⟨e,.ref C,.ref t,dv,H1,_,rfl,⟨I.os,I.bare,⟨k1,hid,k2,k3⟩,fun b u q=>?_,fun b o q n hb=>?_,fun b o q hb=>?_,fun b o q hb=>?_,fun b o q n=>I.base.free b o q n (noex b),I.base.tups,I.base.frzs,I.base.tbls⟩,dd,hE⟩
 ·have ne:∀ c v,H1 c=some v->c∉e :: frs (cxD P w K mg base N qual scope f cd A outer s H E).stack:=fun c v z m=>by
   rcases E2.mp m with m | m
   ·rw [m,hH] at z; cases z
   ·rw [I.stkFree c m] at z; cases z
  refine (I.hok b u q).stay (fun c v hc r=>PySem.W.hideAll_get _ r ?_) (fun _ r=>r) fun _ _ r=>r
  rcases hc with rfl | hc
  ·exact ne c u q
  ·exact ne c _ hc
 ·exact PySem.W.hideAll_get _ (I.base.keep b o q n hb (noex b)) (out b o q hb)
 ·obtain ⟨o',z⟩:=I.base.there b o q (noex b);exact ⟨o',PySem.W.hideAll_get _ z (out b o q hb)⟩
 ·obtain ⟨sl,z⟩:=I.base.slot b o q (I.ok.frf b hb) hb (noex b);obtain ⟨_,o',ho',hnf⟩:=I.ok.funs.mem hb;have ho2:s.heap.get? b=some o':=ho';rw [q] at ho2;cases ho2;obtain ⟨sl',z'⟩:=k4 b _ (hk b _ (nse b o q) z) hnf;exact ⟨sl',z'⟩
theorem jw:Q1x (CXD P w) (cxD P w K mg base N qual scope f cd A outer s H E) E:=by
 intro pins σ H1 s1 e s' I h;obtain ⟨a,cls,a0,dv,H',B,rfl,F,dd,hE⟩:=h;show aF (aI P w) _ (leaving _ (.ref a)) _ _ _;have noex:∀ b:aB,b∉(cxD P w K mg base N qual scope f cd A outer s H E).ex:=fun b z=>absurd (show b∈([]:List aB) from z) (by simp)
 refine Q61 I.ok.frames rfl F.fl dd fun h2 x1 d2 x2=>?_
 refine ⟨a,cls,a0,dv,H',B,rfl,⟨F.os.trans I.os,F.bare,x1,F.hokB,fun b o q n hb=>?_,fun b o q hb=>?_,fun b o q hb=>?_,fun b o q n=>?_,fun b xs q=>F.tups b xs (I.base.tups b xs q),fun b o u q=>F.frzs b o u (I.base.frzs b o u q),fun b ps q=>?_⟩,d2,hE⟩
 ·exact F.keep b o (I.base.keep b o q n hb (noex b)) (I.base.free b o q n (noex b)) (Q3k I q hb)
 ·obtain ⟨o',z⟩:=I.base.there b o q (noex b);exact F.there b o' z (Q3k I q hb)
 ·obtain ⟨sl,z⟩:=I.base.slot b o q (I.ok.frf b hb) hb (noex b);obtain ⟨_,o',ho',hnf⟩:=I.ok.funs.mem hb;have ho2:s.heap.get? b=some o':=ho';rw [q] at ho2;cases ho2;obtain ⟨sl',z'⟩:=F.slot b _ z (Qee hb);obtain ⟨sl2,z2⟩:=x2 b _ z' hnf;exact ⟨sl2,z2⟩
 ·obtain ⟨o',z⟩:=I.base.there b o q (noex b);exact F.free b o' z (I.base.free b o q n (noex b))
 ·obtain ⟨m1,e1⟩:=I.base.tbls b ps q;obtain ⟨m2,e2⟩:=F.tbls b _ e1;exact ⟨m1 ++ m2,by rw [e2,Array.append_assoc]⟩
end
variable {X:Cx}
def Q82 (X:Cx) (E:XK):Prop:=∀ (pins:List (aB × Obj)) (σ:St) (H0 H1:Hp) (s0 s1:aC) (hx:Heap) (e C t:aB) (dv:Option aB),Inv X pins σ H0 s0->s0.heap.get? e=none->Inv X pins σ H1 s1->(∀ b o,b≠e->s1.heap.get? b=some o->hx.get? b=some o) ->
 (∀ o,s1.heap.get? e=some o->∃ vs,o.data=.fields vs)->H1 e=none->hx.get? e=some { cls:=.ref C,dict:=dv,data:=.fields #[.ref t,.none,.none,.none,.bool false,.none] }->E (.ref C) dv H1->X.xe (.ref e) { s1 with heap:=hx }
theorem Qa2 {C:aB} {e:aH} {t:TA} {np cpos pos:Pos} (hcalm:X.calm=true) (RO:Q82 X E) (hg:Gl X x) (hm:X.mg x=some (.ref C)) (q:PySem.W.excIn X.K C Qfd "ValueError.__new__" = true) (ha:PA X [e] t)
  (hdb:(x == ("__debug__" : Str))=false:=by decide) (he:aN [e] X.env=[(false,aM e X.env)]:=by rfl):PS X (.Raise (some (.Call (.Name x np) [e] [] cpos)) none pos) (Qjt C E t):=by
 intro pins s σ H D I h;obtain ⟨tl,N,nm,qn,bs,hdct,sn,sub,ab,col,dd,k0,k1,k2,k3,k5,mN,hC,hN,hni,T⟩:=(Qhd I.mod.kin hm q).obj;refine wpAny_Raise_call_subU (C:=C) (nm:=nm) (q:=qn) (N:=N) (bs:=bs) (bm:=tl) (hdct:=hdct) (sn:=sn) (sub:=sub) (ab:=ab) (col:=col) (dd:=dd) (k0:=k0) (k1:=k1) (k2:=k2) (k3:=k3) (k5:=k5)
  PySem.F.excBase_ValueError (by decide +kernel) PySem.F.excBase_ValueError (mN:=mN) (T.hasType (by decide +kernel)) (I.ok.hd hcalm) (by rw [he]; rfl) hni (Q44 I hg hm ⟨rfl,?_⟩ hdb)
 have ha':=ha cpos pins s σ H _ I h;rw [he] at ha' ⊢;refine Calls.evalArgs_plain (ak ha' (fun us s1 ⟨vs,H1,I1,r,z,hE⟩=>?_) fun _ _ y=>y)
 refine ⟨rfl,by rw [<- r.length]; exact z,I1.bk _ _ hC,hN.keeps I1.bk,T.keeps I1.bk,fun h' e' hx=>?_⟩;obtain ⟨t,oe,_,_⟩:=hx.there;exact RO pins σ H1 H1 s1 s1 h' e' C t none I1 hx.new I1 (fun b o _ k=>hx.keeps b o k) (fun o k=>by rw [hx.new] at k; cases k) (I1.hok.none_of hx.new) oe hE
theorem Qcf {P:aL} {w:aJ} {K:PySem.W.Frag} {mg:Str->Option aA} {base:Heap} {N:List Str} {qual:Str} {scope:Scope} {f:aB} {cd:aA} {A:aQ} {outer:List Env} {s:aC} {H:Hp} {E:XK} :
  Q82 (cxD P w K mg base N qual scope f cd A outer s H E) E:=fun pins σ H0 H1 s0 s1 hx e C t dv I0 g0 I hk he1 hH oe hE=>by
 refine Qkr I hk he1 ?_ hH oe hE;cases q:s.heap.get? e with
 | none=>rfl
 | some o=>
  obtain ⟨o',z⟩:=I0.base.there e o q (fun z=>absurd (show e∈([]:List aB) from z) (by simp))
  rw [g0] at z; cases z
theorem Fun.okD {P:aL} {w:aJ} {mg:Str->Option aA} {base:Heap} {st:aK} {fd:aP} {ps:List Str} {k:Nat} {sp:Sp} (F:Fun K x qual st f fd) (S:FnScope N ps (Q9 st)) (len:∀ vs H Q E,sp vs H Q E->vs.length=ps.length)
  (hbody:∀ (cdv:aA) (A:aQ) (outer:List Env) (s:aC) (H:Hp) (vs:List V) (Q:VK) (E:XK),Room k (A.deeper (envOfC qual (Q9 st) s.heap.objs.size f cdv))->sp vs H Q E ->
   ∃ t,PSs (cxD P w K mg base N qual (Q9 st) f cdv A outer s H E) (Z2 st) t/\t { nx:=fun _ H'=>Q .non H',rt:=Q } (start N vs) H):FnOk P w K mg base (CXD P w) (k + 1) f fd ps sp:=by
 obtain ⟨oc,od,kV,doc,pm,an,cdv,ct,osl,rfl,lk,hcd⟩:=F.ex;exact Qst lk hcd S len fun A outer s H vs Q E hr hsp=>hbody cdv A outer s H vs Q E hr hsp
def Qcg (K:PySem.W.Frag):R2:=fun x y H Q=>∃ a b ys,x=.ref a/\y=.ref b/\SqT K H a []/\SqT K H b ys/\Q (.ref b) H
theorem Qda:OpR X (aV .Add) (Qcg X.K):=by
 intro pins s σ H x y v u Q I rx ry h;obtain ⟨a,b,ys,rfl,rfl,ha,hb,q⟩:=h;cases rx;cases ry;obtain ⟨its,r1,p1,_⟩:=I.tuple ha;obtain ⟨its2,r2,p2,_⟩:=I.tuple hb;have e1:its=[]:=r1.nil_iff.mpr rfl;subst e1;obtain ⟨⟨cls,dd,data,sl⟩,ho,hc,n,hd⟩:=id p1;obtain ⟨⟨cls2,dd2,data2,sl2⟩,ho2,hc2,n2,hd2⟩:=id p2;simp only at hc hd hc2 hd2;subst hc hd hc2 hd2;exact concat_meets ⟨_,ho,rfl⟩ ⟨_,ho2,rfl⟩ noFill_tuple_add seq_tuple_add PySem.F.slot_tuple_add PySem.F.entry_tuple_add (PySem.F.args_tuple_add_2 _ _)
  (tuple_addW0 a b ([]:List aA).toArray its2.toArray n n2 dd dd2 sl sl2 (by simp)) ⟨ho,ho2,⟨.ref b,H,I,rfl,q⟩⟩
abbrev Qr2 (K:PySem.W.Frag):R2:=fun x y H Q=>Qiz K x y H Q\/Qcg K x y H Q
theorem Qhh:OpR X (aV .Add) (Qr2 X.K):=op_catT.or Qda
def PTs (X:Cx) (ifs:List aH) (t:TT):Prop:=
 ∀ (pins:List (aB × Obj)) (s:aC) (σ:St) (H:Hp) (Q:Bool->Hp->Prop),Inv X pins σ H s->t σ H Q ->
  aF (aI X.prog X.w) X.A (forIn ifs true fun c r=>if r=true then do let ok <- isTrue c X.env (aM c X.env); pure (ForInStep.yield ok) else pure (ForInStep.yield r)) (TP X pins σ Q) X.xe s
def Qq9:TT:=fun _ H Q=>Q true H
theorem Qgm :PTs X [] Qq9:=fun _ _ _ H _ I h=>wpAny_tests_nil ⟨H,I,h⟩
theorem Qgk {c:aH} {t:TT} (h:PT X c t):PTs X [c] t:=fun pins s σ H Q I q=>wpAny_tests_one (h pins s σ H Q I q)
def Q36 (J:It) (cap:List (Option Nat)) (g:TG) (tt:TT) (te:TE) (σ:St) (H1:Hp) (Q:VK):Prop:=∀ acc,H1 acc=none ->
 ∃ W:Nat->Nat->List V->St->Hp->Prop,(∃ m,W 0 m [] (zk cap σ) (upd H1 acc (.lst [])))/\∀ i m ys σ' H',W i m ys σ' H'->H' acc=some (.lst ys) /\
  ((J.stop i H'/\Q (.ref acc) H')\/(J.go i H'/\ys.length < sizeLine/\∀ x H2,J.yld i H' x H2->g x σ' H2 fun σ3 H3=>tt σ3 H3 fun b H4=>
    if b=true then te σ3 H4 fun y H5=>H5 acc=some (.lst ys)/\∃ m',m' < m/\W (i + 1) m' (ys ++ [y]) σ3 (upd H5 acc (.lst (ys ++ [y])))
    else ∃ m',m' < m/\W (i + 1) m' ys σ3 H4))
def Q3j (cap:List (Option Nat)) (wi:TI) (g:TG) (tt:TT) (te:TE):TE:=fun σ H Q=>wi σ H fun J H1=>Q36 J cap g tt te σ H1 Q
variable {prog:aL} {R:Result->aC->Prop}
section
variable {w:aJ}
theorem Q2c {elt target iter:aH} {ifs:List aH} {scope:Scope} {pos:Pos} {it acc:aA} {env:Env} (I:Nat->aC->Prop)
  (turn:∀ n s,I n s->aF (aI prog w) A (au it) (fun r s₁=>match r with
   | none=>R (.ok .next) s₁
   | some v=>aF (aI prog w) A (letOwnedTupleGo target it v) (fun _ s₁'=>aF (aI prog w) A (assign target env v) (fun _ s₂=>
     aF (aI prog w) A (forIn ifs true fun c r=>if r=true then do let ok <- isTrue c env (aM c env); pure (ForInStep.yield ok) else pure (ForInStep.yield r)) (fun ok s₃=>
      if ok=true then aF (aI prog w) A (aM elt env) (fun x s₄=>
       aF (aI prog w) A (call (.builtin "list.append") [acc,x]) (fun _ s₅=>∃ m,m < n/\I m s₅) (fun _ _=>False) s₄) (fun _ _=>False) s₃
      else ∃ m,m < n/\I m s₃) (fun _ _=>False) s₂)
     (fun _ _=>False) s₁') (fun _ _=>False) s₁) (fun _ _=>False) s)
  (n:Nat) (h:I n s):codeAny (aI prog w) A (.compLoop (.ListComp elt [⟨target,iter,ifs,0⟩] scope pos) 0 it acc env) R s:=by
 refine codeAny_loop rfl I (fun n s hI=>?_) n h;show aF _ A ((compTurn (.ListComp elt [⟨target,iter,ifs,0⟩] scope pos) 0 it acc env).onRaise (fun x=>do noteFrame x env; theTreesLotGoes x)) _ _ s;refine wpAny_noted ?_;rw [compTurn_list];refine aD (wpAny_standAt (aD (ak (turn n s hI) (fun r s₁ h₁=>?_) fun _ _ h'=>h'.elim)))
 cases r with
 | none=>exact wpAny_pure h₁
 | some v=>
  refine aD (ak h₁ (fun _ s₁' h₁'=>?_) fun _ _ h'=>h'.elim)
  refine aD (ak h₁' (fun _ s₂ h₂=>aD (ak h₂ (fun ok s₃ h₃=>?_) fun _ _ h'=>h'.elim)) fun _ _ h'=>h'.elim)
  cases ok with
  | true=>
   rw [bN rfl] at h₃;exact aD (aD (ak h₃ (fun x s₄ h₄=>aD (ak h₄ (fun _ s₅ h₅=>wpAny_pure (wpAny_pure ⟨rfl,h₅⟩)) fun _ _ h'=>h'.elim)) fun _ _ h'=>h'.elim))
  | false=>
   rw [bO F0] at h₃;exact aD (wpAny_pure (wpAny_pure ⟨rfl,h₃⟩))
end
theorem Q1p {elt tg iter:aH} {ifs:List aH} {tt:TT} {pos:Pos} {N N':List Str} {sc scE:Scope} {cap:List (Option Nat)} {g:TG} {te:TE} {use:Option (aA->Sem Unit)} {QQ:aA->aC->Prop} (hcalm:X.calm=true) (hi:PI X tg iter wi)
  (hg:∀ cl C s0 H0 ex,PG (Zm X N' sc cl C s0 H0 ex) tg g) (he:∀ cl C s0 H0 ex,PE (Zm X N' sc cl C s0 H0 ex) elt te) (htt:∀ cl C s0 H0 ex,PTs (Zm X N' sc cl C s0 H0 ex) ifs tt)
  (hN:X.N=N) (hE:X.env.scope=scE) (hc:compOkC N N' sc scE cap=true) (hs:∀ x,aw iter X.env x=pure x)
  {pins:List (aB × Obj)} {s:aC} {σ:St} {H:Hp} {Q:VK} (I:Inv X pins σ H s) (h:Q3j cap wi g tt te σ H Q)
  (fin:∀ acc C H' s' m,Inv X pins σ H' s'->s'.heap.Ns C m->Q1y X pins H' C->Q (.ref acc) H'->compPost (aI X.prog X.w) X.A X.xe use QQ (.ref acc) C (.ok .next) s') {pos':Pos} :
  aF (aI X.prog X.w) X.A (comprehension (.ListComp elt [⟨tg,iter,ifs,0⟩] sc pos) sc X.env pos' (newList []) false (aM iter X.env) use) QQ X.xe s:=by
 have ck:=compOkC.of hc;obtain ⟨cl,hcl,c1,c2⟩:=Q7r (scope:=sc) (env:=X.env) fun x hx hf=>I.ok.has x.1 (by
  have:=ck.fre x hx hf;rw [<- hE] at this;exact this)
 refine wpAny_comprehension_free (use:=use) rfl hs hcl ck.kind ck.loc (thn (hi pins s σ H _ I h) fun v s1 h1=>thn h1 fun itv s2 h2=>?_)
 obtain ⟨it,fp,tn,J,H2,e,I2,T,st2,f2,hw⟩:=h2;subst e;have fsz:∀ b∈fp,b < s2.heap.objs.size:=fun b hb=>by
  obtain ⟨o,e,_⟩:=T.obj _ _ st2 b hb;exact E6 e
 obtain ⟨W,⟨m0,w0⟩,turn⟩:=hw s2.heap.objs.size I2.fresh;refine bA (Q1z ?_);dsimp only;have I3:Inv X pins σ (upd H2 s2.heap.objs.size (.lst [])) { s2 with heap:=s2.heap.push { cls:=.type "list",data:=.seq ([]:List aA).toArray } }:=
  I2.lnew (its:=[]) (ys:=[]) (t':=s2.toks) .nil (Nat.zero_le _)
 generalize hs3:({ s2 with heap:=s2.heap.push { cls:=.type "list",data:=.seq ([]:List aA).toArray } }:aC)=s3 at I3;have hh3:s3.heap=s2.heap.push { cls:=.type "list",data:=.seq ([]:List aA).toArray }:=by rw [<- hs3]
 have hsz:s3.heap.objs.size=s2.heap.objs.size + 1:=by rw [hh3,L3]
 have f3:∀ b∈fp,Q1y X pins (upd H2 s2.heap.objs.size (.lst [])) b:=fun b hb=>by
  obtain ⟨g0,g1⟩:=f2 b hb;exact ⟨by rw [Q8 (F8 (fsz b hb))]; exact g0,g1⟩
 have k3:∀ b o,s2.heap.get? b=some o->s3.heap.get? b=some o:=fun b o e=>by rw [hh3]; exact O6 _ e
 obtain ⟨cl',hcl'⟩:∃ cl',af (s3.heap.objs.size + 1) sc.names cl=cl':=⟨_,rfl⟩;obtain ⟨h₁,hh₁⟩:∃ h₁,pushCells (s3.heap.push { cls:=.type "dict",data:=.dict #[] }) sc.names=h₁:=⟨_,rfl⟩;have k1:∀ b o,s3.heap.get? b=some o->h₁.get? b=some o:=fun b o e=>by rw [<- hh₁]; exact pushCells_keeps _ _ b o (O6 _ e)
 have c1':∀ x c,cl'.lookup x=some c->cl.lookup x=some c\/s3.heap.objs.size + 1<=c:=fun x c e=>by
  rw [<- hcl'] at e;have:=We (sc.names) (s3.heap.push { cls:=.type "dict",data:=.dict #[] }) cl x c (by rw [L3]; exact e);rcases this with z | ⟨_,z,_⟩
  ·exact .inl z
  ·rw [L3] at z; exact .inr z
 have I4:Inv (Zm X N' sc cl' s3.heap.objs.size s3 (upd H2 s2.heap.objs.size (.lst [])) fp) [] (zk cap σ) (upd H2 s2.heap.objs.size (.lst [])) { s3 with heap:=h₁ }:=by
  rw [<- hcl',<- hh₁];exact Qff I3 hN hE ck c1 c2 f3 (fun b hb=>E4 (fsz b hb) (by rw [hsz]; exact Nat.le_succ _))
 have st4:tn 0 h₁:=T.keep _ _ _ st2 fun b hb o e=>k1 b o (k3 b o e)
 generalize hX':Zm X N' sc cl' s3.heap.objs.size s3 (upd H2 s2.heap.objs.size (.lst [])) fp=X' at I4;have hxe:X'.xe=fun _ _=>False:=by rw [<- hX']; rfl
 have hprog:X'.prog=X.prog:=by rw [<- hX']; rfl
 have hww:X'.w=X.w:=by rw [<- hX']; rfl
 have hKK:X'.K=X.K:=by rw [<- hX']; rfl
 have hAA:X'.A=X.A:=by rw [<- hX']; rfl
 have hcc:X'.calm=true:=by rw [<- hX']; exact hcalm
 have henv:X'.env=compEnvC sc cl' s3.heap.objs.size X.env:=by rw [<- hX']; rfl
 have hloc:X'.env.locals=s3.heap.objs.size:=by rw [henv]; rfl
 have hg':PG X' tg g:=by rw [<- hX']; exact hg _ _ _ _ _
 have he':PE X' elt te:=by rw [<- hX']; exact he _ _ _ _ _
 have htt':PTs X' ifs tt:=by rw [<- hX']; exact htt _ _ _ _ _
 have stat:∀ {H':Hp},(∀ b∈fp,H' b=none)->∀ b∈fp,Q1y X' [] H' b:=fun {H'} hn b hb=>by
  obtain ⟨_,g1,g2,g3,g4,g5⟩:=f3 b hb;refine ⟨hn b hb,by rw [hloc,hsz]; exact F8 (Nat.lt_succ_of_lt (fsz b hb)),?_,?_,?_,fun p hp=>?_⟩
  ·rw [<- hX'];intro z;rcases E2.mp (I3.stkSub b z) with e | z
   ·exact g1 e
   ·exact g2 z
  ·left
   rw [<- hX'];exact hb
  ·intro x c e;rw [henv] at e;rcases c1' x c e with z | z
   ·exact g4 x c (c1 x c z)
   ·exact fun q=>absurd (E4 (fsz b hb) (F6 (F6 (Nat.le_succ _) (hsz ▸ Nat.le_succ _)) (q ▸ z))) (Nat.lt_irrefl _)
  ·rw [<- hX'] at hp;cases hp
 have fin':∀ {σ':St} {H':Hp} {s':aC},Inv X' [] σ' H' s'->Q (.ref s2.heap.objs.size) H'->compPost (aI X.prog X.w) X.A X.xe use QQ (.ref s2.heap.objs.size) s3.heap.objs.size (.ok .next) s':=fun {σ' H' s'} J q=>by
  obtain ⟨mm,hmm,_⟩:=J.loc;rw [hloc] at hmm;have hfree:H' s3.heap.objs.size=none:=by have:=J.free; rw [hloc] at this; exact this
  have hok:=J.hok;rw [hprog,hww] at hok;have u1:Un (frs X.stack) fp (upd H2 s2.heap.objs.size (.lst [])) H' s3.heap s'.heap:=by
   have:=J.base;rw [<- hX'] at this;exact this
  have hos:s'.os=s3.os:=by have:=J.os; rw [<- hX'] at this; exact this
  refine fin _ _ H' s' mm (I3.call' (s':=s') hos u1 hok J.bare fun b hb=>?_) hmm (I3.fpOk (O8 _) hfree) q
  obtain ⟨_,g1,g2,g3,g4,g5⟩:=f3 b hb;exact ⟨g3,g1,g4,g5⟩
 have loop:codeAny (aI X.prog X.w) X.A (.compLoop (.ListComp elt [⟨tg,iter,ifs,0⟩] sc pos) 0 (.ref it) (.ref s2.heap.objs.size) X'.env)
   (compPost (aI X.prog X.w) X.A X.xe use QQ (.ref s2.heap.objs.size) s3.heap.objs.size) { s3 with heap:=h₁ }:=by
  refine Q2c (fun n s'=>∃ i ys σ' H',Inv X' [] σ' H' s'/\tn i s'.heap/\(∀ b∈fp,H' b=none)/\W i n ys σ' H') ?_ m0 ⟨0,[],_,_,I4,st4,fun b hb=>(f3 b hb).1,w0⟩
  rintro n s5 ⟨i,ys,σ5,H5,I5,st5,fr5,w5⟩;obtain ⟨hacc,q⟩:=turn i n ys σ5 H5 w5;rcases q with ⟨stop,q⟩ | ⟨go,hlen,step⟩
  ·refine thn (hAA ▸ T.done X' hprog hww hKK hcc i [] s5 σ5 H5 _ I5 (stat fr5) st5 stop) fun r s6 ⟨hr,I6⟩=>?_
   subst hr;exact fin' I6 q
  ·refine thn (hAA ▸ T.item X' hprog hww hKK hcc i [] s5 σ5 H5 _ I5 (stat fr5) st5 go) fun r s6 ⟨u,hr,h6⟩=>?_
   subst hr;refine thn h6 fun _ s7 ⟨x,H7,I7,r7,y7,st7,fr7⟩=>?_
   have I7':=I7.pinned (stat fr7) (T.obj _ _ st7);have g7:=hg' _ s7 σ5 H7 x u _ I7' r7 (step x H7 y7);rw [hprog,hww,hAA,hxe] at g7;refine thn g7 fun _ s8 ⟨σ8,H8,I8,q8⟩=>?_
   have t8:=htt' _ s8 σ8 H8 _ I8 q8;rw [hprog,hww,hAA,hxe] at t8;refine thn t8 fun okb s8t ⟨H8t,I8t,q8t⟩=>?_
   cases okb with
   | false=>
    rw [bO F0] at q8t ⊢;obtain ⟨m',hm',w9⟩:=q8t;refine ⟨m',hm',i + 1,_,σ8,_,I8t.unpinned,T.keep _ _ _ st7 fun b hb o eo=>(I8t.pin (b,o) (F7 _ (F7 _ (Wu hb eo)))).1,fun b hb=>?_,w9⟩;obtain ⟨o,eo,d⟩:=T.obj _ _ st7 b hb;exact (I8t.pin (b,o) (F7 _ (F7 _ (Wu hb eo)))).2.1
   | true=>
   rw [bN rfl] at q8t ⊢;have g8:=he' _ s8t σ8 H8t _ I8t q8t;rw [hprog,hww,hAA,hxe] at g8;refine thn g8 fun y s9 ⟨yv,H9,I9,r9,a9,m',hm',w9⟩=>?_
   obtain ⟨z,its,nn,rr,hl,e⟩:=I9.lstM a9;refine bB F.slot_list_append ⟨_,e,rfl⟩ F.entry_list_append (F.args_list_append_2 _ _) (PySem.list_append _ its.toArray nn y (by rw [D3]; omega)) ⟨e,?_⟩;have I10:Inv X' ([] ++ Q0x fp s7.heap) σ8 (upd H9 s2.heap.objs.size (.lst (ys ++ [yv]))) { s9 with heap:=s9.heap.update s2.heap.objs.size (Obj.mapSeq fun a=>a.push y) }:=
    I9.lset (t':=s9.toks) (its':=its ++ [y]) a9 e (by simp) (rr.append (.cons r9 .nil)) (by rw [O4,List.length_singleton]; omega)
   refine ⟨m',hm',i + 1,_,σ8,_,I10.unpinned,T.keep _ _ _ st7 fun b hb o eo=>(I10.pin (b,o) (F7 _ (F7 _ (Wu hb eo)))).1,fun b hb=>?_,w9⟩;obtain ⟨o,eo,d⟩:=T.obj _ _ st7 b hb;exact (I10.pin (b,o) (F7 _ (F7 _ (Wu hb eo)))).2.1
 rw [henv] at loop;have goal:=codeAny_compStart_list (rest:=[]) (ifs:=ifs) loop (T.self X.A 0 _ _ _ st4 loop);subst hs3;rw [<- hcl',<- hh₁] at goal;exact goal
theorem Qd3 {elt tg iter:aH} {ifs:List aH} {tt:TT} {pos:Pos} {N N':List Str} {sc scE:Scope} {cap:List (Option Nat)} {g:TG} {te:TE} (hcalm:X.calm=true) (hi:PI X tg iter wi)
  (hg:∀ cl C s0 H0 ex,PG (Zm X N' sc cl C s0 H0 ex) tg g) (he:∀ cl C s0 H0 ex,PE (Zm X N' sc cl C s0 H0 ex) elt te) (htt:∀ cl C s0 H0 ex,PTs (Zm X N' sc cl C s0 H0 ex) ifs tt)
  (hN:X.N=N:=by rfl) (hE:X.env.scope=scE:=by rfl) (hc:compOkC N N' sc scE cap=true:=by decide +kernel) (hs:∀ x,aw iter X.env x=pure x:=by intro _; rfl) :
  PE X (.ListComp elt [⟨tg,iter,ifs,0⟩] sc pos) (Q3j cap wi g tt te):=by
 intro pins s σ H Q I h;rw [eval_ListComp];refine Q1p (use:=none) hcalm hi hg he htt hN hE hc hs I h fun acc C H' s' m I' hm hf q=>⟨m,hm,fun h' hs'=>?_⟩
 obtain ⟨f0,f1,f2,f3,f4,f5⟩:=hf;exact ⟨.ref acc,H',I'.turned (t':=s'.toks) (fun b o hb e=>(hs'.2 b hb).trans e) f0 f1 f3 f4 f5,rfl,q⟩
theorem Q5b {ifs:List aH} {tt:TT} {i:Nat} {px spos:Pos} {elt tg iter:aH} {pos:Pos} {N N':List Str} {sc scE:Scope} {cap:List (Option Nat)} {g:TG} {te:TE} (hnd:X.N.Nodup) (hix:X.N[i]?=some x) (hx:Loc X.env.scope x) (hcalm:X.calm=true) (hi:PI X tg iter wi)
  (hg:∀ cl C s0 H0 ex,PG (Zm X N' sc cl C s0 H0 ex) tg g) (he:∀ cl C s0 H0 ex,PE (Zm X N' sc cl C s0 H0 ex) elt te) (htt:∀ cl C s0 H0 ex,PTs (Zm X N' sc cl C s0 H0 ex) ifs tt)
  (hsw:swapsWith (.ListComp elt [⟨tg,iter,ifs,0⟩] sc pos) (some (.Name x px)) spos.line X.env=pure true:=by rfl)
  (hN:X.N=N:=by rfl) (hE:X.env.scope=scE:=by rfl) (hc:compOkC N N' sc scE cap=true:=by decide +kernel) (hs:∀ x,aw iter X.env x=pure x:=by intro _; rfl)
  (hf:X.fn x=true\/X.env.scope.names.lookup x=some .local:=by first | exact .inl rfl | exact .inr rfl | assumption) :
  PS X (.Assign [.Name x px] (.ListComp elt [⟨tg,iter,ifs,0⟩] sc pos) spos) (Qjw (Q3j cap wi g tt te) (Q66 i)):=by
 intro pins s σ H D I h;rw [exec_Assign_Name_used _ _ _ _ hsw];refine aD (wpAny_standAt (aD ?_));show aF _ _ (do let _ <- comprehension (.ListComp elt [⟨tg,iter,ifs,0⟩] sc pos) sc X.env _ (newList []) false (aM iter X.env) (some (assign (.Name x px) X.env))) _ _ s;refine aD (ak (Q1p (use:=some (assign (.Name x px) X.env)) (QQ:=fun _ s'=>SP X pins D .next s') hcalm hi hg he htt hN hE hc hs I h ?_) (fun _ s' hq=>wpAny_pure (wpAny_pure hq)) fun _ _ e=>e)
 intro acc C H' s' m I' hm hfp q;obtain ⟨f0,f1,f2,f3,f4,f5⟩:=hfp;show aF _ _ (assign (.Name x px) X.env (.ref acc)) _ _ _;refine wpAny_assign_Name (Q2e I' hnd hix hx (v:=.ref acc) rfl (fun s2 I2 ⟨a,sb,ha⟩=>⟨m,?_,fun h' hs'=>?_⟩) hf)
 ·refine hm.sameBut sb fun z=>?_
  rcases ha with ha | ha
  ·exact f1 (z.trans ha)
  ·exact f4 x a ha z.symm
 ·exact ⟨_,H',I2.turned (t':=s2.toks) (fun b o hb e=>(hs'.2 b hb).trans e) f0 f1 f3 f4 f5,q⟩
section
section
variable {κ:Type} [DecidableEq κ]
def Ug (kvs:List (κ × V)) (k:κ):Option V:=(kvs.find? fun kv=>decide (kv.1=k)).map (·.2)
def Uz (kvs:List (κ × V)) (k:κ) (v:V):List (κ × V):=
 if (kvs.any fun kv=>decide (kv.1=k))=true then kvs.map (fun kv=>if kv.1=k then (kv.1,v) else kv) else kvs ++ [(k,v)]
theorem Q0d {p:κ × V} {r:List (κ × V)} {k:κ} (e:p.1=k):Ug (p :: r) k=some p.2:=by simp [Ug,List.find?_cons,e]
theorem Q0e {p:κ × V} {r:List (κ × V)} {k:κ} (e:¬ p.1=k):Ug (p :: r) k=Ug r k:=by simp [Ug,List.find?_cons,e]
theorem Q4n (k:κ):∀ kvs:List (κ × V),(kvs.any fun kv=>decide (kv.1=k))=(Ug kvs k).isSome
 | []=>rfl
 | p :: r=>by
  rw [List.any_cons]
  by_cases e:p.1=k
  ·simp only [Q0d e,bQ e,Bool.true_or,Option.isSome_some]
  ·rw [Q0e e,bP e,Bool.false_or]; exact Q4n k r
theorem Kf (kvs:List (κ × V)) (k:κ) (v:V):(Uz kvs k v).length<=kvs.length + 1:=by
 unfold Uz
 split
 ·rw [O1]; omega
 ·rw [O4,E7,List.length_nil]; omega
theorem RelO.isSome_eq {u:Option aA} (r:RelO o u):o.isSome=u.isSome:=by
 cases o with
 | none=>cases u with
  | none=>rfl
  | some _=>exact (show False from r).elim
 | some _=>cases u with
  | none=>exact (show False from r).elim
  | some _=>rfl
theorem KV.val {kvs:List (κ × V)} {vs:List (κ × aA)} (r:KV kvs vs) (k:κ):RelO (Ug kvs k) (bF vs k):=by
 unfold KV at r
 induction r with
 | nil=>exact True.intro
 | @cons p q ps qs h t ih=>
  obtain ⟨h1,h2⟩:=h
  by_cases e:p.1=k
  ·have e':q.1=k:=h1.symm.trans e;have b:bF (q :: qs) k=some q.2:=by simp [bF,List.find?_cons,e']
   rw [Q0d e,b]; exact h2
  ·have e':¬ q.1=k:=fun z=>e (h1.trans z)
   have b:bF (q :: qs) k=bF qs k:=by simp [bF,List.find?_cons,e']
   rw [Q0e e,b]; exact ih
theorem KV.any {kvs:List (κ × V)} {vs:List (κ × aA)} (r:KV kvs vs) (k:κ):(kvs.any fun kv=>decide (kv.1=k))=vs.any fun kv=>decide (kv.1=k):=by
 unfold KV at r
 induction r with
 | nil=>rfl
 | cons h t ih=>rw [List.any_cons,List.any_cons,ih,h.1]
theorem KV.repl {kvs:List (κ × V)} {vs:List (κ × aA)} (r:KV kvs vs) (k:κ) (ry:RelV y u) :
  KV (kvs.map fun kv=>if kv.1=k then (kv.1,y) else kv) (vs.map fun kv=>if kv.1=k then (kv.1,u) else kv):=by
 unfold KV at r ⊢
 induction r with
 | nil=>exact .nil
 | @cons p q ps qs h t ih=>
  rw [D9,D9];refine .cons ?_ ih;obtain ⟨h1,h2⟩:=h
  by_cases e:p.1=k
  ·rw [bN e,bN (h1.symm.trans e)]; exact ⟨h1,ry⟩
  ·rw [bO e,bO (fun z=>e (h1.trans z))]; exact ⟨h1,h2⟩
theorem KV.put {kvs:List (κ × V)} {vs:List (κ × aA)} (r:KV kvs vs) (k:κ) (ry:RelV y u):KV (Uz kvs k y) (stored vs k u):=by
 unfold Uz stored;rw [r.any k]
 by_cases e:(vs.any fun kv=>decide (kv.1=k))=true
 ·rw [bN e,bN e]; exact r.repl k ry
 ·rw [bO e,bO e]; exact Paired.snoc r ⟨rfl,ry⟩
theorem KV.length {kvs:List (κ × V)} {vs:List (κ × aA)} (r:KV kvs vs):kvs.length=vs.length:=Paired.length r
end
theorem Q8y {w:aJ} {k:Key} (r:RelV (kV k) u):(Y8 P w).is k u=true:=by
 cases k with
 | inl i=>obtain ⟨t,e⟩:=(show ∃ t,u=Value.int i t from r); subst e; exact Q5t P w i t
 | inr x=>obtain ⟨t,e⟩:=(show ∃ t,u=Value.str x t from r); subst e; exact Q5s P w x t
abbrev KT (H:Hp):List (HK × V)->List (HK × aA × aA)->Prop:=aq fun p q=>p.1=q.1/\(∃ u,KR H p.1 u/\RelV u q.2.1)/\RelV p.2 q.2.2
theorem KT.val {kvs:List (HK × V)} (r:KT H kvs xs) (k:HK):RelO (Ug kvs k) ((vAt xs k).map (·.2)):=by
 induction r with
 | nil=>exact True.intro
 | @cons p q ps qs h t ih=>
  obtain ⟨h1,_,h2⟩:=h
  by_cases e:p.1=k
  ·have e':q.1=k:=h1.symm.trans e;have b:vAt (q :: qs) k=some q.2:=by simp [vAt,List.find?_cons,e']
   rw [Q0d e,b]; exact h2
  ·have e':¬ q.1=k:=fun z=>e (h1.trans z)
   have b:vAt (q :: qs) k=vAt qs k:=by simp [vAt,List.find?_cons,e']
   rw [Q0e e,b]; exact ih
theorem KT.repl {kvs:List (HK × V)} (r:KT H kvs xs) (k:HK) (ry:RelV y u) :
  KT H (kvs.map fun kv=>if kv.1=k then (kv.1,y) else kv) (xs.map (Wn k u)):=by
 induction r with
 | nil=>exact .nil
 | @cons p q ps qs h t ih=>
  rw [D9,D9];refine .cons ?_ ih;obtain ⟨h1,h2,h3⟩:=h;unfold Wn
  by_cases e:p.1=k
  ·rw [bN e,bN (h1.symm.trans e)]; exact ⟨h1,h2,ry⟩
  ·rw [bO e,bO (fun z=>e (h1.trans z))]; exact ⟨h1,h2,h3⟩
theorem KT.put {kvs:List (HK × V)} (r:KT H kvs xs) (k:HK) {b:V} {kv:aA} (hb:KR H k b) (rb:RelV b kv) (ry:RelV y u) :
  KT H (Uz kvs k y) (xf xs k kv u):=by
 have e:(kvs.any fun kv=>decide (kv.1=k))=(vAt xs k).isSome:=by
  rw [Q4n,(r.val k).isSome_eq,Option.isSome_map]
 unfold Uz xf;rw [e]
 by_cases q:(vAt xs k).isSome=true
 ·rw [bN q,bN q]; exact r.repl k ry
 ·rw [bO q,bO q]; exact Paired.snoc r ⟨rfl,⟨b,hb,rb⟩,ry⟩
theorem KT.keeps {kvs:List (HK × V)} (r:KT H kvs xs) (ht:∀ b ys,H b=some (.tup ys)->H' b=some (.tup ys)):KT H' kvs xs:=
 Paired.mapP r fun _ _ z=>⟨z.1,(let ⟨u,a,b⟩:=z.2.1; ⟨u,a.keep ht,b⟩),z.2.2⟩
section
variable {P:aL} {w:aJ} {H:Hp} {h:Heap} {a:aB}
theorem Qiy {u:HO} (ok:HOk P w H h) (e:Rd H a u):ObjOk P w H h a u:=e.ok ok
theorem Q32 {kvs:List (Key × V)} (ok:HOk P w H h) (e:Rd H a (.dK kvs)):kvs.length<=sizeLine/\(a == aa)=false/\∃ vs,KV kvs vs/\h.DictOf (Y8 P w) a vs:=
 show ObjOk P w H h a (.dK kvs) from Qiy ok e
theorem Qsv {kvs:List (Key × V)} (ok:HOk P w H h) (e:H a=some (.dK kvs)):kvs.length<=sizeLine/\(a == aa)=false/\∃ vs,KV kvs vs/\h.DictOf (Y8 P w) a vs:=Q32 ok (.inl e)
mutual
theorem Qe3 (ok:HOk P w H h):∀ {k:HK} {v:V} {u:aA},KAt H k v->RelV v u->KIs h k u
 | .int _,_,_,r,ru=>by cases r; exact ru
 | .str _,_,_,r,ru=>by cases r; exact ru
 | .tup l,_,u,⟨a,vs,e,hh,r⟩,ru=>by
  subst e;cases (show u=Value.ref a from ru);obtain ⟨_,its,rv,p⟩:=(show ObjOk P w H h a (.tup vs) from ok a _ hh);exact ⟨a,its.toArray,rfl,p,by simpa using katL_is ok r rv⟩
theorem katL_is (ok:HOk P w H h):∀ {l:List HK} {vs:List V} {us:List aA},KAtL H l vs->Vals vs us->KIsL h l us
 | [],_,_,r,ru=>by cases r; cases ru; rfl
 | _ :: _,_,_,⟨v,r,e,h1,t⟩,ru=>by
  subst e;cases ru with
  | cons a b=>exact ⟨_,_,rfl,Qe3 ok h1 a,katL_is ok t b⟩
end
theorem Q6k {u:V} {v:aA} (ok:HOk P w H h) (e:KR H k u) (r:RelV u v):KIs h k v/\Dp 5 k:=⟨Qe3 ok e.1 r,e.2⟩
theorem z9 (hu:A.units + 9 < aO):A.units + 6 < aO:=by omega
theorem Kp {kvs:List (HK × V)} (ok:HOk P w H h) (e:Rd H a (.dT kvs)):kvs.length<=sizeLine/\(a == aa)=false /\
  ∃ xs,KT H kvs xs/\DictV P w h a xs:=by
 obtain ⟨z,y,xs,r,o,es,ep,h1,h2,h3,h4,h5⟩:=(show ObjOk P w H h a (.dT kvs) from Qiy ok e);refine ⟨z,y,xs,r,o,es,ep,h1,h2,h3,h4,fun x hx=>?_,h5⟩;have all:∀ {l:List (HK × V)} {m:List (HK × aA × aA)},KT H l m->∀ x∈m,KIs h x.1 x.2.1/\Dp 5 x.1:=by
  intro l m q
  induction q with
  | nil=>intro x hx; exact nomatch hx
  | @cons p q ps qs hq t ih=>
   intro x hx;rcases E2.mp hx with e | hx
   ·subst e;obtain ⟨u,a,b⟩:=hq.2.1;exact Q6k ok (by rw [<- hq.1]; exact a) b
   ·exact ih x hx
 exact all r x hx
theorem Qen {kvs:List (HK × V)} (ok:HOk P w H h) (e:H a=some (.dT kvs)):kvs.length<=sizeLine/\(a == aa)=false /\
  ∃ xs,KT H kvs xs/\DictV P w h a xs:=Kp ok (.inl e)
end
def DGet (H:Hp) (a:aB) (y:V) (r:Option V):Prop:=
 (∃ kvs k,Rd H a (.dK kvs)/\y=kV k/\r=Ug kvs k)\/∃ kvs k b,Rd H a (.dT kvs)/\y=b/\KR H k b/\r=Ug kvs k
def DPut (H:Hp) (a:aB) (y v:V) (H':Hp):Prop:=
 (∃ kvs k,H a=some (.dK kvs)/\y=kV k/\kvs.length < sizeLine/\H'=upd H a (.dK (Uz kvs k v))) \/
 ∃ kvs k b,H a=some (.dT kvs)/\y=b/\KR H k b/\kvs.length < sizeLine/\H'=upd H a (.dT (Uz kvs k v))
theorem DPut.t {b:V} {kvs:List (HK × V)} {v:V} (e:H a=some (.dT kvs)) (eb:KR H k b) (hl:kvs.length < sizeLine) :
  DPut H a b v (upd H a (.dT (Uz kvs k v))):=.inr ⟨kvs,k,b,e,rfl,eb,hl,rfl⟩
section
variable {X:Cx} {pins:List (aB × Obj)} {σ:St} {H:Hp} {s:aC} {a:aB} {y v:V} {u r:aA} {o:Option V} {A:aQ} {E:aA->aC->Prop}
theorem Inv.big (I:Inv X pins σ H s):aa < s.heap.objs.size:=by
 have h:aR < s.heap.objs.size:=(I.mod.glob.keeps I.bk).lt;exact Nat.lt_trans (by decide) h
theorem Qau (hu:A.units + 9 < aO) (I:Inv X pins σ H s) (g:DGet H a y (some v)) (ry:RelV y u) (h:∀ w' s',Inv X pins σ H s'->RelV v w'->Q w' s') :
  aF (aI X.prog X.w) A (getItem (.ref a) u) Q E s:=by
 rcases g with ⟨kvs,k,e,ey,l⟩ | ⟨kvs,k,b,e,ey,eb,l⟩
 ·subst ey;obtain ⟨z,hd,vs,rel,dd⟩:=Q32 I.hok e;obtain ⟨w',hw,rw'⟩:=RelO.some_of (v:=v) (o:=bF vs k) (by rw [l]; exact rel.val k);exact wpAny_getItem_of (Q8y ry) dd.mapOf hw (h w' _ (I.tok _) rw')
 ·subst ey;obtain ⟨z,hd,xs,rel,dd⟩:=Kp I.hok e;obtain ⟨w',hw,rw'⟩:=RelO.some_of (v:=v) (o:=(vAt xs k).map (·.2)) (by rw [l]; exact rel.val k);obtain ⟨p,hp,hp2⟩:=Option.map_eq_some_iff.mp hw;refine Q9m (z9 hu) (Q6k I.hok eb ry) dd hp ?_;rw [hp2];exact h w' _ (I.tok _) rw'
theorem Qv9 (hu:A.units + 9 < aO) (I:Inv X pins σ H s) (g:DGet H a y o) (ry:RelV y u) (h:∀ s',Inv X pins σ H s'->Q (.bool o.isSome) s') :
  aF (aI X.prog X.w) A (aS .In u (.ref a)) Q E s:=by
 rcases g with ⟨kvs,k,e,ey,l⟩ | ⟨kvs,k,b,e,ey,eb,l⟩
 ·subst ey;obtain ⟨z,hd,vs,rel,dd⟩:=Q32 I.hok e;refine wpAny_in_of (Q8y ry) hd dd.mapOf ?_;rw [<- (rel.val k).isSome_eq,<- l];exact h _ (I.tok _)
 ·subst ey;obtain ⟨z,hd,xs,rel,dd⟩:=Kp I.hok e;refine Qu5 (z9 hu) (Q6k I.hok eb ry) hd dd ?_;have q:=(rel.val k).isSome_eq;rw [Option.isSome_map] at q;rw [<- q,<- l];exact h _ (I.tok _)
theorem Qie (hu:A.units + 9 < aO) (I:Inv X pins σ H s) (g:DGet H a y o) (ry:RelV y u) (h:∀ s',Inv X pins σ H s'->Q (.bool (!o.isSome)) s') :
  aF (aI X.prog X.w) A (aS .NotIn u (.ref a)) Q E s:=by
 rcases g with ⟨kvs,k,e,ey,l⟩ | ⟨kvs,k,b,e,ey,eb,l⟩
 ·subst ey;obtain ⟨z,hd,vs,rel,dd⟩:=Q32 I.hok e;refine wpAny_notIn_of (Q8y ry) hd dd.mapOf ?_;rw [<- (rel.val k).isSome_eq,<- l];exact h _ (I.tok _)
 ·subst ey;obtain ⟨z,hd,xs,rel,dd⟩:=Kp I.hok e;refine Qfr (z9 hu) (Q6k I.hok eb ry) hd dd ?_;have q:=(rel.val k).isSome_eq;rw [Option.isSome_map] at q;rw [<- q,<- l];exact h _ (I.tok _)
theorem Q07 {t':Nat} {ob:HO} (I:Inv X pins σ H s) (mu:Mut (H a)) (hs:Heap.SameBut a s.heap h') (he:∃ q,h'.get? a=some q) (new:ObjOk X.prog X.w (upd H a ob) h' a ob) :
  Inv X pins σ (upd H a ob) { s with heap:=h',toks:=t' }:=
 I.write (x:=a) (e:=a) mu (.inl rfl) (fun b q hb z=>(hs.2 b hb).trans z) he new
theorem Qp1 {w:aJ} {H':Hp} {kvs:List (Key × V)} {vs:List (Key × aA)} (z:kvs.length<=sizeLine) (hd:(a == aa)=false) (rel:KV kvs vs) (dd:h'.DictOf (Y8 P w) a vs) :
  ObjOk P w H' h' a (.dK kvs):=⟨z,hd,vs,rel,dd⟩
theorem Qat {Q:Unit->aC->Prop} (hu:A.units + 9 < aO) (I:Inv X pins σ H s) (g:DPut H a y v H') (ry:RelV y u) (rv:RelV v r) (h:∀ s',Inv X pins σ H' s'->Q () s') :
  aF (aI X.prog X.w) A (setItem (.ref a) u r) Q E s:=by
 rcases g with ⟨kvs,k,e,ey,l,eH⟩ | ⟨kvs,k,b,e,ey,eb,l,eH⟩
 ·subst ey eH;obtain ⟨z,hd,vs,rel,dd⟩:=Qsv I.hok e;have hz:vs.length<=sizeLine:=by rw [<- rel.length]; exact z
  have hl:(Uz kvs k v).length<=sizeLine:=by have:=Kf kvs k v; omega
  refine wpAny_setItem_pairs (hsz:=hz) (Q8y ry) dd fun h' dd' hs=>h _ ?_
  have he:∃ q,h'.get? a=some q:=let ⟨q,_,_,hq,_⟩:=dd'; ⟨q,hq⟩;exact Q07 I (by rw [e]; exact True.intro) hs he (Qp1 hl hd (rel.put k rv) dd')
 ·subst ey eH;obtain ⟨z,hd,xs,rel,dd⟩:=Qen I.hok e;have hz:xs.length<=sizeLine:=by rw [<- Paired.length rel]; exact z
  have hl:(Uz kvs k v).length<=sizeLine:=by have:=Kf kvs k v; omega
  refine Q9k (z9 hu) (Q6k I.hok eb ry) dd (fun h' dd' hs=>h _ ?_) hz;obtain ⟨q,es,ep,hq,h2,h3,h4,_,h5⟩:=dd';refine Q07 I (by rw [e]; exact True.intro) hs ⟨q,hq⟩ ⟨hl,hd,_,(rel.put k eb ry rv).keeps fun c ys ec=>?_,q,es,ep,hq,h2,h3,h4,h5⟩;rw [Q8 (Qdf ec e (fun z=>nomatch z))];exact ec
end
def Qpm (i:aH):Prop:=∀ ov iv,subscripted i false ov iv=operate [ov,iv] (getItem ov iv)
theorem Qfx {prog:aL} {w:aJ} {A:aQ} {E:aA->aC->Prop} {s:aC} {env:Env} {value slice:aH} {pos:Pos} {T id:String} {Q:aA->aC->Prop}
  (hl:typeLookup (.type T) "__getitem__" = pure (some (.builtin id))) (hs:Qpm slice)
  (h:aF (aI prog w) A (aM value env) (fun o s₁=>aF (aI prog w) A (aM slice env) (fun i s₂=>s₂.TypeIs o T/\aF (aI prog w) A (getItem o i) Q E s₂) E s₁) E s) :
  aF (aI prog w) A (aM (.Subscript value slice pos) env) Q E s:=by
 refine Subscript_ (ak h (fun o s₁ h₁=>ak h₁ (fun i s₂ h₂=>?_) fun _ _ x=>x) fun _ _ x=>x)
 obtain ⟨hT,h₂⟩:=h₂;unfold subscriptTail;refine aD ?_;rw [getitemInPython_of_ne hT.not_modules];refine aD (wpAny_specialOf hT hl ?_);have fin:aF (aI prog w) A (subscripted slice false o i) (fun r s₃=>aF (aI prog w) A (letTemporaryGo value o r >>= fun _=>pure r) Q E s₃) E s₂:=by
  rw [hs o i];exact wpAny_operating (ak h₂ (fun r s₃ h₃=>aD (wpAny_letTemporaryGo (wpAny_pure h₃))) fun _ _ x=>x)
 first
  | exact wpAny_pure (aD fin)
  | exact aD (wpAny_pure (aD fin))
  | exact aD fin
theorem Q6b {pins:List (aB × Obj)} (I:Inv X pins σ H s) (g:DGet H a y o):s.TypeIs (.ref a) "dict" := by
 rcases g with ⟨kvs,k,e,_,_⟩ | ⟨kvs,k,b,e,_,_,_⟩
 ·obtain ⟨_,_,vs,_,dd⟩:=Q32 I.hok e;exact dd.typeIs
 ·obtain ⟨_,_,xs,_,dd⟩:=Kp I.hok e;exact dd.typeIs
def Qqg (td ty:TE):TE:=fun σ H Q=>td σ H fun x H1=>ty σ H1 fun y H2=>∃ a v,x=.ref a/\DGet H2 a y (some v)/\Q v H2
def Qqt (td ty tv:TE):TS:=fun D σ H=>tv σ H fun v H1=>td σ H1 fun x H2=>ty σ H2 fun y H3=>∃ a H4,x=.ref a/\DPut H3 a y v H4/\D.nx σ H4
section
variable {X:Cx} {o i e value:aH} {pos pos' tpos:Pos} {td ty tv:TE}
theorem Qh5 (hu:X.A.units + 9 < aO) (ho:PE X o td) (hi:PE X i ty) (hs:Qpm i):PE X (.Subscript o i pos) (Qqg td ty):=by
 intro pins s σ H Q I h;refine Qfx PySem.F.slot_dict_getitem.lookup hs (thn (ho pins s σ H _ I h) fun u s1 ⟨x,H1,I1,rx,q1⟩=>thn (hi pins s1 σ H1 _ I1 q1) fun iv s2 ⟨y,H2,I2,ry,a,v,ex,g,q2⟩=>?_)
 subst ex;obtain rfl:u=Value.ref a:=rx;exact ⟨Q6b I2 g,Qau hu I2 g ry fun w' s3 I3 rw'=>⟨v,H2,I3,rw',q2⟩⟩
theorem Qgs (hu:X.A.units + 9 < aO) (ho:PE X o td) (hi:PE X i ty) (hv:PE X value tv) (hs:swapsWith value (some (.Subscript o i pos')) pos.line X.env=pure false) :
  PS X (.Assign [.Subscript o i pos'] value pos) (Qqt td ty tv):=by
 intro pins s σ H D I h;refine wpAny_Assign_Subscript (thn (hv pins s σ H _ I h) fun r s1 ⟨v,H1,I1,rv,q1⟩=>thn (ho pins s1 σ H1 _ I1 q1) fun u s2 ⟨x,H2,I2,rx,q2⟩=>thn (hi pins s2 σ H2 _ I2 q2) fun iv s3 ⟨y,H3,I3,ry,a,H4,ex,g,q3⟩=>?_) hs
 subst ex;obtain rfl:u=Value.ref a:=rx;exact Qat hu I3 g ry rv fun s4 I4=>⟨σ,H4,I4,q3⟩
end
theorem Q6a {w:aJ} (h:Heap) (hb:aa < h.objs.size):ObjOk P w H (h.push { cls:=.type "dict",data:=.dict #[] }) h.objs.size (.dT []):=
 ⟨Nat.zero_le _,beq_eq_false_iff_ne.mpr (Ne.symm (F8 hb)),[],.nil,_,#[],0,E9 _ rfl,⟨rfl,rfl,rfl⟩,rfl,rfl,List.nodup_nil⟩
def Qjv:TE:=fun _ H Q=>∀ p,H p=none->Q (.ref p) (upd H p (.dT []))
section
variable {X:Cx} {pos:Pos}
theorem Qd2:PE X (.Dict [] [] pos) Qjv:=fun pins s σ H Q I h=>
 wpAny_Dict_empty ⟨.ref s.heap.objs.size,_,I.laid (a:=s.heap.objs.size) (o:=.dT []) (t':=s.toks) (fun _ _ q=>O6 _ q) (O8 _) (Q6a s.heap I.big),rfl,h _ (I.hok.fresh (O8 _))⟩
end
def Q6t:List (TE × TE)->St->Hp->(List (V × V)->Hp->Prop)->Prop
 | [],_,H,Q=>Q [] H
 | (tk,tv) :: r,σ,H,Q=>tk σ H fun x H1=>tv σ H1 fun y H2=>Q6t r σ H2 fun ps H3=>Q ((x,y) :: ps) H3
abbrev VV:List (V × V)->List (aA × aA)->Prop:=aq fun p q=>RelV p.1 q.1/\RelV p.2 q.2
def PPs (X:Cx) (pos:Pos) (keys:List (Option aH)) (values:List aH) (trs:List (TE × TE)):Prop:=
 ∀ (pins:List (aB × Obj)) (s:aC) (σ:St) (H:Hp) (Q:List (V × V)->Hp->Prop),Inv X pins σ H s->Q6t trs σ H Q ->
  aF (aI X.prog X.w) X.A (evalPairs (pairTrees keys values X.env pos)) (fun vs s'=>∃ ps H',Inv X pins σ H' s'/\VV ps vs/\Q ps H') X.xe s
theorem Qgu {pos:Pos}:PPs X pos [] [] []:=fun pins s σ H Q I h=>pairTrees_nil_walk ⟨[],H,I,.nil,h⟩
theorem Qcq {pos:Pos} {k v:aH} {ks:List (Option aH)} {vs:List aH} {tk tv:TE} {trs:List (TE × TE)} (hk:PE X k tk) (hv:PE X v tv) (hr:PPs X pos ks vs trs) :
  PPs X pos (some k :: ks) (v :: vs) ((tk,tv) :: trs):=fun pins s σ H Q I h=>
 pairTrees_cons_walk (thn (hk pins s σ H _ I h) fun u s1 ⟨x,H1,I1,rx,q1⟩=>thn (hv pins s1 σ H1 _ I1 q1) fun w2 s2 ⟨y,H2,I2,ry,q2⟩=>
  thn (hr pins s2 σ H2 _ I2 q2) fun ws s3 ⟨ps,H3,I3,rel,q3⟩=>⟨(x,y) :: ps,H3,I3,.cons ⟨rx,ry⟩ rel,q3⟩)
structure M1 (X:Cx) (o:aH) (m:Str) (apos:Pos) (e:aH) (cpos:Pos):Prop where
 base:bH o m X.env (aM o X.env)=aM o X.env
 few:((aX cpos (aN [e] X.env)).all (fun x=>!x.1) && (backToKw cpos (keywordEach [] X.env)).all (fun x=>x.1.isSome)
  && decide (([e]:List aH).length + ([]:List Keyword).length + (if ([]:List Keyword).isEmpty then 0 else 1) < 30))=true
 line:(apos.endLine == cpos.line)=true
 trees:aX cpos (aN [e] X.env)=[(false,aM e X.env)]
structure M2 (X:Cx) (o:aH) (m:Str) (apos:Pos) (e f:aH) (cpos:Pos):Prop where
 base:bH o m X.env (aM o X.env)=aM o X.env
 few:((aX cpos (aN [e,f] X.env)).all (fun x=>!x.1) && (backToKw cpos (keywordEach [] X.env)).all (fun x=>x.1.isSome)
  && decide (([e,f]:List aH).length + ([]:List Keyword).length + (if ([]:List Keyword).isEmpty then 0 else 1) < 30))=true
 line:(apos.endLine == cpos.line)=true
 trees:aX cpos (aN [e,f] X.env)=[(false,aM e X.env),(false,aM f X.env)]
def IsD (H:Hp) (a:aB):Prop:=(∃ kvs,Rd H a (.dK kvs))\/∃ kvs,Rd H a (.dT kvs)
theorem Qnq {pins:List (aB × Obj)} (I:Inv X pins σ H s) (d:IsD H a) :
  s.TypeIs (.ref a) "dict" /\ (∀ b,Value.ref a=.ref b->∃ ob,s.heap.get? b=some ob/\ob.dict=none)/\(a == aa)=false:=by
 rcases d with ⟨kvs,e⟩ | ⟨kvs,e⟩
 ·obtain ⟨_,hd,vs,_,dd⟩:=Q32 I.hok e;refine ⟨dd.typeIs,fun b q=>?_,hd⟩;cases q;obtain ⟨ob,_,_,h1,h2,_⟩:=dd;exact ⟨ob,h1,h2.2.1⟩
 ·obtain ⟨_,hd,xs,_,dd⟩:=Kp I.hok e;refine ⟨dd.typeIs,fun b q=>?_,hd⟩;cases q;obtain ⟨ob,_,_,h1,h2,_⟩:=dd;exact ⟨ob,h1,h2.2.1⟩
end
variable {pins:List (aB × Obj)} {σ:St} {a:aB} {tg:aH}
def Qjc (X:Cx) (a:aB):Prop:=∀ o u,X.H₀ a≠some (.frz o u)
end L2
namespace L2
open PySem PySem.Spec PyProof.Rows PySem.W
variable {p:Array Nat} {n:Nat} {h:Heap} {vs:List aA}
def evT {α:Type} (c:Nat->Nat->Bool):KasT α->α
 | .ret a=>a
 | .ask i j k=>evT c (k (c i j))
theorem X4 {α β:Type} (c:Nat->Nat->Bool) (f:α->KasT β):∀ t:KasT α,evT c (t.bind f)=evT c (f (evT c t))
 | .ret _=>rfl
 | .ask i j k=>X4 c f (k (c i j))
section
variable (r:Nat->Nat)
def rk (p:Array Nat) (i:Nat):Nat:=r (p.getD i 0)
def cR:Nat->Nat->Bool:=fun i j=>decide (r i < r j)
variable {r}
theorem Q55 {q:Array Nat} {i j:Nat} (h:p[i]?=q[j]?):rk r p i=rk r q j:=by
 unfold rk;rw [Array.getD_eq_getD_getElem?,Array.getD_eq_getD_getElem?,h]
theorem Q6y {i j:Nat} (hj:j<=p.size) (k:Nat):rk r (kas_rev p i j) k=if i<=k/\k < j then rk r p (i + j - 1 - k) else rk r p k:=by
 have h:=getElem?_mirror_all (xs:=p) (i:=i) hj k
 by_cases q:i<=k/\k < j
 ·rw [bN q] at h ⊢; exact Q55 h
 ·rw [bO q] at h ⊢; exact Q55 h
theorem Qca {src d:Nat} (hs:src < p.size) (hd:d<=src) (k:Nat):rk r (bubble p src d) k=if k=src - d then rk r p src else if src - d < k/\k<=src then rk r p (k - 1) else rk r p k:=by
 have h:=getElem?_bubble hs d hd k
 by_cases q:k=src - d
 ·rw [bN q] at h ⊢; exact Q55 h
 ·rw [bO q] at h ⊢
  by_cases q2:src - d < k/\k<=src
  ·rw [bN q2] at h ⊢; exact Q55 h
  ·rw [bO q2] at h ⊢; exact Q55 h
theorem jr (i j:Nat):(kas_rev p i j).size=p.size:=mirror_size _ _ _ _
theorem Wa (i j:Nat):(kas_rev p i j).Perm p:=mirror_perm _ _ _ _
theorem Q7z (p:Array Nat):∀ f n,1<=n->n<=evT (cR r) (kas_asc p f n)/\evT (cR r) (kas_asc p f n)<=n + f/\(∀ i,n<=i->i < evT (cR r) (kas_asc p f n)->rk r p (i - 1)<=rk r p i)/\(evT (cR r) (kas_asc p f n) < n + f->rk r p (evT (cR r) (kas_asc p f n)) < rk r p (evT (cR r) (kas_asc p f n) - 1))
 | 0,n,_=>⟨O8 _,O8 _,fun i h1 h2=>absurd h2 (by show ¬ i < n; omega),fun h=>absurd h (by show ¬ n < n + 0; omega)⟩
 | f + 1,n,hn=>by
  have e:evT (cR r) (kas_asc p (f + 1) n)=if rk r p n < rk r p (n - 1) then n else evT (cR r) (kas_asc p f (n + 1)):=by
   show evT (cR r) (if decide (rk r p n < rk r p (n - 1))=true then KasT.ret n else kas_asc p f (n + 1))=_
   by_cases q:rk r p n < rk r p (n - 1)
   ·rw [bN (by simpa using q),bN q]; rfl
   ·rw [bO (by simpa using q),bO q]
  rw [e]
  by_cases q:rk r p n < rk r p (n - 1)
  ·rw [bN q];exact ⟨O8 _,by omega,fun i h1 h2=>by omega,fun _=>q⟩
  ·rw [bO q];obtain ⟨h1,h2,h3,h4⟩:=Q7z p f (n + 1) (by omega);refine ⟨by omega,by omega,fun i g1 g2=>?_,fun g=>h4 (by omega)⟩
   by_cases z:i=n
   ·subst z; omega
   ·exact h3 i (by omega) g2
theorem Q0s {i j:Nat} (hj:j<=p.size) (h:∀ k,i<=k->k < j->rk r p k=rk r p (j - 1)) (k:Nat):rk r (kas_rev p i j) k=rk r p k:=by
 rw [Q6y hj]
 by_cases q:i<=k/\k < j
 ·rw [bN q,h (i + j - 1 - k) (by omega) (by omega),h k q.1 q.2]
 ·rw [bO q]
structure Dsc (r:Nat->Nat) (p:Array Nat) (n q:Nat):Prop where
 n1:1<=n
 sz:n<=p.size
 qn:q + 1<=n
 de:∀ i,1<=i->i < n->rk r p i<=rk r p (i - 1)
 eq:∀ i,n - (q + 1)<=i->i < n->rk r p i=rk r p (n - 1)
theorem Q06:∀ f (p:Array Nat) n q,Dsc r p n q->n + f<=p.size->Dsc r (evT (cR r) (kas_desc f p n q)).1 (evT (cR r) (kas_desc f p n q)).2.1 (evT (cR r) (kas_desc f p n q)).2.2/\(evT (cR r) (kas_desc f p n q)).1.Perm p/\n<=(evT (cR r) (kas_desc f p n q)).2.1/\(evT (cR r) (kas_desc f p n q)).2.1<=n + f
 | 0,p,n,q,h,_=>⟨h,Array.Perm.refl _,O8 _,O8 _⟩
 | f + 1,p,n,q,h,hs=>by
  have e:evT (cR r) (kas_desc (f + 1) p n q)=if rk r p n < rk r p (n - 1) then (if q > 0 then evT (cR r) (kas_desc f (kas_rev p (n - (q + 1)) n) (n + 1) 0) else evT (cR r) (kas_desc f p (n + 1) 0)) else if rk r p (n - 1) < rk r p n then (p,n,q) else evT (cR r) (kas_desc f p (n + 1) (q + 1)):=by
   show evT (cR r) (if decide (rk r p n < rk r p (n - 1))=true then (if q > 0 then kas_desc f (kas_rev p (n - (q + 1)) n) (n + 1) 0 else kas_desc f p (n + 1) 0) else KasT.ask (p.getD (n - 1) 0) (p.getD n 0) fun d=>if d=true then .ret (p,n,q) else kas_desc f p (n + 1) (q + 1))=_
   by_cases z:rk r p n < rk r p (n - 1)
   ·rw [bN (by simpa using z),bN z]
    split <;> rfl
   ·rw [bO (by simpa using z),bO z];show evT (cR r) (if decide (rk r p (n - 1) < rk r p n)=true then KasT.ret (p,n,q) else kas_desc f p (n + 1) (q + 1))=_
    by_cases z2:rk r p (n - 1) < rk r p n
    ·rw [bN (by simpa using z2),bN z2]; rfl
    ·rw [bO (by simpa using z2),bO z2]
  rw [e]
  by_cases z:rk r p n < rk r p (n - 1)
  ·rw [bN z]
   by_cases hq:q > 0
   ·rw [bN hq];have he:=Q0s (r:=r) (p:=p) (i:=n - (q + 1)) (j:=n) h.sz h.eq;obtain ⟨h1,h2,h3,h4⟩:=Q06 f (kas_rev p (n - (q + 1)) n) (n + 1) 0 ⟨by omega,by rw [jr]; omega,by omega,fun i g1 g2=>by
     rw [he,he]
     by_cases y:i=n
     ·subst y; omega
     ·exact h.de i g1 (by omega),fun i g1 g2=>by
     have:i=n:=by omega
     subst this; rfl⟩ (by rw [jr]; omega)
    exact ⟨h1,h2.trans (Wa _ _),by omega,by omega⟩
   ·rw [bO hq];obtain ⟨h1,h2,h3,h4⟩:=Q06 f p (n + 1) 0 ⟨by omega,by omega,by omega,fun i g1 g2=>by
     by_cases y:i=n
     ·subst y; omega
     ·exact h.de i g1 (by omega),fun i g1 g2=>by
     have:i=n:=by omega
     subst this; rfl⟩ (by omega)
    exact ⟨h1,h2,by omega,by omega⟩
  ·rw [bO z]
   by_cases z2:rk r p (n - 1) < rk r p n
   ·rw [bN z2];exact ⟨h,Array.Perm.refl _,O8 _,by show n<=n + (f + 1); omega⟩
   ·rw [bO z2];have hn:=h.n1;have hqn:=h.qn;obtain ⟨h1,h2,h3,h4⟩:=Q06 f p (n + 1) (q + 1) ⟨by omega,by omega,by omega,fun i g1 g2=>by
     by_cases y:i=n
     ·subst y; omega
     ·exact h.de i g1 (by omega),fun i g1 g2=>by
     show rk r p i=rk r p n
     by_cases y:i=n
     ·rw [y]
     ·rw [h.eq i (by omega) (by omega)]; omega⟩ (by omega)
    exact ⟨h1,h2,by omega,by omega⟩
def Srt (r:Nat->Nat) (p:Array Nat) (m:Nat):Prop:=∀ i,1<=i->i < m->rk r p (i - 1)<=rk r p i
theorem Q8b {nrem:Nat} (hn:1<=n) (hnr:n<=nrem) (hs:nrem<=p.size) (hd:∀ i,1<=i->i < n->rk r p i<=rk r p (i - 1)) :
  1<=(evT (cR r) (kas_tail3 n nrem p)).1/\(evT (cR r) (kas_tail3 n nrem p)).1<=nrem/\Srt r (evT (cR r) (kas_tail3 n nrem p)).2 (evT (cR r) (kas_tail3 n nrem p)).1/\(evT (cR r) (kas_tail3 n nrem p)).2.Perm p:=by
 obtain ⟨h1,h2,h3,_⟩:=Q7z (r:=r) (kas_rev p 0 n) (nrem - n) n hn;unfold kas_tail3;rw [X4];show 1<=evT (cR r) (kas_asc (kas_rev p 0 n) (nrem - n) n)/\_/\Srt r (kas_rev p 0 n) _/\(kas_rev p 0 n).Perm p;refine ⟨by omega,by show evT (cR r) (kas_asc (kas_rev p 0 n) (nrem - n) n)<=nrem; omega,fun i g1 g2=>?_,Wa _ _⟩
 by_cases z:i < n
 ·rw [Q6y (by omega),Q6y (by omega),bN (by omega),bN (by omega)];have:=hd (0 + n - 1 - (i - 1)) (by omega) (by omega);rw [show 0 + n - 1 - (i - 1) - 1=0 + n - 1 - i by omega] at this;exact this
 ·exact h3 i (by omega) g2
theorem yw {nrem:Nat} (hn:1<=n) (hnr:n < nrem) (hs:nrem<=p.size) (heq:∀ i,i < n->rk r p i=rk r p (n - 1)) (hlt:rk r p n < rk r p (n - 1)) :
  1<=(evT (cR r) (kas_descPart n nrem p)).1/\(evT (cR r) (kas_descPart n nrem p)).1<=nrem/\Srt r (evT (cR r) (kas_descPart n nrem p)).2 (evT (cR r) (kas_descPart n nrem p)).1/\(evT (cR r) (kas_descPart n nrem p)).2.Perm p:=by
 obtain ⟨D,P,h3,h4⟩:=Q06 (r:=r) (nrem - (n + 1)) p (n + 1) 0 ⟨by omega,by omega,by omega,fun i g1 g2=>by
  by_cases y:i=n
  ·subst y; omega
  ·rw [heq i (by omega),heq (i - 1) (by omega)]; exact O8 _,fun i g1 g2=>by
  have:i=n:=by omega
  subst this; rfl⟩ (by omega)
 unfold kas_descPart;rw [X4];generalize evT (cR r) (kas_desc (nrem - (n + 1)) p (n + 1) 0)=x at *;obtain ⟨p1,m,q⟩:=x;have sz:p1.size=p.size:=P.size_eq;simp only at D P h3 h4;dsimp only
 by_cases z:q > 0
 ·rw [bN z];have he:=Q0s (r:=r) (p:=p1) (i:=m - (q + 1)) (j:=m) D.sz D.eq;obtain ⟨a,b,c,d⟩:=Q8b (r:=r) (p:=kas_rev p1 (m - (q + 1)) m) (n:=m) (nrem:=nrem) D.n1 (by omega) (by rw [jr]; omega) (fun i g1 g2=>by rw [he,he]; exact D.de i g1 g2);exact ⟨a,b,c,(d.trans (Wa _ _)).trans P⟩
 ·rw [bO z];obtain ⟨a,b,c,d⟩:=Q8b (r:=r) (p:=p1) (n:=m) (nrem:=nrem) D.n1 (by omega) (by omega) D.de;exact ⟨a,b,c,d.trans P⟩
theorem Srt.le {m:Nat} (h:Srt r p m):∀ {i j:Nat},i<=j->j < m->rk r p i<=rk r p j:=by
 intro i j hij
 induction j with
 | zero => intro _; have : i = 0 := by omega
           subst this; exact O8 _
 | succ j ih=>
  intro hj
  by_cases z:i=j + 1
  ·subst z; exact O8 _
  ·have h1:=ih (by omega) (by omega);have h2:=h (j + 1) (by omega) hj;rw [Nat.add_sub_cancel] at h2;exact F6 h1 h2
theorem Qex (hn:1<=n) (hs:n<=p.size) :
  1<=(evT (cR r) (kas_count n p)).1/\(evT (cR r) (kas_count n p)).1<=n/\Srt r (evT (cR r) (kas_count n p)).2 (evT (cR r) (kas_count n p)).1/\(evT (cR r) (kas_count n p)).2.Perm p:=by
 obtain ⟨h1,h2,h3,h4⟩:=Q7z (r:=r) p (n - 1) 1 (O8 _);unfold kas_count;rw [X4];generalize evT (cR r) (kas_asc p (n - 1) 1)=m at *;have S:Srt r p m:=fun i g1 g2=>h3 i g1 g2
 by_cases z:m=n
 ·subst z;rw [bN (by simp)];exact ⟨h1,O8 _,S,Array.Perm.refl _⟩
 ·rw [bO (by simpa using z)];have hlt:=h4 (by omega)
  by_cases z2:m > 1
  ·rw [bN z2];show 1<=(evT (cR r) (if decide (rk r p 0 < rk r p (m - 1))=true then KasT.ret (m,p) else kas_descPart m n (kas_rev p 0 m))).1/\(evT (cR r) (if decide (rk r p 0 < rk r p (m - 1))=true then KasT.ret (m,p) else kas_descPart m n (kas_rev p 0 m))).1<=n/\Srt r (evT (cR r) (if decide (rk r p 0 < rk r p (m - 1))=true then KasT.ret (m,p) else kas_descPart m n (kas_rev p 0 m))).2 (evT (cR r) (if decide (rk r p 0 < rk r p (m - 1))=true then KasT.ret (m,p) else kas_descPart m n (kas_rev p 0 m))).1/\(evT (cR r) (if decide (rk r p 0 < rk r p (m - 1))=true then KasT.ret (m,p) else kas_descPart m n (kas_rev p 0 m))).2.Perm p
   by_cases z3:rk r p 0 < rk r p (m - 1)
   ·rw [bN (by simpa using z3)];exact ⟨h1,by show m<=n; omega,S,Array.Perm.refl _⟩
   ·rw [bO (by simpa using z3)];have eq:∀ i,i < m->rk r p i=rk r p (m - 1):=fun i hi=>by
     have a:=S.le (i:=0) (j:=i) (by omega) hi;have b:=S.le (i:=i) (j:=m - 1) (by omega) (by omega);omega
    have he:=Q0s (r:=r) (p:=p) (i:=0) (j:=m) (by omega) (fun k _ hk=>eq k hk);obtain ⟨a,b,c,d⟩:=yw (r:=r) (p:=kas_rev p 0 m) (n:=m) (nrem:=n) h1 (by omega) (by rw [jr]; exact hs) (fun i hi=>by rw [he,he]; exact eq i hi) (by rw [he,he]; exact hlt);exact ⟨a,b,c,d.trans (Wa _ _)⟩
  ·rw [bO z2];have:m=1:=by omega
   subst this;exact yw (r:=r) (O8 _) (by omega) hs (fun i hi=>by rw [show i=0 by omega]) hlt
theorem Q0w {p:Array Nat} {k:Nat} (S:Srt r p k):∀ f l q,l<=q->q<=k->q - l<=f->(∀ i,i < l->rk r p i<=rk r p k)->(∀ i,q<=i->i < k->rk r p k < rk r p i) ->
  evT (cR r) (kas_place p k f l q)<=k/\(∀ i,i < evT (cR r) (kas_place p k f l q)->rk r p i<=rk r p k)/\(∀ i,evT (cR r) (kas_place p k f l q)<=i->i < k->rk r p k < rk r p i)
 | 0,l,q,h1,h2,h3,h4,h5=>by
  have:l=q:=by omega
  subst this;exact ⟨h2,h4,h5⟩
 | f + 1,l,q,h1,h2,h3,h4,h5=>by
  by_cases z:l>=q
  ·have:l=q:=by omega
   subst this;have e:evT (cR r) (kas_place p k (f + 1) l l)=l:=by rw [kas_place,bN (O8 _)]; rfl
   rw [e];exact ⟨h2,h4,h5⟩
  ·have e:evT (cR r) (kas_place p k (f + 1) l q)=if rk r p k < rk r p ((l + q) / 2) then evT (cR r) (kas_place p k f l ((l + q) / 2)) else evT (cR r) (kas_place p k f ((l + q) / 2 + 1) q):=by
    rw [kas_place,bO z];show evT (cR r) (if decide (rk r p k < rk r p ((l + q) / 2))=true then kas_place p k f l ((l + q) / 2) else kas_place p k f ((l + q) / 2 + 1) q)=_
    by_cases y:rk r p k < rk r p ((l + q) / 2)
    ·rw [bN (by simpa using y),bN y]
    ·rw [bO (by simpa using y),bO y]
   rw [e];have m1:l<=(l + q) / 2:=by omega
   have m2:(l + q) / 2 < q:=by omega
   generalize (l + q) / 2=mm at *
   by_cases y:rk r p k < rk r p mm
   ·rw [bN y];exact Q0w S f l mm m1 (by omega) (by omega) h4 fun i g1 g2=>E4 y (S.le g1 g2)
   ·rw [bO y];exact Q0w S f (mm + 1) q (by omega) h2 (by omega) (fun i g=>F6 (S.le (show i<=mm by omega) (by omega)) (by omega)) h5
theorem Qfg:∀ f (p:Array Nat) k,1<=k->k + f<=p.size->Srt r p k->Srt r (evT (cR r) (kas_bin f p k)) (k + f)/\(evT (cR r) (kas_bin f p k)).Perm p
 | 0,p,k,_,_,S=>⟨S,Array.Perm.refl _⟩
 | f + 1,p,k,hk,hs,S=>by
  obtain ⟨h1,h2,h3⟩:=Q0w S k 0 k (Nat.zero_le _) (O8 _) (by omega) (fun i g=>by omega) (fun i g1 g2=>by omega);have e:evT (cR r) (kas_bin (f + 1) p k)=evT (cR r) (kas_bin f (bubble p k (k - evT (cR r) (kas_place p k k 0 k))) (k + 1)):=by rw [kas_bin,X4]
  rw [e];generalize evT (cR r) (kas_place p k k 0 k)=l at *;have S2:Srt r (bubble p k (k - l)) (k + 1):=fun i g1 g2=>by
   rw [Qca (by omega) (by omega),Qca (by omega) (by omega),show k - (k - l)=l by omega]
   by_cases a:i=l
   ·subst a;rw [bO (by omega),bO (by omega),bN rfl];exact h2 (i - 1) (by omega)
   ·by_cases b:i - 1=l
    ·rw [bN b,bO a,bN (by omega),b];exact Nat.le_of_lt (h3 l (O8 _) (by omega))
    ·rw [bO b,bO a]
     by_cases c:l < i
     ·rw [bN (by omega),bN (by omega)];exact S (i - 1) (by omega) (by omega)
     ·rw [bO (by omega),bO (by omega)];exact S i g1 (by omega)
  obtain ⟨a,b⟩:=Qfg f (bubble p k (k - l)) (k + 1) (by omega) (by rw [bubble_size]; omega) S2;exact ⟨by rw [show k + (f + 1)=k + 1 + f by omega]; exact a,b.trans (bubble_perm _ _ _)⟩
theorem Qg1 (hn:1<=n):Srt r (evT (cR r) (kas_sort n)) n/\(evT (cR r) (kas_sort n)).Perm (List.toArray (List.range n)):=by
 obtain ⟨h1,h2,h3,h4⟩:=Qex (r:=r) (p:=List.toArray (List.range n)) (n:=n) hn (by simp);unfold kas_sort;rw [X4];generalize evT (cR r) (kas_count n (List.toArray (List.range n)))=x at *;obtain ⟨m,p⟩:=x;have sz:p.size=n:=by have:=h4.size_eq; simpa using this
 simp only at h1 h2 h3 h4;dsimp only
 by_cases z:m < n
 ·rw [bN z,show max m 1=m by omega];obtain ⟨a,b⟩:=Qfg (r:=r) (n - m) p m h1 (by omega) h3;rw [show m + (n - m)=n by omega] at a;exact ⟨a,b.trans h4⟩
 ·rw [bO z];have:m=n:=by omega
  subst this;exact ⟨h3,h4⟩
end
def Asks {α:Type} (n:Nat):KasT α->(α->Prop)->Prop
 | .ret a,P=>P a
 | .ask i j k,P=>i < n/\j < n/\∀ b,Asks n (k b) P
theorem Asks.bind {α β:Type} {P:α->Prop} {Q:β->Prop} {f:α->KasT β} (hf:∀ a,P a->Asks n (f a) Q):∀ {t:KasT α},Asks n t P->Asks n (t.bind f) Q
 | .ret a,h=>hf a h
 | .ask i j k,h=>⟨h.1,h.2.1,fun b=>Asks.bind hf (h.2.2 b)⟩
def AL (n:Nat) (p:Array Nat):Prop:=0 < n/\∀ x∈p.toList,x < n
theorem AL.get (h:AL n p) (i:Nat):p.getD i 0 < n:=by
 rw [Array.getD_eq_getD_getElem?]
 by_cases z:i < p.size
 ·rw [Array.getElem?_eq_getElem z];exact h.2 _ (by simp)
 ·rw [Array.getElem?_eq_none (by omega)]; exact h.1
theorem AL.perm {q:Array Nat} (h:AL n p) (e:q.Perm p):AL n q:=⟨h.1,fun x hx=>h.2 x ((Array.perm_iff_toList_perm.mp e).mem_iff.mp hx)⟩
theorem Wh {α:Type} {P:α->Prop} {c:Prop} [Decidable c] {t u:KasT α} (h1:Asks n t P) (h2:Asks n u P):Asks n (if c then t else u) P:=by
 split
 ·exact h1
 ·exact h2
theorem Q1s {n:Nat} {p:Array Nat} (h:AL n p):∀ f m,Asks n (kas_asc p f m) (fun _=>True)
 | 0,m=>trivial
 | f + 1,m=>⟨h.get _,h.get _,fun b=>Wh trivial (Q1s h f (m + 1))⟩
theorem qj {n:Nat}:∀ f (p:Array Nat) m q,AL n p->Asks n (kas_desc f p m q) (fun x=>AL n x.1)
 | 0,p,m,q,h=>h
 | f + 1,p,m,q,h=>⟨h.get _,h.get _,fun b=>Wh (Wh (qj f _ _ _ (h.perm (Wa _ _))) (qj f _ _ _ h)) ⟨h.get _,h.get _,fun d=>Wh h (qj f _ _ _ h)⟩⟩
theorem Q3d (h:AL n p) (m k:Nat):Asks n (kas_tail3 m k p) (fun x=>AL n x.2):=by
 unfold kas_tail3;refine Asks.bind (P:=fun _=>True) (fun a _=>?_) (Q1s (h.perm (Wa _ _)) _ _);exact h.perm (Wa _ _)
theorem qv (h:AL n p) (m k:Nat):Asks n (kas_descPart m k p) (fun x=>AL n x.2):=
 Asks.bind (fun x hx=>Wh (Q3d (AL.perm hx (Wa _ _)) _ _) (Q3d hx _ _)) (qj _ _ _ _ h)
theorem Q7y (h:AL n p) (k:Nat):Asks n (kas_count k p) (fun x=>AL n x.2):=by
 unfold kas_count;refine Asks.bind (P:=fun _=>True) (fun m _=>?_) (Q1s h _ _);refine Wh (show AL n p from h) (Wh ?_ (qv h _ _));exact ⟨h.get _,h.get _,fun c=>Wh (show AL n p from h) (qv (h.perm (Wa _ _)) _ _)⟩
theorem jf {n:Nat} {p:Array Nat} (h:AL n p) (k:Nat):∀ f l q,Asks n (kas_place p k f l q) (fun _=>True)
 | 0,_,_=>trivial
 | f + 1,l,q=>by
  rw [kas_place];exact Wh trivial ⟨h.get _,h.get _,fun c=>Wh (jf h k f _ _) (jf h k f _ _)⟩
theorem Q6h {n:Nat}:∀ f (p:Array Nat) k,AL n p->Asks n (kas_bin f p k) (fun _=>True)
 | 0,_,_,_=>trivial
 | f + 1,p,k,h=>by
  rw [kas_bin];exact Asks.bind (fun l _=>Q6h f _ _ (h.perm (bubble_perm _ _ _))) (jf h k _ _ _)
theorem Qb9 (hn:1<=n):Asks n (kas_sort n) (fun _=>True):=by
 have h:AL n (List.toArray (List.range n)):=⟨hn,fun x hx=>by simpa using hx⟩;unfold kas_sort;refine Asks.bind (P:=fun x=>AL n x.2) (fun x hx=>?_) (Q7y h n);exact Wh (Q6h _ _ _ hx) (show True from trivial)
theorem Q63 {α:Type} {cmp:Nat->Nat->(Bool->aC->Prop)->aC->Prop} {c:Nat->Nat->Bool} {n:Nat} {s:aC} (h:∀ i j (C:Bool->aC->Prop),i < n->j < n->C (c i j) s->cmp i j C s) :
  ∀ (t:KasT α) (P:α->Prop) (Q:α->aC->Prop),Asks n t P->Q (evT c t) s->t.kasWp cmp Q s
 | .ret a,_,_,_,q=>q
 | .ask i j k,P,Q,a,q=>h i j _ a.1 a.2.1 (Q63 h (k (c i j)) P Q (a.2.2 _) q)
variable {prog:aL} {A:aQ} {E:aA->aC->Prop} {s:aC}
section
variable {w:aJ}
inductive TupsAre (h:Heap):List aA->List (List Int)->Prop
 | nil:TupsAre h [] []
 | cons {a:aB} {o:Obj} {xs:Array aA} {n:Nat} {x:Int} {ns:List Int} {vs:List aA} {nss:List (List Int)} (ho:h.get? a=some o) (hc:o.cls=.type "tuple") (hd:o.data=.seq xs n) (hi:IntsAre xs.toList (x :: ns)) (r:TupsAre h vs nss):TupsAre h (.ref a :: vs) ((x :: ns) :: nss)
theorem TupsAre.keep {h':Heap} (k:∀ b o,h.get? b=some o->h'.get? b=some o):∀ {vs:List aA} {nss:List (List Int)},TupsAre h vs nss->TupsAre h' vs nss
 | _,_,.nil=>.nil
 | _,_,.cons ho hc hd hi r=>.cons (k _ _ ho) hc hd hi (r.keep k)
theorem TupsAre.keepT {h':Heap} (k:∀ b o,o.cls=.type "tuple" -> h.get? b=some o->h'.get? b=some o):∀ {vs:List aA} {nss:List (List Int)},TupsAre h vs nss->TupsAre h' vs nss
 | _,_,.nil=>.nil
 | _,_,.cons ho hc hd hi r=>.cons (k _ _ hc ho) hc hd hi (r.keepT k)
theorem TupsAre.length :∀ {vs:List aA} {nss:List (List Int)},TupsAre h vs nss->vs.length=nss.length
 | _,_,.nil=>rfl
 | _,_,.cons _ _ _ _ r=>by rw [E7,E7,r.length]
theorem TupsAre.at {h:Heap}:∀ {vs:List aA} {nss:List (List Int)},TupsAre h vs nss->∀ i,i < vs.length->∃ a o xs n,vs.getD i Value.none=.ref a/\h.get? a=some o/\o.data=.seq xs n/\IntsAre xs.toList (nss.getD i [])
 | _,_,.nil,i,hi=>by simp at hi
 | _,_,.cons ho hc hd hi r,0,_=>⟨_,_,_,_,rfl,ho,hd,hi⟩
 | _,_,.cons ho hc hd hi r,i + 1,hl=>by
  obtain ⟨a,o,xs,n,h1,h2,h3,h4⟩:=r.at i (by simpa using hl);exact ⟨a,o,xs,n,by simpa using h1,h2,h3,by simpa using h4⟩
theorem TupsAre.firsts {M:Model} :∀ {vs:List aA} {nss:List (List Int)},TupsAre h vs nss->∃ fs,KatTups h vs fs/\fs.length=vs.length/\∀ v∈fs,Looks M h (typeOf v) (.type "int")
 | _,_,.nil=>⟨[],.nil,rfl,fun v hv=>by cases hv⟩
 | _,_,.cons (xs:=xs) (x:=x0) ho hc hd hi r=>by
  obtain ⟨fs,h1,h2,h3⟩:=r.firsts (M:=M);have hi':=hi;generalize hl:xs.toList=l at hi';cases hi' with
  | cons _ t hr=>
   refine ⟨.int x0 t :: fs,.cons ho hc hd ?_ h1,by simp [h2],fun v hv=>?_⟩
   ·rw [<- Array.getElem?_toList,hl]; rfl
   ·rcases E2.mp hv with rfl | hv
    ·exact Looks.of_pure rfl
    ·exact h3 v hv
def W9:List Int->List Int->Bool
 | [],[]=>false
 | [],_ :: _=>true
 | _ :: _,[]=>false
 | a :: as,b :: bs=>if a=b then W9 as bs else decide (a < b)
theorem Q8w (b:Bool) {Q:Bool->aC->Prop}:∀ {xs ys:List aA} {ns ms:List Int} (d:Bool) (i:Nat),IntsAre xs ns->IntsAre ys ms->d=decide (xs.length < ys.length)->Q (W9 ns ms) s->KatLex prog w A b d Q (xs.zip ys) i s
 | _,_,_,_,d,i,.nil,.nil,hd,q=>by
  have:d=false:=by rw [hd]; simp
  subst this;exact q
 | _,_,_,_,d,i,.nil,.cons _ _ _,hd,q=>by
  have:d=true:=by rw [hd]; simp
  subst this;exact q
 | _,_,_,_,d,i,.cons _ _ _,.nil,hd,q=>by
  have:d=false:=by rw [hd]; simp
  subst this;exact q
 | _,_,_,_,d,i,.cons x t hr,.cons y u hq,hd,q=>by
  rw [List.zip_cons_cons];refine kat_cons (wpAny_eqBool_int ?_)
  by_cases z:x=y
  ·subst z;rw [beq_self_eq_true];refine kat_yes (Q8w b d (i + 1) hr hq (by rw [hd]; simp) ?_);rw [W9,bN rfl] at q;exact q
  ·rw [beq_eq_false_iff_ne.mpr z];refine kat_no ?_;rw [W9,bO z] at q;cases b && i == 0 with
   | true=>exact oneLt_int q
   | false=>exact kat_one _ _ (lt_int q)
def U0 (nss:List (List Int)) (i:Nat):Nat:=(nss.filter fun ms=>W9 ms (nss.getD i [])).length
theorem zg:∀ a:List Int,W9 a a=false
 | []=>rfl
 | a :: as=>by rw [W9,bN rfl]; exact zg as
theorem Xq:∀ {a b c:List Int},W9 a b=true->W9 b c=true->W9 a c=true
 | [],[],_,h,_=>by cases h
 | [],_ :: _,[],_,h=>by cases h
 | [],_ :: _,_ :: _,_,_=>rfl
 | _ :: _,[],_,h,_=>by cases h
 | _ :: _,_ :: _,[],_,h=>by cases h
 | a :: as,b :: bs,c :: cs,h1,h2=>by
  rw [W9] at h1 h2 ⊢
  by_cases z1:a=b
  ·subst z1;rw [bN rfl] at h1
   by_cases z2:a=c
   ·subst z2;rw [bN rfl] at h2 ⊢;exact Xq h1 h2
   ·rw [bO z2] at h2 ⊢; exact h2
  ·rw [bO z1] at h1;have h1':a < b:=by simpa using h1
   by_cases z2:b=c
   ·subst z2;rw [bO z1]; exact h1
   ·rw [bO z2] at h2;have h2':b < c:=by simpa using h2
    rw [bO (by omega)];simp; omega
theorem zf:∀ {a b:List Int},W9 a b=false->W9 b a=false->a=b
 | [],[],_,_=>rfl
 | [],_ :: _,h,_=>by cases h
 | _ :: _,[],_,h=>by cases h
 | a :: as,b :: bs,h1,h2=>by
  rw [W9] at h1 h2
  by_cases z:a=b
  ·subst z;rw [bN rfl] at h1 h2;rw [zf h1 h2]
  ·rw [bO z] at h1;rw [bO (fun e=>z e.symm)] at h2;have h1':¬ a < b:=by simpa using h1
   have h2':¬ b < a:=by simpa using h2
   exact absurd (show a=b by omega) z
theorem qt {α:Type} {p q:α->Bool}:∀ {l:List α},(∀ x∈l,p x=true->q x=true)->(∃ x∈l,p x=false/\q x=true)->(l.filter p).length < (l.filter q).length
 | [],_,h=>by obtain ⟨_,h,_⟩:=h; cases h
 | x :: l,h,hx=>by
  have hle:(l.filter p).length<=(l.filter q).length:=by
   clear hx
   induction l with
   | nil=>exact O8 _
   | cons y l ih=>
    have ih:=ih fun z hz=>h z (by rcases E2.mp hz with rfl | hz <;> simp [*])
    have hy:=h y (by simp);rw [List.filter_cons,List.filter_cons]
    by_cases a:p y=true
    ·rw [bN a,bN (hy a)]; simp; exact ih
    ·rw [bO a]
     split
     ·simp; omega
     ·exact ih
  rw [List.filter_cons,List.filter_cons];obtain ⟨y,hy,h1,h2⟩:=hx;rcases E2.mp hy with rfl | hy
  ·rw [h1,h2]; simp; omega
  ·have ih:=qt (fun z hz=>h z (O7 _ hz)) ⟨y,hy,h1,h2⟩
   by_cases a:p x=true
   ·rw [bN a,bN (h x (by simp) a)]; simp; exact ih
   ·rw [bO a]
    split
    ·simp; omega
    ·exact ih
theorem Q8j {nss:List (List Int)} {i j:Nat} (hi:i < nss.length) (hj:j < nss.length):cR (U0 nss) i j=W9 (nss.getD i []) (nss.getD j []):=by
 have mem:∀ k,k < nss.length->nss.getD k []∈nss:=fun k hk=>by
  rw [O3,O2 hk]; exact F5 hk
 unfold cR;have key:∀ {i j:Nat},i < nss.length->j < nss.length->W9 (nss.getD i []) (nss.getD j [])=true->U0 nss i < U0 nss j:=fun {i j} hi hj h=>
  qt (fun x _ hx=>Xq hx h) ⟨nss.getD i [],mem i hi,zg _,h⟩
 cases z:W9 (nss.getD i []) (nss.getD j []) with
 | true=>exact bQ (key hi hj z)
 | false=>
  refine bP ?_;cases z2:W9 (nss.getD j []) (nss.getD i []) with
  | true=>have:=key hj hi z2; omega
  | false=>
   have e:=zf z z2;unfold U0;rw [e];exact Nat.lt_irrefl _
theorem Q9r {a:aB} {nss:List (List Int)} {P:PySem.Fin->aC->Prop} (ho:s.heap.get? a=some (seqObj "list" vs.toArray n)) (hT:TupsAre s.heap vs nss) (h64:vs.length < 64)
  (h:∀ (p:List Nat) (h':Heap) (k:Nat),p.Perm (List.range vs.length)->(∀ i,1<=i->i < vs.length->W9 (nss.getD (p.getD i 0) []) (nss.getD (p.getD (i - 1) 0) [])=false)->h'.get? a=some (seqObj "list" (List.toArray (p.map fun i=>vs.getD i Value.none)) k)->(∀ b o,b≠a->s.heap.get? b=some o->h'.get? b=some o)->P (.done (.ret .none)) { s with heap:=h' }) :
  aF (aI prog w) A (Builtin.«list.sort» ⟨[.ref a],[]⟩) P E s:=by
 have ha:a < s.heap.objs.size:=E6 ho;obtain ⟨e1,ho1⟩:∃ e1,(s.heap.update a (Obj.mapSeq fun _=>(#[]:Array aA))).get? a=some (seqObj "list" #[] e1):=⟨_,get?_update_seq ho fun _=>#[]⟩
 have keep3:∀ b o,b≠a->s.heap.get? b=some o->(((s.heap.update a (Obj.mapSeq fun _=>(#[]:Array aA))).push (seqObj "tuple" vs.toArray 0)).push (seqObj "list" #[] 0)).get? b=some o:=fun b o hb e=>
  O6 _ (O6 _ (by rw [Heap.get?_update_ne _ _ _ _ hb]; exact e))
 have ho3:(((s.heap.update a (Obj.mapSeq fun _=>(#[]:Array aA))).push (seqObj "tuple" vs.toArray 0)).push (seqObj "list" #[] 0)).get? a=some (seqObj "list" #[] e1):=O6 _ (O6 _ ho1)
 rw [list_sort_plain];refine aD (listItems_at ho rfl ?_);refine aD (listUpdate_at ho rfl ?_ (by rw [D3,sizeLine_eq]; omega) (Nat.zero_le _));refine aD (seqEpoch_at ho1 rfl ?_);refine aD (wpAny_newTuple ?_ (by show vs.length<=_; rw [sizeLine_eq]; omega));refine aD (wpAny_newList ?_ (Nat.zero_le _));refine aZ ?_;show aF (aI prog w) A _ P E { s with heap:=((s.heap.update a (Obj.mapSeq fun _=>(#[]:Array aA))).push (seqObj "tuple" vs.toArray 0)).push (seqObj "list" #[] 0) }
 dsimp only;generalize hH:((s.heap.update a (Obj.mapSeq fun _=>(#[]:Array aA))).push (seqObj "tuple" vs.toArray 0)).push (seqObj "list" #[] 0)=H3 at *
 have fin:∀ (st:SortSt) (p:List Nat),p.Perm (List.range vs.length)->(arrOf st).map (·.2)=List.toArray (p.map fun i=>vs.getD i Value.none)->failedOf st=none->(∀ i,1<=i->i < vs.length->W9 (nss.getD (p.getD i 0) []) (nss.getD (p.getD (i - 1) 0) [])=false) ->
   aF (aI prog w) A (do
    let sorted:=(arrOf st).map (·.2)
    let touched:=(<- seqEpoch a) != e1
    Builtin.List.listUpdate (.ref a) fun _=>sorted
    if let some e:=failedOf st then rule "list.sort.comparison-raised"; throw e
    if touched then rule "list.sort.modified"; raiseError "ValueError" "list modified during sort"
    ret .none) P E { s with heap:=H3 }:=fun st p hp ha2 hf hs=>by
  dsimp only;have hl:(List.toArray (p.map fun i=>vs.getD i Value.none)).size=vs.length:=by rw [D3,O1,hp.length_eq,E5]
  obtain ⟨c2,hc2⟩:∃ c2,(H3.update a (Obj.mapSeq fun _=>List.toArray (p.map fun i=>vs.getD i Value.none))).get? a=some (seqObj "list" (List.toArray (p.map fun i=>vs.getD i Value.none)) c2):=⟨_,get?_update_seq ho3 fun _=>List.toArray (p.map fun i=>vs.getD i Value.none)⟩
  rw [ha2,hf];refine aD (seqEpoch_at ho3 rfl ?_);refine aD (listUpdate_at ho3 rfl ?_ (Nat.zero_le _) (F6 (Nat.le_of_eq hl) (by rw [sizeLine_eq]; omega)));simp only [bne_self_eq_false,L6,if_false];exact wpAny_pure (h p _ c2 hp hs hc2 fun b o hb e=>by rw [Heap.get?_update_ne _ _ _ _ hb]; exact keep3 b o hb e)
 by_cases h2:vs.toArray.size < 2
 ·rw [bN h2,bN h2];refine aD (wpAny_pure ?_);rw [StateT.run_pure];refine aD (wpAny_pure ?_);refine fin (SortSt.mk' general' (vs.toArray.zip vs.toArray) #[] 7 none) (List.range vs.length) (List.Perm.refl _) ?_ rfl (fun i g1 g2=>?_)
  ·show (vs.toArray.zip vs.toArray).map (·.2)=_;apply Array.toList_inj.mp;apply List.ext_getElem?;intro i
   by_cases z:i < vs.length
   ·simp [z]
   ·simp [z]
  ·rw [D3] at h2; omega
 ·rw [bO h2,bO h2];rw [D3] at h2;have hT3:TupsAre H3 vs nss:=hT.keepT fun b o hc e=>keep3 b o (fun z=>by
   rw [z,ho] at e;have e:=Option.some.inj e;rw [<- e] at hc;exact absurd (show Value.type "list" = .type "tuple" from hc) (by decide)) e
  obtain ⟨fs,k1,k2,k3⟩:=hT3.firsts (M:=aI prog w);refine aD (kat_kind (s:={ s with heap:=H3 }) (T:=.type "int") k1 (by omega) k3 (by decide) ?_);have hask:∀ i j (C:Bool->aC->Prop),i < vs.length->j < vs.length->C (cR (U0 nss) i j) { s with heap:=H3 }->kas_ask prog w A (tuples' (Value.type "int" != Value.type "tuple")) vs i j C { s with heap:=H3 }:=fun i j C hi hj q=>by
   obtain ⟨ai,oi,xi,ni,e1,e2,e3,e4⟩:=hT3.at i hi;obtain ⟨aj,oj,xj,nj,f1,f2,f3,f4⟩:=hT3.at j hj;rw [Q8j (by rw [<- hT.length]; exact hi) (by rw [<- hT.length]; exact hj)] at q;unfold kas_ask;rw [e1,f1];exact kat_lt e2 e3 f2 f3 (Q8w _ _ 0 e4 f4 (by simp) q)
  have hev:=Qg1 (r:=U0 nss) (n:=vs.length) (by omega);refine aD (ak (kat_run (vs:=vs) (ks:=vs) (Q:=fun st' s'=>s'={ s with heap:=H3 }/\arrOf st'=(evT (cR (U0 nss)) (kas_sort vs.length)).map (kas_item (vs.toArray.zip vs.toArray))/\failedOf st'=none)
   (G:=fun p s'=>s'={ s with heap:=H3 }/\p=evT (cR (U0 nss)) (kas_sort vs.length)) rfl (by omega) h64 (fun p' st' s' a1 a2 a3 a4=>⟨a4.1,by rw [<- a4.2]; exact a2,a3⟩) (Q63 hask _ (fun _=>True) _ (Qb9 (by omega)) ⟨rfl,rfl⟩)) ?_ fun _ _ e=>e)
  rintro ⟨⟨⟩,st'⟩ s' ⟨rfl,har,hf⟩;have hpl:(evT (cR (U0 nss)) (kas_sort vs.length)).toList.Perm (List.range vs.length):=by
   have:=Array.perm_iff_toList_perm.mp hev.2;simpa using this
  refine fin st' _ hpl (kat_snds rfl har) hf fun i g1 g2=>?_
  have hr:=hev.1 i g1 g2;have hin:∀ k,(evT (cR (U0 nss)) (kas_sort vs.length)).toList.getD k 0 < vs.length:=fun k=>by
   have hal:AL vs.length (evT (cR (U0 nss)) (kas_sort vs.length)):=AL.perm (p:=List.toArray (List.range vs.length)) ⟨by omega,fun x hx=>by simpa using hx⟩ hev.2;have:=hal.get k;rw [Array.getD_eq_getD_getElem?,<- Array.getElem?_toList] at this;rw [O3]; exact this
  have hg:∀ k,(evT (cR (U0 nss)) (kas_sort vs.length)).getD k 0=(evT (cR (U0 nss)) (kas_sort vs.length)).toList.getD k 0:=fun k=>by
   rw [Array.getD_eq_getD_getElem?,<- Array.getElem?_toList,O3]
  unfold rk at hr;rw [hg,hg] at hr;have:=Q8j (nss:=nss) (i:=(evT (cR (U0 nss)) (kas_sort vs.length)).toList.getD i 0) (j:=(evT (cR (U0 nss)) (kas_sort vs.length)).toList.getD (i - 1) 0) (by rw [<- hT.length]; exact hin _) (by rw [<- hT.length]; exact hin _);rw [<- this];exact bP (Nat.not_lt.mpr hr)
theorem Q4z {l:aB} {nss:List (List Int)} {Q:aA->aC->Prop} (hl:s.heap.IsList l vs.toArray) (hT:TupsAre s.heap vs nss) (h64:vs.length < 64)
  (h:∀ (p:List Nat) (h':Heap) (D k:Nat),p.Perm (List.range vs.length)->(∀ i,1<=i->i < vs.length->W9 (nss.getD (p.getD i 0) []) (nss.getD (p.getD (i - 1) 0) [])=false)->s.heap.objs.size<=D->h'.get? D=some (seqObj "list" (List.toArray (p.map fun i=>vs.getD i Value.none)) k)->(∀ b o,s.heap.get? b=some o->h'.get? b=some o)->Q (.ref D) { s with heap:=h' }) :
  aF (aI prog w) A (call (.builtin "sorted") [.ref l]) Q E s:=by
 refine Calls.call_function_entry kind_sorted plain_sorted entry_sorted (args_sorted1 _) ?_;unfold Builtin.«sorted»;refine aD (m:=checkCount "sorted" 1 1 _) (wpAny_pure ?_);refine aD (collect_list hl ?_ (by rw [sizeLine_eq]; omega));refine aD (wpAny_newList ?_ (by rw [sizeLine_eq]; omega));have hsz:((s.heap.push (seqObj "list" #[] 0)).update s.heap.objs.size (Obj.mapSeq (· ++ vs.toArray))).objs.size=s.heap.objs.size + 1:=by
  rw [Heap.size_update,size_push']
 have hoL:(((s.heap.push (seqObj "list" #[] 0)).update s.heap.objs.size (Obj.mapSeq (· ++ vs.toArray))).push (seqObj "list" vs.toArray 0)).get? (s.heap.objs.size + 1)=some (seqObj "list" vs.toArray 0):=by
  rw [<- hsz]; exact E9 _ rfl
 have keep:∀ b o,s.heap.get? b=some o->(((s.heap.push (seqObj "list" #[] 0)).update s.heap.objs.size (Obj.mapSeq (· ++ vs.toArray))).push (seqObj "list" vs.toArray 0)).get? b=some o:=fun b o q=>by
  have hlt:b < s.heap.objs.size:=E6 q;rw [Heap.get?_push_ne _ _ _ (by rw [hsz]; exact F8 (Nat.lt_succ_of_lt hlt)),Heap.get?_update_ne _ _ _ _ (F8 hlt),Heap.get?_push_ne _ _ _ (F8 hlt)];exact q
 show aF _ _ _ _ _ { s with heap:=((s.heap.push (seqObj "list" #[] 0)).update s.heap.objs.size (Obj.mapSeq (· ++ vs.toArray))).push (seqObj "list" vs.toArray 0) };rw [hsz];refine aD (aZ (ag slot_list_sort ⟨_,hoL,rfl⟩ entry_list_sort ?body (args_list_sort _)))
 case body=>
  refine Q9r (s:={ s with heap:=((s.heap.push (seqObj "list" #[] 0)).update s.heap.objs.size (Obj.mapSeq (· ++ vs.toArray))).push (seqObj "list" vs.toArray 0) }) hoL (hT.keep keep) h64 fun p h' k a1 a2 a3 a4=>?_
  exact ⟨_,rfl,wpAny_pure ⟨_,rfl,h p h' _ k a1 a2 (Nat.le_succ _) a3 fun b o e=>a4 b o (F8 (Nat.lt_succ_of_lt (E6 e))) (keep b o e)⟩⟩
end
end L2
namespace L2
open PySem PySem.Spec PyProof.Rows
variable {X:Cx} {a:aB} {es:Array DictEntry} {ep:Nat} {h:Heap} {Q:Option aA->aC->Prop} {P:aL}
def Q7i (a:List Int):List (List Int)->List (List Int)
 | []=>[a]
 | b :: r=>if W9 b a=true then b :: Q7i a r else a :: b :: r
def Vw:List (List Int)->List (List Int)
 | []=>[]
 | a :: r=>Q7i a (Vw r)
def leL (a b:List Int):Prop:=W9 b a=false
theorem Q00 (a b:List Int):leL a b <-> a=b\/W9 a b=true:=by
 unfold leL;constructor
 ·intro h;cases z:W9 a b with
  | true=>exact .inr rfl
  | false=>exact .inl (zf z h)
 ·rintro (rfl | h)
  ·exact zg a
  ·cases z:W9 b a with
   | false=>rfl
   | true=>have:=Xq h z; rw [zg] at this; cases this
theorem Q2u {a b c:List Int} (h1:leL a b) (h2:leL b c):leL a c:=by
 rw [Q00] at *;rcases h1 with rfl | h1
 ·exact h2
 ·rcases h2 with rfl | h2
  ·exact .inr h1
  ·exact .inr (Xq h1 h2)
theorem Qdy {a b:List Int} (h1:leL a b) (h2:leL b a):a=b:=zf h2 h1
theorem yi (a:List Int):∀ l,(Q7i a l).Perm (a :: l)
 | []=>List.Perm.refl _
 | b :: r=>by
  rw [Q7i]
  split
  ·exact ((yi a r).cons b).trans (List.Perm.swap a b r)
  ·exact List.Perm.refl _
theorem Xc:∀ l,(Vw l).Perm l
 | []=>List.Perm.refl _
 | a :: r=>(yi a (Vw r)).trans ((Xc r).cons a)
theorem yu {a:List Int}:∀ {l:List (List Int)},l.Pairwise leL->(Q7i a l).Pairwise leL
 | [],_=>by rw [Q7i]; exact List.pairwise_singleton _ _
 | b :: r,h=>by
  obtain ⟨h1,h2⟩:=List.pairwise_cons.mp h;rw [Q7i]
  split
  ·rename_i q;refine List.pairwise_cons.mpr ⟨fun x hx=>?_,yu h2⟩;rcases E2.mp ((yi a r).mem_iff.mp hx) with rfl | hx
   ·exact (Q00 b x).mpr (.inr q)
   ·exact h1 x hx
  ·rename_i q;have q':leL a b:=by unfold leL; simpa using q
   refine List.pairwise_cons.mpr ⟨fun x hx=>?_,h⟩;rcases E2.mp hx with rfl | hx
   ·exact q'
   ·exact Q2u q' (h1 x hx)
theorem Xb:∀ l,(Vw l).Pairwise leL
 | []=>List.Pairwise.nil
 | a :: r=>yu (Xb r)
theorem Q2h:∀ {a b:List (List Int)},a.Perm b->a.Pairwise leL->b.Pairwise leL->a=b
 | [],b,h,_,_=>(List.nil_perm.mp h).symm
 | x :: a,[],h,_,_=>absurd (List.perm_nil.mp h) (by simp)
 | x :: a,y :: b,h,ha,hb=>by
  obtain ⟨a1,a2⟩:=List.pairwise_cons.mp ha;obtain ⟨b1,b2⟩:=List.pairwise_cons.mp hb;have e:x=y:=by
   rcases E2.mp (h.mem_iff.mp (D1 (a:=x) (l:=a))) with e | hx
   ·exact e
   ·rcases E2.mp (h.mem_iff.mpr (D1 (a:=y) (l:=b))) with e | hy
    ·exact e.symm
    ·exact Qdy (a1 y hy) (b1 x hx)
  subst e;rw [Q2h (List.Perm.cons_inv h) a2 b2]
theorem Q23 {l:List (List Int)} (h:∀ i,1<=i->i < l.length->W9 (l.getD i []) (l.getD (i - 1) [])=false):l.Pairwise leL:=by
 rw [List.pairwise_iff_getElem];have g:∀ k (hk:k < l.length),l.getD k []=l[k]:=fun k hk=>by rw [O3,O2 hk]; rfl
 have key:∀ d i (hi:i + d < l.length),leL (l.getD i []) (l.getD (i + d) []):=by
  intro d
  induction d with
  | zero=>intro i hi; exact (Q00 _ _).mpr (.inl rfl)
  | succ d ih=>
   intro i hi;have h1:=ih i (by omega);have h2:=h (i + d + 1) (by omega) (by omega);rw [Nat.add_sub_cancel] at h2;exact Q2u h1 h2
 intro i j hi hj hij;have:=key (j - i) i (by omega);rw [show i + (j - i)=j by omega,g i hi,g j hj] at this;exact this
theorem Q9s {nss:List (List Int)} {p:List Nat} (hp:p.Perm (List.range nss.length)) (h:∀ i,1<=i->i < nss.length->W9 (nss.getD (p.getD i 0) []) (nss.getD (p.getD (i - 1) 0) [])=false):p.map (fun i=>nss.getD i [])=Vw nss:=by
 have hl:p.length=nss.length:=by rw [hp.length_eq,E5]
 have e1:(List.range nss.length).map (fun i=>nss.getD i [])=nss:=by
  apply List.ext_getElem?;intro i
  by_cases z:i < nss.length
  ·simp [z]
  ·simp [z]
 have pm:(p.map fun i=>nss.getD i []).Perm nss:=by
  have:=hp.map (fun i=>nss.getD i [])
  rwa [e1] at this
 have gd:∀ k,k < p.length->(p.map fun i=>nss.getD i []).getD k []=nss.getD (p.getD k 0) []:=fun k hk=>by
  rw [O3,E8,O2 hk,O3 (l:=p),O2 hk];rfl
 refine Q2h (pm.trans (Xc nss).symm) (Q23 fun i g1 g2=>?_) (Xb nss);rw [O1] at g2;rw [gd i g2,gd (i - 1) (by omega)];exact h i g1 (by omega)
theorem Q89 {P:aL} {w:aJ} {H:Hp} {h:Heap} (ok:HOk P w H h):∀ {nss:List (List Int)} {vs:List V} {its:List aA},aq (fun (v:V) (ns:List Int)=>ns≠[]/\∃ a,v=.ref a/\H a=some (.tup (ns.map V.int))) vs nss->Vals vs its->TupsAre h its nss
 | [],_,_,.nil,.nil=>.nil
 | [] :: _,v :: vs,u :: us,.cons ⟨z,_⟩ t,.cons ru tu=>absurd rfl z
 | (x :: ns) :: nss,v :: vs,u :: us,.cons ⟨_,a,ea,ha⟩ t,.cons ru tu=>by
  have r:=Q89 ok t tu;subst ea;cases ru;obtain ⟨_,jts,rj,o,ho,hc,n,hd⟩:=ok a _ ha;exact .cons ho hc hd (by simpa using je rj) r
theorem Q4c :Vh X (.builtin "sorted") (fun xs H Q=>∃ p vs,∃ nss:List (List Int),xs=[.ref p]/\SqL X.K H p vs/\vs.length < 64/\aq (fun (v:V) (ns:List Int)=>ns≠[]/\∃ a,v=.ref a/\H a=some (.tup (ns.map V.int))) vs nss /\
  ∀ d (pp:List Nat),H d=none->pp.Perm (List.range vs.length)->pp.map (fun i=>nss.getD i [])=Vw nss->Q (.ref d) (upd H d (.lst (pp.map fun i=>vs.getD i .non)))):=by
 intro pins s σ H xs us Q I r h;obtain ⟨p,vs,nss,rfl,hq,h64,hp,q⟩:=h;obtain ⟨u,rfl,rx⟩:=qp r;cases rx;obtain ⟨its,r',pl,hz⟩:=I.list hq;have hlen:=r'.length;have T:=Q89 I.hok hp r';refine Q4z pl.isList T (by omega) fun pp h' D k a1 a2 a3 a4 a5=>?_
 have hln:its.length=nss.length:=T.length;have e:=Q9s (nss:=nss) (p:=pp) (by rw [<- hln]; exact a1) (fun i g1 g2=>a2 i g1 (by omega))
 have hpl:pp.length=its.length:=by rw [a1.length_eq,E5]
 have hv:Vals (pp.map fun i=>vs.getD i .non) (pp.map fun i=>its.getD i Value.none):=by
  have key:∀ l:List Nat,(∀ x∈l,x < vs.length)->Vals (l.map fun i=>vs.getD i .non) (l.map fun i=>its.getD i Value.none):=by
   intro l
   induction l with
   | nil=>intro _; exact .nil
   | cons x l ih=>
    intro hl;have hx:=hl x (by simp);obtain ⟨u,hu,ru⟩:=r'.get (O2 hx);refine .cons ?_ (ih fun y hy=>hl y (O7 _ hy))
    show RelV (vs.getD x V.non) (its.getD x Value.none);rw [O3,O2 hx,O3,hu];exact ru
  exact key pp fun x hx=>by have:=a1.mem_iff.mp hx; rw [hlen]; simpa using this
 exact ⟨.ref D,_,I.laid (t':=s.toks) (o:=.lst (pp.map fun i=>vs.getD i .non)) a5 a3 ⟨by rw [O1]; omega,_,k,hv,a4⟩,rfl,q D pp (I.hok.fresh a3) (by rw [hlen]; exact a1) e⟩
def RawD (h:Heap) (a:aB) (es:Array DictEntry) (ep:Nat):Prop:=∃ o,h.get? a=some o/\o.ExactDict/\o.data=.dict es ep
variable {prog:aL} {A:aQ} {E:aA->aC->Prop} {s:aC}
section
variable {w:aJ}
theorem RawD.typeIs (h:RawD s.heap a es ep):s.TypeIs (.ref a) "dict" := let ⟨o,e,x,_⟩:=h; ⟨o,e,x.1⟩
theorem RawD.obj (x:RawD h a es ep):h.get? a=some { cls:=.type "dict",dict:=none,data:=.dict es ep,slots:=#[] }:=by
 obtain ⟨⟨c,dct,dat,sl⟩,ho,⟨h1,h2,h3⟩,h4⟩:=x;simp only at h1 h2 h3 h4;subst h1 h2 h3 h4;exact ho
theorem Qcd {d:aB} {Q:aA->aC->Prop} (hd:(d == aa)=false) (hm:RawD s.heap d es ep)
  (hQ:Q (.ref s.heap.objs.size) { s with heap:=s.heap.push { cls:=.type "dict_keyiterator",data:=.fields #[.ref d,.int 0 0,.int es.size 0,.int ep 0] } }) :
  aF (aI prog w) A (pyIter (.ref d)) Q E s:=by
 have hT:=hm.typeIs;have ho:=hm.obj;obtain ⟨hp,g,dr,tk,os⟩:=s;refine wpAny_pyIter_slot hT PySem.F.slot_dict_iter (ag PySem.F.slot_dict_iter hT PySem.F.entry_dict_iter ?_ (PySem.F.args_dict_iter_1 _));unfold Builtin.«dict.__iter__» Builtin.Dict.dictSlotNone
 repeat (any_goals (first | assumption | wp_step))
 refine ⟨_,rfl, "dict_keyiterator",_,⟨_,E9 _ rfl,rfl⟩,PySem.F.slot_dict_keyiterator_next.lookup,hQ⟩
theorem Q1c:Builtin.Dict_items.ownsTuple ((Manifest.find? "dict_keyiterator").elim "dict_keyiterator" fun x=>x.tpName)=false:=by decide +kernel
theorem Qce {it d:aB} {i:Nat} {e:DictEntry} {Q:Option aA->aC->Prop} (hit:s.heap.IsKeyIter it d i es.size ep) (hm:RawD s.heap d es ep) (hx:es[i]?=some e)
  (hQ:∀ h',h'.IsKeyIter it d (i + 1) es.size ep->Heap.SameBut it s.heap h'->Q (some e.key) { s with heap:=h' }) :
  aF (aI prog w) A (au (.ref it)) Q E s:=by
 have hT:=hit.typeIs;have ho:=hm.obj;obtain ⟨⟨c,dct,dat,sl⟩,hoi,hci,hdi⟩:=hit;simp only at hci hdi;subst hci hdi;obtain ⟨hp,g,dr,tk,os⟩:=s;unfold au;refine aD (wpAny_attempt (wpAny_callSpecial?_slot (name:=Str.ofString "__next__") hT PySem.F.slot_dict_keyiterator_next (ag PySem.F.slot_dict_keyiterator_next hT PySem.F.entry_dict_keyiterator_next ?_ (PySem.F.args_dict_keyiterator_next_1 _))))
 repeat (any_goals (first | assumption | wp_step))
 simp only [Q1c,L6,if_false];simp only [show ¬ ((i:Int) < 0) by omega,if_false,Int.toNat_natCast,hx]
 repeat (any_goals (first | assumption | wp_step))
 simp only [Q1c,L6,if_false];rw [bO (show ¬ ((_:Bool)=true) by decide +kernel)];refine ⟨_,rfl,wpAny_pure (hQ _ ⟨_,N0 _ hoi rfl,rfl,?_⟩ (Heap.SameBut.update ..))⟩;simp [Obj.mapFields,ae]
theorem Qgg {it d:aB} {i:Nat} {Q:Option aA->aC->Prop} (hh:A.handled=none) (hit:s.heap.IsKeyIter it d i es.size ep) (hm:RawD s.heap d es ep) (hx:es[i]?=none)
  (hQ:∀ h',Heap.ExtBut it s.heap h'->Q none { s with heap:=h' }) :
  aF (aI prog w) A (au (.ref it)) Q E s:=by
 have hT:=hit.typeIs;have ho:=hm.obj;obtain ⟨⟨c,dct,dat,sl⟩,hoi,hci,hdi⟩:=hit;simp only at hci hdi;subst hci hdi;obtain ⟨hp,g,dr,tk,os⟩:=s;unfold au;refine aD (wpAny_attempt (wpAny_callSpecial?_slot (name:=Str.ofString "__next__") hT PySem.F.slot_dict_keyiterator_next (ag PySem.F.slot_dict_keyiterator_next hT PySem.F.entry_dict_keyiterator_next ?_ (PySem.F.args_dict_keyiterator_next_1 _))))
 repeat (any_goals (first | assumption | wp_step))
 simp only [Q1c,L6,if_false];simp only [show ¬ ((i:Int) < 0) by omega,if_false,Int.toNat_natCast,hx];have hsub:=isSubtype_stop
 repeat (any_goals (first | assumption | wp_step))
 unfold raiseNew;refine aD (wpAny_handled ?_);rw [show A.in1.handled=none from hh];refine aD (wpAny_pure (wpAny_throw ?_));refine aD (bK (T := "StopIteration") (b:=true) ⟨_,E9 _ rfl,rfl⟩ isSubtype_stop ?_);exact wpAny_pure (hQ _ (((Heap.SameBut.update ..).extBut.push _).push _))
end
def Qju (tk tv:TE):TE:=fun σ H Q=>∀ p,H p=none->Q6t [(tk,tv)] σ (upd H p (.dT [])) fun ps H2=>∃ (ks:HK) (b:V) (y:V),ps=[(b,y)]/\KR H2 ks b/\H2 p=some (.dT [])/\Q (.ref p) (upd H2 p (.dT [(ks,y)]))
theorem Qa7 {pos:Pos} {k v:aH} {tk tv:TE} (hu:X.A.units + 5 < aO) (hk:PE X k tk) (hv:PE X v tv):PE X (.Dict [some k] [v] pos) (Qju tk tv):=by
 intro pins s σ H Q I q;have hn:=I.hok.fresh (O8 s.heap.objs.size);have I1:=I.laid (a:=s.heap.objs.size) (o:=.dT []) (h':=s.heap.push { cls:=.type "dict",data:=.dict #[] }) (t':=s.toks) (fun _ _ q=>O6 _ q) (O8 _) (Q6a s.heap I.big);rw [arm_eval_Dict,zip_pairTrees [some k] [v] X.env pos rfl rfl,dictDisplay_pairs _ (by simp [pairTrees]) (by simp [pairTrees])];refine aD (wpAny_standAt (aD ?_));unfold subDict;refine aD (wpAny_alloc (aD (aZ ?_)));rw [bN (by simp [pairTrees])];refine aD (thn ((Qcq hk hv Qgu) pins _ σ _ _ I1 (q _ hn)) fun ws s2 ⟨ps,H2,I2,rel,ks,b,y,ep,eb,e,q2⟩=>?_)
 subst ep;obtain ⟨⟨u,r⟩,rfl,r1,r2⟩:∃ p:aA × aA,ws=[p]/\RelV b p.1/\RelV y p.2:=by
  cases rel with
  | @cons a c as bs h t=>
   cases t;exact ⟨_,rfl,h.1,h.2⟩
 obtain ⟨z,hd,xs,rel,dd⟩:=Qen I2.hok e;cases rel;refine aZ ?_;refine aD ?_;rw [List.forIn_cons];refine aD (aD (Qit hu (Q6k I2.hok eb r1) dd (fun h' dd' hs=>wpAny_pure ?_) (by simp)));dsimp only;rw [List.forIn_nil];refine wpAny_pure (wpAny_pure (wpAny_pure (wpAny_pure ⟨.ref s.heap.objs.size,_,?_,rfl,q2⟩)));obtain ⟨o,es,ep,hq,h2,h3,h4,_,h5⟩:=dd';refine Q07 I2 (by rw [e]; exact True.intro) hs ⟨o,hq⟩ ⟨by simp [sizeLine_eq],hd,[(ks,u,r)],.cons ⟨rfl,⟨b,?_,r1⟩,r2⟩ .nil,o,es,ep,hq,h2,h3,by simpa [xf,vAt] using h4,by simp⟩;exact eb.keep fun c ys ec=>by rw [Q8 (Qdf ec e (fun z=>nomatch z))]; exact ec
def ItT (a:aB) (o:Obj) (kvs:List (HK × V)):It:=
 ⟨fun i H=>H a=some (.frz o (.dT kvs))/\i < kvs.length,fun i H x H'=>H'=H/\∃ kv,kvs[i]?=some kv/\KR H kv.1 x,fun i H=>H a=some (.frz o (.dT kvs))/\kvs.length<=i⟩
theorem Q59 {w:aJ} {H:Hp} {o:Obj} {kvs:List (HK × V)} (ok:HOk P w H h) (e:H a=some (.frz o (.dT kvs))) (hd:o.data=.dict es ep) :
  (a == aa)=false/\RawD h a es ep/\aq (fun (p:HK × V) (u:aA)=>∃ v,KR H p.1 v/\RelV v u) kvs (es.toList.map (·.key)):=by
 obtain ⟨ho,hz,hs,xs,rel,o',es',ep',ho',hx,hd',he,hnd⟩:=ok a _ e;rw [ho] at ho';cases ho';rw [hd] at hd';cases hd';refine ⟨hs,⟨o,ho,hx,hd⟩,?_⟩;have:es.toList.map (·.key)=xs.map (fun q=>q.2.1):=by rw [he,F4]; exact G8 fun q _=>rfl
 rw [this];clear this he hz hnd e
 induction rel with
 | nil=>exact .nil
 | cons hr _ ih=>exact .cons hr.2.1 ih
theorem Paired.get {α β:Type} {R:α->β->Prop}:∀ {xs:List α} {ys:List β} {i:Nat} {x:α},aq R xs ys->xs[i]?=some x->∃ y,ys[i]?=some y/\R x y
 | _,_,_,_,.nil,e=>by simp at e
 | a :: _,b :: _,0,x,.cons h t,e=>by
  simp at e; subst e;exact ⟨b,by simp,h⟩
 | _ :: _,_ :: _,i + 1,x,.cons h t,e=>by
  obtain ⟨y,h1,h2⟩:=Paired.get (i:=i) t (by simpa using e);exact ⟨y,by simpa using h1,h2⟩
theorem Q6r {P:aL} {w:aJ} {K:PySem.W.Frag} {tg:aH} (a it:aB) (o:Obj) (kvs:List (HK × V)) (hd:o.data=.dict es ep) :
  Turn P w K tg (ItT a o kvs) [it] it (fun i h=>h.IsKeyIter it a i kvs.length ep) where
 mem:=by simp
 obj:=fun i h st b hb=>by
  have e:b=it:=by simpa using hb
  subst e;obtain ⟨o,e,c,d⟩:=st;exact ⟨o,e,fun v z=>by rw [d] at z; cases z⟩
 keep:=fun i h h' st k=>by
  obtain ⟨o,e,r⟩:=st;exact ⟨o,k it (by simp) o e,r⟩
 item:=by
  intro X hP hw hK hc i pins s σ H E I hf st hg;subst hP hw hK;obtain ⟨hx,hl⟩:=hg;obtain ⟨hs,hr,hp⟩:=Q59 I.hok hx hd;have hlen:kvs.length=es.size:=by have:=Paired.length hp; simpa using this
  obtain ⟨u,hu,v,kr,rv⟩:=Paired.get hp (O2 hl);rw [E8] at hu;obtain ⟨e,he,rfl⟩:=Option.map_eq_some_iff.mp hu;obtain ⟨f0,f1,f2,f3,f4,f5⟩:=hf it (by simp);rw [hlen] at st;refine Qce st hr (by rw [<- Array.getElem?_toList]; exact he) fun h' st' sb=>?_
  rw [<- hlen] at st';have I1:Inv X pins σ H { s with heap:=h' }:=I.turned (t':=s.toks) (fun b o hb e=>(sb.2 b hb).trans e) f0 f1 f3 f4 f5
  obtain ⟨o,e',c,d⟩:=id st';exact ⟨e.key,rfl,Q96 (s:={ s with heap:=h' }) e' c d (by decide) ⟨v,H,I1,rv,⟨rfl,kvs[i],O2 hl,kr⟩,st',fun b hb=>(hf b hb).1⟩⟩
 done:=by
  intro X hP hw hK hc i pins s σ H E I hf st hg;subst hP hw hK;obtain ⟨hx,hl⟩:=hg;obtain ⟨hs,hr,hp⟩:=Q59 I.hok hx hd;have hlen:kvs.length=es.size:=by have:=Paired.length hp; simpa using this
  obtain ⟨f0,f1,f2,f3,f4,f5⟩:=hf it (by simp);rw [hlen] at st;exact Qgg (I.ok.hd hc) st hr (by rw [Array.getElem?_eq_none]; omega) fun h' eb=>⟨rfl,I.turned (t':=s.toks) (fun b o hb e=>eb b o hb e) f0 f1 f3 f4 f5⟩
 self:=fun _ _ _ _ _ st h=>wpAny_pyIter_keyiter st h
variable {X:Cx} {pins:List (aB × Obj)} {σ:St} {H:Hp} {a:aB} {tg:aH}
theorem Inv.noFrzT (I:Inv X pins σ H s) {kvs:List (HK × V)} (e:H a=some (.dT kvs)):Qjc X a:=fun o u q=>by
 have:=I.base.frzs a o u q;rw [e] at this; cases this
def Qns (X:Cx) (tl:TE):TI:=fun σ H R=>tl σ H fun x H1=>∃ a kvs,x=.ref a/\H1 a=some (.dT kvs)/\∀ o,Qjc X a->R (ItT a o kvs) (upd H1 a (.frz o (.dT kvs)))
theorem Qcu {l:aH} {tl:TE} (hl:PE X l tl):PI X tg l (Qns X tl):=by
 intro pins s σ H R I h;refine thn (hl pins s σ H _ I h) fun v s1 ⟨x,H1,I1,r1,q1⟩=>?_
 obtain ⟨a,kvs,rfl,ea,q⟩:=q1;cases r1;obtain ⟨z,hs,xs,rel,o,es,ep,ho,hx,hd,he,hn⟩:=I1.hok a _ ea;have hsz:es.size=kvs.length:=by
  rw [<- Array.length_toList,he,O1,<- Paired.length rel]
 refine Qcd hs ⟨o,ho,hx,hd⟩ ?_;have hne:s1.heap.objs.size≠a:=Nat.ne_of_gt (E6 ho);have hn1:H1 s1.heap.objs.size=none:=I1.hok.fresh (O8 _);have keep:∀ b u,s1.heap.get? b=some u->(s1.heap.push { cls:=.type "dict_keyiterator",data:=.fields #[.ref a,.int 0 0,.int es.size 0,.int ep 0] }).get? b=some u:=fun b u e=>O6 _ e
 refine ⟨s1.heap.objs.size,[s1.heap.objs.size],_,_,upd H1 a (.frz o (.dT kvs)),rfl,I1.write (t':=s1.toks) (x:=a) (e:=a) (by rw [ea]; trivial) (.inl rfl) (fun b u _ e=>keep b u e) ⟨o,keep a o ho⟩ ⟨keep a o ho,z,hs,xs,Paired.mapP rel fun p q y=>⟨y.1,?_,y.2.2⟩,o,es,ep,keep a o ho,hx,hd,he,hn⟩,
  Q6r a _ o kvs hd,⟨_,E9 _ rfl,rfl,by rw [hsz]; rfl⟩,fun b hb=>?_,q o (I1.noFrzT ea)⟩
 ·obtain ⟨u,k1,k2⟩:=y.2.1;exact ⟨u,k1.keep fun c ys ec=>by rw [Q8 (fun z=>by rw [z,ea] at ec; cases ec)]; exact ec,k2⟩
 ·have e:b=s1.heap.objs.size:=by simpa using hb
  subst e;exact I1.fpOk (O8 _) (by rw [Q8 hne]; exact hn1)
def Qqb (td ty tx:TE):TE:=fun σ H Q=>td σ H fun x H1=>∃ a,x=.ref a/\IsD H1 a/\ty σ H1 fun y H2=>tx σ H2 fun z H3=>∃ kvs k,H3 a=some (.dT kvs)/\KR H3 k y/\kvs.length < sizeLine /\
 (∀ v,Ug kvs k=some v->Q v H3)/\(Ug kvs k=none->Q z (upd H3 a (.dT (Uz kvs k z))))
variable {o e f:aH} {apos cpos:Pos} {td ty tx:TE}
theorem Qa6 (hu:X.A.units + 9 < aO) (ho:PE X o td) (he:PE X e ty) (hf:PE X f tx) (m:M2 X o "setdefault" apos e f cpos):PE X (.Call (.Attribute o "setdefault" apos) [e,f] [] cpos) (Qqb td ty tx):=by
 intro pins s σ H Q I h;refine wpAny_Call_method m.base m.few m.line PySem.F.plainAttrs_dict PySem.F.slot_dict_setdefault PySem.F.type_dict_setdefault (thn (ho pins s σ H _ I h) fun u s1 ⟨x,H1,I1,rx,a,ex,d,q1⟩=>?_)
 subst ex;obtain rfl:u=Value.ref a:=rx;obtain ⟨t1,t2,_⟩:=Qnq I1 d;refine ⟨t1,t2,?_⟩;rw [m.trees];refine Calls.callWith_builtin rfl (Calls.evalArgs_plain (Calls.spliced_cons (thn (he pins s1 σ H1 _ I1 q1) fun iv s2 ⟨y,H2,I2,ry,q2⟩=>Calls.spliced_cons (thn (hf pins s2 σ H2 _ I2 q2) fun dv s3 ⟨z,H3,I3,rz,kvs,k,ea,kr,hl,g1,g2⟩=>Calls.spliced_nil ?_))))
 obtain ⟨hz,hs,xs,rel,dd⟩:=Qen I3.hok ea;have hzx:xs.length<=sizeLine:=by rw [<- Paired.length rel]; exact hz
 refine call_meetsIn PySem.F.slot_dict_setdefault dd.typeIs PySem.F.entry_dict_setdefault (PySem.F.args_dict_setdefault_3 _ _ _) (Q3i hs) ⟨z9 hu,k,xs,Q6k I3.hok kr ry,dd,hzx,fun p hp=>?_,fun hp h' dd' sb=>?_⟩
 ·have rv:=rel.val k;rw [hp] at rv;cases hv:Ug kvs k with
  | none=>rw [hv] at rv; exact rv.elim
  | some v=>
   rw [hv] at rv;exact ⟨v,H3,I3.tok _,rv,g1 v hv⟩
 ·have rv:=rel.val k;rw [hp] at rv;have hv:Ug kvs k=none:=by
   cases hv:Ug kvs k with
   | none=>rfl
   | some v=>rw [hv] at rv; exact rv.elim
  have hl2:(Uz kvs k z).length<=sizeLine:=by have:=Kf kvs k z; omega
  obtain ⟨q,es,ep,hq,h2,h3,h4,_,h5⟩:=dd';refine ⟨z,upd H3 a (.dT (Uz kvs k z)),Q07 I3 (by rw [ea]; exact True.intro) sb ⟨q,hq⟩ ⟨hl2,hs,_,(rel.put k kr ry rz).keeps fun c ys ec=>?_,q,es,ep,hq,h2,h3,h4,h5⟩,rz,g2 hv⟩;rw [Q8 (Qdf ec ea (fun z=>nomatch z))];exact ec
end L2
namespace Sm
open PySem PySem.Spec L2
variable {H H':Hp} {p a:aB} {o:HO} {hs:List aB} {v:V} {vs:List V} {κ:Type} {σ:St} {e:aH} {es:List aH} {f:aA->aA->Sem aA} {Q:Bool->Hp->Prop} {D:Ends}
section
inductive PV where
 | non | bl (b:Bool) | int (i:Int) | str (x:Str) | tup (xs:List PV) | lst (xs:List PV) | fro (xs:List PV) | ref (i:Nat) | dic
variable {ps:List PV}
inductive Cell where
 | lst (xs:List PV) | dic (kvs:List (Key × PV)) | dtp (kvs:List (HK × PV)) | frd (kvs:List (Key × PV)) | frt (kvs:List (HK × PV))
 | obj (C:aB) (fs:List (Str × PV))
variable {cl:Cell}
abbrev Q0:=List Cell
variable {st:Q0}
structure Exc where
 cls:Str
 fs:Option (Str × PV):=none
inductive Res (α:Type) where
 | ok (a:α) (st:Q0) | exc (x:Exc) (st:Q0) | stuck
abbrev Gam:=List (Option PV)
variable {Γ:Gam} {m:Gam->Q0->Res Bool}
abbrev ME:=Gam->Q0->Res PV
structure Tk where
 tr:List aB
 hid:List aB
variable {ρ:Tk} {P:Bool->Q0->Hp->Tk->Prop}
instance:Membership aB Tk:=⟨fun t a=>a∈t.tr\/a∈t.hid⟩
def Tk.nil:Tk:=⟨[],[]⟩
theorem Tk.not_nil (a:aB):a∉Tk.nil:=fun z=>by rcases z with z | z <;> cases z
def Tk.add (t:Tk) (p:aB):Tk:=⟨t.tr ++ [p],t.hid⟩
def Tk.hide (t:Tk) (p:aB):Tk:=⟨t.tr,p :: t.hid⟩
mutual
def Rep (H:Hp) (ρ:Tk):PV->V->Prop
 | .non,v=>v=.non
 | .bl b,v=>v=.bl b
 | .int i,v=>v=.int i
 | .str x,v=>v=.str x
 | .tup ps,v=>∃ a vs,v=.ref a/\H a=some (.tup vs)/\a∉ρ/\RepL H ρ ps vs
 | .lst ps,v=>∃ a vs,v=.ref a/\H a=some (.lst vs)/\a∉ρ/\RepL H ρ ps vs
 | .fro ps,v=>∃ a vs,v=.ref a/\Rd H a (.lst vs)/\a∉ρ/\RepL H ρ ps vs
 | .ref i,v=>∃ a,ρ.tr[i]?=some a/\v=.ref a
 | .dic,v=>∃ a,v=.ref a/\H a=some (.dK [])/\a∉ρ
def RepL (H:Hp) (ρ:Tk):List PV->List V->Prop
 | [],vs=>vs=[]
 | p :: ps,vs=>∃ v r,vs=v :: r/\Rep H ρ p v/\RepL H ρ ps r
end
structure Ext (H:Hp) (ρ:Tk) (H':Hp) (ρ':Tk):Prop where
 pre:ρ.tr <+: ρ'.tr
 hidM:∀ a,a∈ρ.hid->a∈ρ'.hid
 hidN:∀ a,a∈ρ'.hid->a∈ρ.hid\/H a=none
 keep:∀ a o,H a=some o->a∉ρ.tr->H' a=some o
 new:∀ a,a∈ρ'.tr->a∈ρ.tr\/H a=none
 old:∀ a o,H a=some o->∃ o',H' a=some o'
 frz:∀ a o u,H a=some (.frz o u)->H' a=some (.frz o u)
theorem Ext.refl (H:Hp) (ρ:Tk):Ext H ρ H ρ:=⟨List.prefix_refl _,fun _ h=>h,fun _ h=>.inl h,fun _ _ h _=>h,fun _ h=>.inl h,fun _ o h=>⟨o,h⟩,fun _ _ _ h=>h⟩
theorem Ext.trans {H1 H2:Hp} {ρ1 ρ2:Tk} (a:Ext H ρ H1 ρ1) (b:Ext H1 ρ1 H2 ρ2):Ext H ρ H2 ρ2 where
 pre:=a.pre.trans b.pre
 hidM:=fun x h=>b.hidM x (a.hidM x h)
 hidN:=fun x h=>by
  rcases b.hidN x h with z | z
  ·exact a.hidN x z
  ·right
   cases q:H x with
   | none=>rfl
   | some o=>
    obtain ⟨o',e⟩:=a.old x o q;rw [e] at z; cases z
 keep:=fun x o h n=>b.keep x o (a.keep x o h n) fun z=>by
  rcases a.new x z with z | z
  ·exact n z
  ·rw [h] at z; cases z
 new:=fun x h=>by
  rcases b.new x h with z | z
  ·exact a.new x z
  ·right
   cases q:H x with
   | none=>rfl
   | some o=>
    obtain ⟨o',e⟩:=a.old x o q;rw [e] at z; cases z
 old:=fun x o h=>by
  obtain ⟨o',e⟩:=a.old x o h;exact b.old x o' e
 frz:=fun x o u h=>b.frz x o u (a.frz x o u h)
theorem Ext.add (h:H p=none):Ext H ρ (upd H p o) ρ where
 pre:=List.prefix_refl _
 hidM:=fun _ h=>h
 hidN:=fun _ h=>.inl h
 keep:=fun a u e _=>by rw [Q8 (Qa e h)]; exact e
 new:=fun a e=>.inl e
 old:=fun a u e=>⟨u,by rw [Q8 (Qa e h)]; exact e⟩
 frz:=fun a o u e=>by rw [Q8 (Qa e h)]; exact e
theorem Ext.addT (h:H p=none):Ext H ρ (upd H p o) (ρ.add p) where
 pre:=List.prefix_append _ _
 hidM:=fun _ h=>h
 hidN:=fun _ h=>.inl h
 keep:=fun a u e _=>by rw [Q8 (Qa e h)]; exact e
 new:=fun a e=>by
  rcases D0.mp e with z | z
  ·exact .inl z
  ·right
   have:a=p:=by simpa using z
   rw [this]; exact h
 old:=fun a u e=>⟨u,by rw [Q8 (Qa e h)]; exact e⟩
 frz:=fun a o u e=>by rw [Q8 (Qa e h)]; exact e
theorem Ext.same (h:Same H H'):Ext H ρ H' ρ:=⟨List.prefix_refl _,fun _ h=>h,fun _ h=>.inl h,fun a o e _=>h a o e,fun _ e=>.inl e,fun a o e=>⟨o,h a o e⟩,fun a o u e=>h a _ e⟩
section
variable {H H':Hp} {ρ ρ':Tk}
theorem X3 (x:Ext H ρ H' ρ') (h:H a=some o) (n:a∉ρ):a∉ρ':=fun z=>by
 rcases z with z | z
 ·rcases x.new a z with z | z
  ·exact n (.inl z)
  ·rw [h] at z; cases z
 ·rcases x.hidN a z with z | z
  ·exact n (.inr z)
  ·rw [h] at z; cases z
theorem Ext.kp (x:Ext H ρ H' ρ') (h:H a=some o) (n:a∉ρ):H' a=some o:=x.keep a o h fun z=>n (.inl z)
mutual
theorem Rep.ext (x:Ext H ρ H' ρ'):∀ {p:PV} {v:V},Rep H ρ p v->Rep H' ρ' p v
 | .non,_,h=>h
 | .bl _,_,h=>h
 | .int _,_,h=>h
 | .str _,_,h=>h
 | .tup ps,v,h=>by
  obtain ⟨a,vs,e,s,n,r⟩:=h;exact ⟨a,vs,e,x.kp s n,X3 x s n,RepL.ext x r⟩
 | .lst ps,v,h=>by
  obtain ⟨a,vs,e,s,n,r⟩:=h;exact ⟨a,vs,e,x.kp s n,X3 x s n,RepL.ext x r⟩
 | .fro ps,v,h=>by
  obtain ⟨a,vs,e,s,n,r⟩:=h;rcases s with s | ⟨o,s⟩
  ·exact ⟨a,vs,e,.inl (x.kp s n),X3 x s n,RepL.ext x r⟩
  ·exact ⟨a,vs,e,.inr ⟨o,x.kp s n⟩,X3 x s n,RepL.ext x r⟩
 | .ref i,v,h=>by
  obtain ⟨a,e,rfl⟩:=h;obtain ⟨t,et⟩:=x.pre;refine ⟨a,?_,rfl⟩;rw [<- et,O5 (O0.mp e).1];exact e
 | .dic,v,h=>by
  obtain ⟨a,e,s,n⟩:=h;exact ⟨a,e,x.kp s n,X3 x s n⟩
theorem RepL.ext (x:Ext H ρ H' ρ'):∀ {ps:List PV} {vs:List V},RepL H ρ ps vs->RepL H' ρ' ps vs
 | [],_,h=>h
 | p :: ps,vs,h=>by
  obtain ⟨v,r,e,h1,h2⟩:=h;exact ⟨v,r,e,Rep.ext x h1,RepL.ext x h2⟩
end
mutual
theorem Rep.hide {a:aB} {o:HO} (h:H a=none):∀ {p:PV} {v:V},Rep H ρ p v->Rep (upd H a o) (ρ.hide a) p v
 | .non,_,r=>r
 | .bl _,_,r=>r
 | .int _,_,r=>r
 | .str _,_,r=>r
 | .tup ps,v,⟨b,vs,e,s,n,r⟩=>⟨b,vs,e,by rw [Q8 (Qa s h)]; exact s,fun z=>by
   rcases z with z | z
   ·exact n (.inl z)
   ·rcases E2.mp z with z | z
    ·exact Qa s h z
    ·exact n (.inr z),RepL.hide h r⟩
 | .lst ps,v,⟨b,vs,e,s,n,r⟩=>⟨b,vs,e,by rw [Q8 (Qa s h)]; exact s,fun z=>by
   rcases z with z | z
   ·exact n (.inl z)
   ·rcases E2.mp z with z | z
    ·exact Qa s h z
    ·exact n (.inr z),RepL.hide h r⟩
 | .fro ps,v,⟨b,vs,e,s,n,r⟩=>by
   have ne:b≠a:=by
    rcases s with s | ⟨_,s⟩
    ·exact Qa s h
    ·exact Qa s h
   refine ⟨b,vs,e,?_,fun z=>?_,RepL.hide h r⟩
   ·rcases s with s | ⟨u,s⟩
    ·exact .inl (by rw [Q8 ne]; exact s)
    ·exact .inr ⟨u,by rw [Q8 ne]; exact s⟩
   ·rcases z with z | z
    ·exact n (.inl z)
    ·rcases E2.mp z with z | z
     ·exact ne z
     ·exact n (.inr z)
 | .ref i,v,r=>r
 | .dic,v,⟨b,e,s,n⟩=>⟨b,e,by rw [Q8 (Qa s h)]; exact s,fun z=>by
   rcases z with z | z
   ·exact n (.inl z)
   ·rcases E2.mp z with z | z
    ·exact Qa s h z
    ·exact n (.inr z)⟩
theorem RepL.hide {a:aB} {o:HO} (h:H a=none):∀ {ps:List PV} {vs:List V},RepL H ρ ps vs->RepL (upd H a o) (ρ.hide a) ps vs
 | [],_,r=>r
 | p :: ps,_,⟨v,t,e,r1,r2⟩=>⟨v,t,e,Rep.hide h r1,RepL.hide h r2⟩
end
mutual
theorem Rep.rehide {a:aB} {o:HO} (h:a∈ρ.hid):∀ {p:PV} {v:V},Rep H ρ p v->Rep (upd H a o) ρ p v
 | .non,_,r=>r
 | .bl _,_,r=>r
 | .int _,_,r=>r
 | .str _,_,r=>r
 | .tup ps,v,⟨b,vs,e,s,n,r⟩=>⟨b,vs,e,by rw [Q8 (show b≠a from fun z=>n (.inr (by rw [z]; exact h)))]; exact s,n,RepL.rehide h r⟩
 | .lst ps,v,⟨b,vs,e,s,n,r⟩=>⟨b,vs,e,by rw [Q8 (show b≠a from fun z=>n (.inr (by rw [z]; exact h)))]; exact s,n,RepL.rehide h r⟩
 | .fro ps,v,⟨b,vs,e,s,n,r⟩=>by
   have ne:b≠a:=fun z=>n (.inr (by rw [z]; exact h))
   refine ⟨b,vs,e,?_,n,RepL.rehide h r⟩;rcases s with s | ⟨u,s⟩
   ·exact .inl (by rw [Q8 ne]; exact s)
   ·exact .inr ⟨u,by rw [Q8 ne]; exact s⟩
 | .ref i,v,r=>r
 | .dic,v,⟨b,e,s,n⟩=>⟨b,e,by rw [Q8 (show b≠a from fun z=>n (.inr (by rw [z]; exact h)))]; exact s,n⟩
theorem RepL.rehide {a:aB} {o:HO} (h:a∈ρ.hid):∀ {ps:List PV} {vs:List V},RepL H ρ ps vs->RepL (upd H a o) ρ ps vs
 | [],_,r=>r
 | p :: ps,_,⟨v,t,e,r1,r2⟩=>⟨v,t,e,Rep.rehide h r1,RepL.rehide h r2⟩
end
mutual
theorem Rep.retr {a:aB} {o:HO} (h:a∈ρ.tr):∀ {p:PV} {v:V},Rep H ρ p v->Rep (upd H a o) ρ p v
 | .non,_,r=>r
 | .bl _,_,r=>r
 | .int _,_,r=>r
 | .str _,_,r=>r
 | .tup ps,v,⟨b,vs,e,s,n,r⟩=>⟨b,vs,e,by rw [Q8 (show b≠a from fun z=>n (.inl (by rw [z]; exact h)))]; exact s,n,RepL.retr h r⟩
 | .lst ps,v,⟨b,vs,e,s,n,r⟩=>⟨b,vs,e,by rw [Q8 (show b≠a from fun z=>n (.inl (by rw [z]; exact h)))]; exact s,n,RepL.retr h r⟩
 | .fro ps,v,⟨b,vs,e,s,n,r⟩=>by
   have ne:b≠a:=fun z=>n (.inl (by rw [z]; exact h))
   refine ⟨b,vs,e,?_,n,RepL.retr h r⟩;rcases s with s | ⟨u,s⟩
   ·exact .inl (by rw [Q8 ne]; exact s)
   ·exact .inr ⟨u,by rw [Q8 ne]; exact s⟩
 | .ref i,v,r=>r
 | .dic,v,⟨b,e,s,n⟩=>⟨b,e,by rw [Q8 (show b≠a from fun z=>n (.inl (by rw [z]; exact h)))]; exact s,n⟩
theorem RepL.retr {a:aB} {o:HO} (h:a∈ρ.tr):∀ {ps:List PV} {vs:List V},RepL H ρ ps vs->RepL (upd H a o) ρ ps vs
 | [],_,r=>r
 | p :: ps,_,⟨v,t,e,r1,r2⟩=>⟨v,t,e,Rep.retr h r1,RepL.retr h r2⟩
end
mutual
theorem Rep.unhide {hs:List aB} (hh:∀ a,a∈hs->a∈ρ.hid):∀ {p:PV} {v:V},Rep H ρ p v->Rep H ⟨ρ.tr,hs⟩ p v
 | .non,_,r=>r
 | .bl _,_,r=>r
 | .int _,_,r=>r
 | .str _,_,r=>r
 | .tup ps,v,⟨b,vs,e,s,n,r⟩=>⟨b,vs,e,s,fun z=>n (z.imp id (hh _)),RepL.unhide hh r⟩
 | .lst ps,v,⟨b,vs,e,s,n,r⟩=>⟨b,vs,e,s,fun z=>n (z.imp id (hh _)),RepL.unhide hh r⟩
 | .fro ps,v,⟨b,vs,e,s,n,r⟩=>⟨b,vs,e,s,fun z=>n (z.imp id (hh _)),RepL.unhide hh r⟩
 | .ref i,v,r=>r
 | .dic,v,⟨b,e,s,n⟩=>⟨b,e,s,fun z=>n (z.imp id (hh _))⟩
theorem RepL.unhide {hs:List aB} (hh:∀ a,a∈hs->a∈ρ.hid):∀ {ps:List PV} {vs:List V},RepL H ρ ps vs->RepL H ⟨ρ.tr,hs⟩ ps vs
 | [],_,r=>r
 | p :: ps,_,⟨v,t,e,r1,r2⟩=>⟨v,t,e,Rep.unhide hh r1,RepL.unhide hh r2⟩
end
theorem RepL.length:∀ {ps:List PV} {vs:List V},RepL H ρ ps vs->ps.length=vs.length
 | [],_,h=>by cases h; rfl
 | p :: ps,_,⟨v,r,rfl,_,h2⟩=>by rw [E7,E7,RepL.length h2]
theorem RepL.get:∀ {ps:List PV} {vs:List V} {i:Nat} {p:PV},RepL H ρ ps vs->ps[i]?=some p->∃ v,vs[i]?=some v/\Rep H ρ p v
 | [],_,_,_,_,e=>by simp at e
 | p :: ps,_,0,q,⟨v,r,rfl,h1,h2⟩,e=>by simp at e; subst e; exact ⟨v,rfl,h1⟩
 | p :: ps,_,i + 1,q,⟨v,r,rfl,h1,h2⟩,e=>by
  obtain ⟨u,e1,e2⟩:=RepL.get (i:=i) h2 (by simpa using e);exact ⟨u,by simpa using e1,e2⟩
theorem RepL.cons {p:PV} (h:Rep H ρ p v) (r:RepL H ρ ps vs):RepL H ρ (p :: ps) (v :: vs):=⟨v,vs,rfl,h,r⟩
theorem RepL.nil:RepL H ρ [] []:=rfl
theorem RepL.append:∀ {ps qs:List PV} {vs us:List V},RepL H ρ ps vs->RepL H ρ qs us->RepL H ρ (ps ++ qs) (vs ++ us)
 | [],_,_,_,h,g=>by cases h; exact g
 | p :: ps,_,_,_,⟨v,r,rfl,h1,h2⟩,g=>⟨v,_,rfl,h1,RepL.append h2 g⟩
theorem RepL.take:∀ {ps:List PV} {vs:List V} (n:Nat),RepL H ρ ps vs->RepL H ρ (ps.take n) (vs.take n)
 | _,_,0,_=>rfl
 | [],_,n + 1,h=>by cases h; rfl
 | p :: ps,_,n + 1,⟨v,r,rfl,h1,h2⟩=>⟨v,_,rfl,h1,RepL.take n h2⟩
theorem RepL.drop:∀ {ps:List PV} {vs:List V} (n:Nat),RepL H ρ ps vs->RepL H ρ (ps.drop n) (vs.drop n)
 | _,_,0,h=>h
 | [],_,n + 1,h=>by cases h; rfl
 | p :: ps,_,n + 1,⟨v,r,rfl,h1,h2⟩=>RepL.drop n h2
theorem RepL.set {p:PV} (h:Rep H ρ p v):∀ {ps:List PV} {vs:List V} (i:Nat),RepL H ρ ps vs->RepL H ρ (ps.set i p) (vs.set i v)
 | [],_,_,g=>by cases g; rfl
 | q :: ps,_,0,⟨u,r,rfl,h1,h2⟩=>⟨v,r,rfl,h,h2⟩
 | q :: ps,_,i + 1,⟨u,r,rfl,h1,h2⟩=>⟨u,_,rfl,h1,RepL.set h i h2⟩
theorem RepL.rep (h:RepL H ρ ps vs):∀ n,RepL H ρ (List.replicate n ps).flatten (List.replicate n vs).flatten
 | 0=>rfl
 | n + 1=>by rw [List.replicate_succ,List.replicate_succ,List.flatten_cons,List.flatten_cons]; exact h.append (RepL.rep h n)
theorem RepL.toInts:∀ {ns:List Int} {vs:List V},RepL H ρ (ns.map .int) vs->vs=ns.map V.int
 | [],_,h=>h
 | n :: ns,_,⟨v,r,rfl,h1,h2⟩=>by
  have e:v=V.int n:=h1;rw [RepL.toInts h2,e]; rfl
theorem RepL.toBls:∀ {ns:List Bool} {vs:List V},RepL H ρ (ns.map .bl) vs->vs=ns.map V.bl
 | [],_,h=>h
 | n :: ns,_,⟨v,r,rfl,h1,h2⟩=>by
  have e:v=V.bl n:=h1;rw [RepL.toBls h2,e]; rfl
end
def RepD {κ:Type} (H:Hp) (ρ:Tk) (kvs:List (κ × PV)) (vs:List (κ × V)):Prop:=vs.map Prod.fst=kvs.map Prod.fst/\RepL H ρ (kvs.map Prod.snd) (vs.map Prod.snd)
theorem RepD.ext {ρ':Tk} {kvs:List (κ × PV)} {vs:List (κ × V)} (x:Ext H ρ H' ρ') (r:RepD H ρ kvs vs):RepD H' ρ' kvs vs:=⟨r.1,r.2.ext x⟩
theorem RepD.length {kvs:List (κ × PV)} {vs:List (κ × V)} (r:RepD H ρ kvs vs):kvs.length=vs.length:=by
 have:=congrArg List.length r.1;rw [O1,O1] at this;exact this.symm
def CellR (H:Hp) (ρ:Tk) (a:aB):Cell->Prop
 | .lst ps=>∃ vs,H a=some (.lst vs)/\RepL H ρ ps vs
 | .dic kvs=>∃ vs,H a=some (.dK vs)/\RepD H ρ kvs vs
 | .dtp kvs=>∃ vs,H a=some (.dT vs)/\RepD H ρ kvs vs
 | .frd kvs=>∃ vs,(∃ o,H a=some (.frz o (.dK vs)))/\RepD H ρ kvs vs
 | .frt kvs=>∃ vs,(∃ o,H a=some (.frz o (.dT vs)))/\RepD H ρ kvs vs
 | .obj C fs=>∃ vs,(∃ dx,H a=some (.ins C dx vs))/\RepD H ρ fs vs
theorem CellR.dom :∀ {c:Cell},CellR H ρ a c->∃ o,H a=some o
 | .lst _,⟨_,e,_⟩=>⟨_,e⟩
 | .dic _,⟨_,e,_⟩=>⟨_,e⟩
 | .dtp _,⟨_,e,_⟩=>⟨_,e⟩
 | .frd _,⟨_,⟨_,e⟩,_⟩=>⟨_,e⟩
 | .frt _,⟨_,⟨_,e⟩,_⟩=>⟨_,e⟩
 | .obj _ _,⟨_,⟨_,e⟩,_⟩=>⟨_,e⟩
theorem CellR.ext {ρ':Tk} (x:Ext H ρ H' ρ') (k:∀ o,H a=some o->H' a=some o):∀ {c:Cell},CellR H ρ a c->CellR H' ρ' a c
 | .lst _,⟨vs,e,r⟩=>⟨vs,k _ e,r.ext x⟩
 | .dic _,⟨vs,e,r⟩=>⟨vs,k _ e,r.ext x⟩
 | .dtp _,⟨vs,e,r⟩=>⟨vs,k _ e,r.ext x⟩
 | .frd _,⟨vs,⟨o,e⟩,r⟩=>⟨vs,⟨o,k _ e⟩,r.ext x⟩
 | .frt _,⟨vs,⟨o,e⟩,r⟩=>⟨vs,⟨o,k _ e⟩,r.ext x⟩
 | .obj _ _,⟨vs,⟨o,e⟩,r⟩=>⟨vs,⟨o,k _ e⟩,r.ext x⟩
structure Rel (H:Hp) (ρ:Tk) (st:Q0):Prop where
 len:ρ.tr.length=st.length
 nd:ρ.tr.Nodup
 hd:∀ a∈ρ.hid,∃ o,H a=some o/\∀ xs,o≠.tup xs
 ap:∀ a∈ρ.hid,a∉ρ.tr
 cell:∀ (i:Nat) (a:aB) (c:Cell),ρ.tr[i]?=some a->st[i]?=some c->CellR H ρ a c
section
variable {H H':Hp} {ρ ρ':Tk} {st st':Q0}
theorem Rel.lst (R:Rel H ρ st) {i:Nat} (h:st[i]?=some (.lst ps)):∃ a vs,ρ.tr[i]?=some a/\H a=some (.lst vs)/\RepL H ρ ps vs:=by
 have hi:i < ρ.tr.length:=by rw [R.len]; exact (O0.mp h).1
 have e:ρ.tr[i]?=some ρ.tr[i]:=O2 hi;obtain ⟨vs,e1,e2⟩:=R.cell i _ _ e h;exact ⟨_,vs,e,e1,e2⟩
theorem Rel.dtp (R:Rel H ρ st) {i:Nat} {kvs:List (HK × PV)} (h:st[i]?=some (.dtp kvs)):∃ a vs,ρ.tr[i]?=some a/\H a=some (.dT vs)/\RepD H ρ kvs vs:=by
 have hi:i < ρ.tr.length:=by rw [R.len]; exact (O0.mp h).1
 have e:ρ.tr[i]?=some ρ.tr[i]:=O2 hi;obtain ⟨vs,e1,e2⟩:=R.cell i _ _ e h;exact ⟨_,vs,e,e1,e2⟩
theorem Rel.frt (R:Rel H ρ st) {i:Nat} {kvs:List (HK × PV)} (h:st[i]?=some (.frt kvs)):∃ a vs o,ρ.tr[i]?=some a/\H a=some (.frz o (.dT vs))/\RepD H ρ kvs vs:=by
 have hi:i < ρ.tr.length:=by rw [R.len]; exact (O0.mp h).1
 have e:ρ.tr[i]?=some ρ.tr[i]:=O2 hi;obtain ⟨vs,⟨o,e1⟩,e2⟩:=R.cell i _ _ e h;exact ⟨_,vs,o,e,e1,e2⟩
theorem Rel.dom (R:Rel H ρ st) (h:a∈ρ.tr):∃ o,H a=some o:=by
 obtain ⟨i,hi,e⟩:=List.getElem_of_mem h;have hs:i < st.length:=by rw [<- R.len]; exact hi
 have q:=R.cell i a st[i] (by rw [O2 hi,e]) (O2 hs);exact q.dom
theorem Rel.fresh (R:Rel H ρ st) (h:H p=none):p∉ρ:=fun z=>by
 rcases z with z | z
 ·obtain ⟨vs,q⟩:=R.dom z;rw [h] at q; cases q
 ·obtain ⟨o,q,_⟩:=R.hd p z;rw [h] at q; cases q
theorem Rel.later (R:Rel H ρ st) (x:Ext H ρ H' ρ) (k:∀ a o,a∈ρ.tr->H a=some o->H' a=some o):Rel H' ρ st where
 len:=R.len
 nd:=R.nd
 hd:=fun a ha=>let ⟨o,e,n⟩:=R.hd a ha; ⟨o,x.keep a o e (R.ap a ha),n⟩
 ap:=R.ap
 cell:=fun i a c h1 h2=>by
  exact (R.cell i a c h1 h2).ext x fun o e=>k a o (F3 h1) e
end
theorem Rel.add (R:Rel H ρ st) (h:H p=none):Rel (upd H p o) ρ st:=
 R.later (Ext.add h) fun a u hm e=>by rw [Q8 (Qa e h)]; exact e
theorem Rel.same (R:Rel H ρ st) (h:Same H H'):Rel H' ρ st:=R.later (Ext.same h) fun a u _ e=>h a u e
theorem Rel.addC (R:Rel H ρ st) (h:H p=none) (r:CellR (upd H p o) (ρ.add p) p cl):Rel (upd H p o) (ρ.add p) (st ++ [cl]) where
 len:=by show (ρ.tr ++ [p]).length=_; rw [O4,O4,R.len]; rfl
 nd:=List.nodup_append.mpr ⟨R.nd,by simp,fun a ha b hb e=>by
  have:b=p:=by simpa using hb
  subst this; subst e;exact R.fresh h (.inl ha)⟩
 hd:=fun a ha=>let ⟨o,e,n⟩:=R.hd a ha; ⟨o,by rw [Q8 (Qa e h)]; exact e,n⟩
 ap:=fun a ha z=>by
  rcases D0.mp z with z | z
  ·exact R.ap a ha z
  ·have:a=p:=by simpa using z
   subst this;exact R.fresh h (.inr ha)
 cell:=fun i a c h1 h2=>by
  have h1:(ρ.tr ++ [p])[i]?=some a:=h1
  by_cases hi:i < st.length
  ·rw [O5 (by rw [R.len]; exact hi)] at h1;rw [O5 hi] at h2;exact (R.cell i a c h1 h2).ext (Ext.addT h) fun u e=>by rw [Q8 (Qa e h)]; exact e
  ·rw [D7 (by rw [R.len]; omega)] at h1;rw [D7 (by omega)] at h2;have e0:i - st.length=0:=by
    rcases Nat.eq_zero_or_pos (i - st.length) with z | z
    ·exact z
    ·rw [L0 (by simp; omega)] at h2; cases h2
   rw [R.len,e0] at h1;rw [e0] at h2;simp at h1 h2;subst h1; subst h2;exact r
theorem Q2q {α:Type} {l:List α} (h:l.Nodup) {i j:Nat} (hi:i < l.length) (hj:j < l.length) (e:l[i]=l[j]):i=j:=by
 rcases Nat.lt_trichotomy i j with z | z | z
 ·exact absurd e ((List.pairwise_iff_getElem.mp h) i j hi hj z)
 ·exact z
 ·exact absurd e.symm ((List.pairwise_iff_getElem.mp h) j i hj hi z)
theorem Ext.put {o':HO} (h:a∈ρ.tr) (e:H a=some o) (nf:∀ q u,o≠.frz q u:=by intro _ _ z; cases z):Ext H ρ (upd H a o') ρ where
 pre:=List.prefix_refl _
 hidM:=fun _ h=>h
 hidN:=fun _ h=>.inl h
 keep:=fun b u q n=>by rw [Q8 (show b≠a from fun z=>n (by rw [z]; exact h))]; exact q
 new:=fun b q=>.inl q
 old:=fun b u q=>by
  by_cases z:b=a
  ·exact ⟨o',by rw [z]; exact Qu⟩
  ·exact ⟨u,by rw [Q8 z]; exact q⟩
 frz:=fun b q u k=>by
  by_cases z:b=a
  ·rw [z,e] at k; cases k; exact absurd rfl (nf _ _)
  ·rw [Q8 z]; exact k
theorem Rel.putC (R:Rel H ρ st) {i:Nat} {o':HO} (hi:ρ.tr[i]?=some a) (e:H a=some o) (r:CellR (upd H a o') ρ a cl):Rel (upd H a o') ρ (st.set i cl) where
 len:=by rw [D5]; exact R.len
 nd:=R.nd
 hd:=fun b hb=>let ⟨u,q,n⟩:=R.hd b hb; ⟨u,by rw [Q8 (show b≠a from fun z=>R.ap b hb (by rw [z]; exact F3 hi))]; exact q,n⟩
 ap:=R.ap
 cell:=fun j b c h1 h2=>by
  by_cases hj:i=j
  ·subst hj;rw [hi] at h1; cases h1;rw [D4 (by rw [<- R.len]; exact (O0.mp hi).1)] at h2;cases h2;exact r
  ·rw [O9 hj] at h2;have q:=R.cell j b c h1 h2;have hb:b≠a:=fun z=>by
    subst z;have l1:=(O0.mp hi);have l2:=(O0.mp h1);exact hj (Q2q R.nd l1.1 l2.1 (l1.2.trans l2.2.symm))
   have hm:=F3 hi;cases c with
   | lst ps=>
    obtain ⟨vs,e1,e2⟩:=q;exact ⟨vs,by rw [Q8 hb]; exact e1,e2.retr hm⟩
   | dic ps=>
    obtain ⟨vs,e1,e2⟩:=q;exact ⟨vs,by rw [Q8 hb]; exact e1,e2.1,e2.2.retr hm⟩
   | dtp ps=>
    obtain ⟨vs,e1,e2⟩:=q;exact ⟨vs,by rw [Q8 hb]; exact e1,e2.1,e2.2.retr hm⟩
   | frd ps=>
    obtain ⟨vs,⟨oo,e1⟩,e2⟩:=q;exact ⟨vs,⟨oo,by rw [Q8 hb]; exact e1⟩,e2.1,e2.2.retr hm⟩
   | frt ps=>
    obtain ⟨vs,⟨oo,e1⟩,e2⟩:=q;exact ⟨vs,⟨oo,by rw [Q8 hb]; exact e1⟩,e2.1,e2.2.retr hm⟩
   | obj C ps=>
    obtain ⟨vs,⟨oo,e1⟩,e2⟩:=q;exact ⟨vs,⟨oo,by rw [Q8 hb]; exact e1⟩,e2.1,e2.2.retr hm⟩
theorem Rel.put (R:Rel H ρ st) {i:Nat} (hi:ρ.tr[i]?=some a) (e:H a=some o) (r:RepL H ρ ps vs):Rel (upd H a (.lst vs)) ρ (st.set i (.lst ps)):=
 R.putC hi e ⟨vs,Qu,r.retr (F3 hi)⟩
theorem Rel.hide (R:Rel H ρ st) (h:H p=none) (nt:∀ xs,o≠.tup xs:=by intro _ z; cases z):Rel (upd H p o) (ρ.hide p) st:=by
 have x:Ext H ρ (upd H p o) ρ:=Ext.add h;have R':=R.add (p:=p) (o:=o) h;refine ⟨R'.len,R'.nd,fun a ha=>?_,fun a ha z=>?_,fun i a c h1 h2=>?_⟩
 ·rcases E2.mp ha with rfl | ha
  ·exact ⟨o,Qu,nt⟩
  ·exact R'.hd a ha
 ·rcases E2.mp ha with rfl | ha
  ·exact R.fresh h (.inl z)
  ·exact R.ap a ha z
 ·have q:=R.cell i a c h1 h2;cases c with
  | lst ps=>
   obtain ⟨vs,e1,e2⟩:=q;exact ⟨vs,by rw [Q8 (Qa e1 h)]; exact e1,e2.hide h⟩
  | dic ps=>
   obtain ⟨vs,e1,e2⟩:=q;exact ⟨vs,by rw [Q8 (Qa e1 h)]; exact e1,e2.1,e2.2.hide h⟩
  | dtp ps=>
   obtain ⟨vs,e1,e2⟩:=q;exact ⟨vs,by rw [Q8 (Qa e1 h)]; exact e1,e2.1,e2.2.hide h⟩
  | frd ps=>
   obtain ⟨vs,⟨oo,e1⟩,e2⟩:=q;exact ⟨vs,⟨oo,by rw [Q8 (Qa e1 h)]; exact e1⟩,e2.1,e2.2.hide h⟩
  | frt ps=>
   obtain ⟨vs,⟨oo,e1⟩,e2⟩:=q;exact ⟨vs,⟨oo,by rw [Q8 (Qa e1 h)]; exact e1⟩,e2.1,e2.2.hide h⟩
  | obj C ps=>
   obtain ⟨vs,⟨oo,e1⟩,e2⟩:=q;exact ⟨vs,⟨oo,by rw [Q8 (Qa e1 h)]; exact e1⟩,e2.1,e2.2.hide h⟩
theorem Rel.rehide (R:Rel H ρ st) (h:p∈ρ.hid) (nt:∀ xs,o≠.tup xs:=by intro _ z; cases z):Rel (upd H p o) ρ st:=by
 refine ⟨R.len,R.nd,fun a ha=>?_,R.ap,fun i a c h1 h2=>?_⟩
 ·by_cases e:a=p
  ·exact ⟨o,by rw [e]; exact Qu,nt⟩
  ·obtain ⟨u,q,n⟩:=R.hd a ha;exact ⟨u,by rw [Q8 e]; exact q,n⟩
 ·have q:=R.cell i a c h1 h2;have ne:a≠p:=fun z=>R.ap p h (by rw [<- z]; exact F3 h1)
  cases c with
  | lst ps=>
   obtain ⟨vs,e1,e2⟩:=q;exact ⟨vs,by rw [Q8 ne]; exact e1,e2.rehide h⟩
  | dic ps=>
   obtain ⟨vs,e1,e2⟩:=q;exact ⟨vs,by rw [Q8 ne]; exact e1,e2.1,e2.2.rehide h⟩
  | dtp ps=>
   obtain ⟨vs,e1,e2⟩:=q;exact ⟨vs,by rw [Q8 ne]; exact e1,e2.1,e2.2.rehide h⟩
  | frd ps=>
   obtain ⟨vs,⟨oo,e1⟩,e2⟩:=q;exact ⟨vs,⟨oo,by rw [Q8 ne]; exact e1⟩,e2.1,e2.2.rehide h⟩
  | frt ps=>
   obtain ⟨vs,⟨oo,e1⟩,e2⟩:=q;exact ⟨vs,⟨oo,by rw [Q8 ne]; exact e1⟩,e2.1,e2.2.rehide h⟩
  | obj C ps=>
   obtain ⟨vs,⟨oo,e1⟩,e2⟩:=q;exact ⟨vs,⟨oo,by rw [Q8 ne]; exact e1⟩,e2.1,e2.2.rehide h⟩
theorem Rel.unhide (hh:∀ a,a∈hs->a∈ρ.hid) (R:Rel H ρ st):Rel H ⟨ρ.tr,hs⟩ st:=by
 refine ⟨R.len,R.nd,fun a ha=>R.hd a (hh a ha),fun a ha=>R.ap a (hh a ha),fun i a c h1 h2=>?_⟩;have q:=R.cell i a c h1 h2;cases c with
 | lst ps=>
  obtain ⟨vs,e1,e2⟩:=q;exact ⟨vs,e1,RepL.unhide hh e2⟩
 | dic ps=>
  obtain ⟨vs,e1,e2⟩:=q;exact ⟨vs,e1,e2.1,RepL.unhide hh e2.2⟩
 | dtp ps=>
  obtain ⟨vs,e1,e2⟩:=q;exact ⟨vs,e1,e2.1,RepL.unhide hh e2.2⟩
 | frd ps=>
  obtain ⟨vs,e1,e2⟩:=q;exact ⟨vs,e1,e2.1,RepL.unhide hh e2.2⟩
 | frt ps=>
  obtain ⟨vs,e1,e2⟩:=q;exact ⟨vs,e1,e2.1,RepL.unhide hh e2.2⟩
 | obj C ps=>
  obtain ⟨vs,e1,e2⟩:=q;exact ⟨vs,e1,e2.1,RepL.unhide hh e2.2⟩
theorem Ext.hide (h:H p=none):Ext H ρ (upd H p o) (ρ.hide p) where
 pre:=List.prefix_refl _
 hidM:=fun _ h=>O7 _ h
 hidN:=fun a ha=>by
  rcases E2.mp ha with rfl | ha
  ·exact .inr h
  ·exact .inl ha
 keep:=fun a u e _=>by rw [Q8 (Qa e h)]; exact e
 new:=fun a e=>.inl e
 old:=fun a u e=>⟨u,by rw [Q8 (Qa e h)]; exact e⟩
 frz:=fun a o u e=>by rw [Q8 (Qa e h)]; exact e
theorem Ext.put0 {H1:Hp} {ρ1:Tk} (x:Ext H ρ H1 ρ1) (h:H p=none):Ext H ρ (upd H1 p o) ρ1 where
 pre:=x.pre
 hidM:=x.hidM
 hidN:=x.hidN
 keep:=fun a u e n=>by rw [Q8 (Qa e h)]; exact x.keep a u e n
 new:=x.new
 old:=fun a u e=>by rw [Q8 (Qa e h)]; exact x.old a u e
 frz:=fun a o u e=>by rw [Q8 (Qa e h)]; exact x.frz a o u e
theorem Ext.unhide {H1:Hp} {ρ1:Tk} (x:Ext H ρ H1 ρ1):Ext H ρ H1 ⟨ρ1.tr,ρ.hid⟩ where
 pre:=x.pre
 hidM:=fun _ h=>h
 hidN:=fun _ h=>.inl h
 keep:=x.keep
 new:=x.new
 old:=x.old
 frz:=x.frz
def EnvR (H:Hp) (ρ:Tk) (Γ:Gam) (σ:St):Prop:=Γ.length=σ.length/\∀ (i:Nat) (p:PV),Γ[i]?=some (some p)->∃ v,σ[i]?=some (some v)/\Rep H ρ p v
theorem EnvR.ext {ρ':Tk} (x:Ext H ρ H' ρ') (h:EnvR H ρ Γ σ):EnvR H' ρ' Γ σ:=
 ⟨h.1,fun i p e=>let ⟨v,a,b⟩:=h.2 i p e; ⟨v,a,b.ext x⟩⟩
theorem EnvR.hide (n:H a=none) (h:EnvR H ρ Γ σ):EnvR (upd H a o) (ρ.hide a) Γ σ:=⟨h.1,fun i p e=>let ⟨v,a,b⟩:=h.2 i p e; ⟨v,a,b.hide n⟩⟩
theorem EnvR.rehide (n:a∈ρ.hid) (h:EnvR H ρ Γ σ):EnvR (upd H a o) ρ Γ σ:=⟨h.1,fun i p e=>let ⟨v,a,b⟩:=h.2 i p e; ⟨v,a,b.rehide n⟩⟩
theorem EnvR.set {p:PV} (h:EnvR H ρ Γ σ) (r:Rep H ρ p v) (i:Nat):EnvR H ρ (Γ.set i (some p)) (σ.set i (some v)):=by
 refine ⟨by rw [D5,D5]; exact h.1,fun j q e=>?_⟩;rw [List.getElem?_set] at e;rw [List.getElem?_set]
 by_cases hj:i=j
 ·subst hj;simp only [if_true] at e ⊢
  by_cases hl:i < Γ.length
  ·rw [bN hl] at e; cases e;rw [bN (by rw [<- h.1]; exact hl)];exact ⟨v,rfl,r⟩
  ·rw [bO hl] at e; cases e
 ·rw [bO hj] at e ⊢;exact h.2 j q e
end
def Res.bind {α β:Type} (r:Res α) (f:α->Q0->Res β):Res β:=match r with
 | .ok a st=>f a st
 | .exc x st=>.exc x st
 | .stuck=>.stuck
def okO {α:Type} (st:Q0):Option α->Res α
 | some a=>.ok a st
 | none=>.stuck
section
variable (X:Cx)
def WE (e:aH):TE:=fun σ H Q=>∀ (pins:List (aB × Obj)) (s:aC),Inv X pins σ H s->aF (aI X.prog X.w) X.A (aM e X.env) (EP X pins σ Q) X.xe s
def WT (e:aH):TT:=fun σ H Q=>∀ (pins:List (aB × Obj)) (s:aC),Inv X pins σ H s->aF (aI X.prog X.w) X.A (isTrue e X.env (aM e X.env)) (TP X pins σ Q) X.xe s
def WW (e:aH):TT:=fun σ H Q=>∀ (wh:Sem aA) (pins:List (aB × Obj)) (s:aC),Inv X pins σ H s->aF (aI X.prog X.w) X.A (isTrue e X.env wh) (TP X pins σ Q) X.xe s
def WA (es:List aH):TA:=fun σ H Q=>∀ (pos:Pos) (pins:List (aB × Obj)) (s:aC),Inv X pins σ H s->aF (aI X.prog X.w) X.A (spliced (aX pos (aN es X.env))) (AP X pins σ Q) X.xe s
def WS (st:aK):TS:=fun D σ H=>∀ (pins:List (aB × Obj)) (s:aC),Inv X pins σ H s->aF (aI X.prog X.w) X.A (exec st X.env) (SP X pins D) X.xe s
def WB (st:List aK):TS:=fun D σ H=>∀ (pins:List (aB × Obj)) (s:aC),Inv X pins σ H s->aF (aI X.prog X.w) X.A (execs st X.env) (SP X pins D) X.xe s
def WI (tg iter : aH) : TI := fun σ H R => ∀ (pins : List (aB × Obj)) (s : aC), Inv X pins σ H s ->
  aF (aI X.prog X.w) X.A (aM iter X.env) (fun v s1=>aF (aI X.prog X.w) X.A (pyIter v) (PIE X pins σ tg R) X.xe s1) X.xe s
def WO (f:aA->aA->Sem aA):R2:=fun x y H Q=>∀ (pins:List (aB × Obj)) (s:aC) (σ:St) (v u:aA),Inv X pins σ H s->RelV x v->RelV y u->aF (aI X.prog X.w) X.A (f v u) (EP X pins σ Q) X.xe s
def WC (f:aA):List V->Hp->VK->Prop:=fun xs H Q=>∀ (pins:List (aB × Obj)) (s:aC) (σ:St) (us:List aA),Inv X pins σ H s->Vals xs us->aF (aI X.prog X.w) X.A (call f us) (EP X pins σ Q) X.xe s
end
variable {X:Cx}
theorem Jj :PE X e (WE X e):=fun pins s _ _ _ I h=>h pins s I
theorem Q3t :PT X e (WT X e):=fun pins s _ _ _ I h=>h pins s I
theorem Qr4 :PW X e (WW X e):=fun wh pins s _ _ _ I h=>h wh pins s I
theorem xg :PA X es (WA X es):=fun pos pins s _ _ _ I h=>h pos pins s I
theorem Qr6 {st:aK}:PS X st (WS X st):=fun pins s _ _ _ I h=>h pins s I
theorem Q0v {st:List aK}:PSs X st (WB X st):=fun pins s _ _ _ I h=>h pins s I
theorem Qgz {tg iter:aH}:PI X tg iter (WI X tg iter):=fun pins s _ _ _ I h=>h pins s I
theorem Qd9 :OpR X f (WO X f):=fun pins s σ _ _ _ v u _ I r1 r2 h=>h pins s σ v u I r1 r2
theorem Qez {f:aA}:Vh X f (WC X f):=fun pins s σ _ _ us _ I r h=>h pins s σ us I r
theorem WE.of {t:TE} {Q:VK} (h:PE X e t) (q:t σ H Q):WE X e σ H Q:=fun pins s I=>h pins s σ H Q I q
theorem WT.of {t:TT} (h:PT X e t) (q:t σ H Q):WT X e σ H Q:=fun pins s I=>h pins s σ H Q I q
theorem WW.of {t:TT} (h:PW X e t) (q:t σ H Q):WW X e σ H Q:=fun wh pins s I=>h wh pins s σ H Q I q
theorem WA.of {t:TA} {Q:List V->Hp->Prop} (h:PA X es t) (q:t σ H Q):WA X es σ H Q:=fun pos pins s I=>h pos pins s σ H Q I q
theorem WS.of {st:aK} {t:TS} (h:PS X st t) (q:t D σ H):WS X st D σ H:=fun pins s I=>h pins s σ H D I q
theorem WB.of {st:List aK} {t:TS} (h:PSs X st t) (q:t D σ H):WB X st D σ H:=fun pins s I=>h pins s σ H D I q
theorem WI.of {tg iter:aH} {t:TI} {R:It->Hp->Prop} (h:PI X tg iter t) (q:t σ H R):WI X tg iter σ H R:=fun pins s I=>h pins s σ H R I q
theorem WO.of {r:R2} {x y:V} {Q:VK} (h:OpR X f r) (q:r x y H Q):WO X f x y H Q:=fun pins s σ v u I r1 r2=>h pins s σ H x y v u Q I r1 r2 q
theorem WC.of {f:aA} {r:List V->Hp->VK->Prop} {xs:List V} {Q:VK} (h:Vh X f r) (q:r xs H Q):WC X f xs H Q:=fun pins s σ us I r1=>h pins s σ H xs us Q I r1 q
def XFs (H:Hp) (ρ:Tk):Option (Str × PV)->Option aB->Prop
 | none,dv=>dv=none
 | some (n,p),dv=>∃ dx v,dv=some dx/\H dx=some (.xd [(n,v)])/\dx∉ρ/\Rep H ρ p v
def Acc {α:Type} (mg:Str->Option aA) (E:XK) (H:Hp) (ρ:Tk) (P:α->Q0->Hp->Tk->Prop):Res α->Prop
 | .ok a st=>∀ H' ρ',Ext H ρ H' ρ'->Rel H' ρ' st->P a st H' ρ'
 | .exc x st=>∀ C dv H' ρ',mg x.cls=some (.ref C)->Ext H ρ H' ρ'->Rel H' ρ' st->XFs H' ρ' x.fs dv->E (.ref C) dv H'
 | .stuck=>False
variable {α β:Type} {mg:Str->Option aA} {E:XK} {H H1:Hp} {ρ ρ1:Tk}
theorem Acc.mono {P P':α->Q0->Hp->Tk->Prop} {r:Res α} (h:Acc mg E H ρ P r) (x:Ext H ρ H1 ρ1) (k:∀ a st H' ρ',P a st H' ρ'->P' a st H' ρ'):Acc mg E H1 ρ1 P' r:=by
 cases r with
 | ok a st=>exact fun H' ρ' x' R'=>k _ _ _ _ (h H' ρ' (x.trans x') R')
 | exc e st=>exact fun C dv H' ρ' m x' R' f=>h C dv H' ρ' m (x.trans x') R' f
 | stuck=>exact h
theorem Acc.later {P:α->Q0->Hp->Tk->Prop} {r:Res α} (h:Acc mg E H ρ P r) (x:Ext H ρ H1 ρ1):Acc mg E H1 ρ1 P r:=h.mono x fun _ _ _ _ p=>p
theorem Acc.bind {P:β->Q0->Hp->Tk->Prop} {r:Res α} {f:α->Q0->Res β} (h:Acc mg E H ρ P (r.bind f)):Acc mg E H ρ (fun a st1 H1 ρ1=>Acc mg E H1 ρ1 P (f a st1)) r:=by
 cases r with
 | ok a st=>exact fun H' ρ' x' R'=>Acc.later (show Acc mg E H ρ P (f a st) from h) x'
 | exc e st=>exact h
 | stuck=>exact h
abbrev QV (Q:VK):PV->Q0->Hp->Tk->Prop:=fun p _ H' ρ'=>∀ v,Rep H' ρ' p v->Q v H'
abbrev QL (Q:List V->Hp->Prop):List PV->Q0->Hp->Tk->Prop:=fun ps _ H' ρ'=>∀ vs,RepL H' ρ' ps vs->Q vs H'
abbrev QB (Q:Bool->Hp->Prop):Bool->Q0->Hp->Tk->Prop:=fun b _ H' _=>Q b H'
structure SimE (X:Cx) (E:XK) (e:aH) (m:ME):Prop where
 run:∀ (Γ:Gam) (σ:St) (H:Hp) (ρ:Tk) (st:Q0) (Q:VK),Rel H ρ st->EnvR H ρ Γ σ->Acc X.mg E H ρ (QV Q) (m Γ st)->WE X e σ H Q
structure SimT (X:Cx) (E:XK) (e:aH) (m:Gam->Q0->Res Bool):Prop where
 run:∀ (Γ:Gam) (σ:St) (H:Hp) (ρ:Tk) (st:Q0) (Q:Bool->Hp->Prop),Rel H ρ st->EnvR H ρ Γ σ->Acc X.mg E H ρ (QB Q) (m Γ st)->WT X e σ H Q
structure SimW (X:Cx) (E:XK) (e:aH) (m:Gam->Q0->Res Bool):Prop where
 run:∀ (Γ:Gam) (σ:St) (H:Hp) (ρ:Tk) (st:Q0) (Q:Bool->Hp->Prop),Rel H ρ st->EnvR H ρ Γ σ->Acc X.mg E H ρ (QB Q) (m Γ st)->WW X e σ H Q
structure SimA (X:Cx) (E:XK) (es:List aH) (m:Gam->Q0->Res (List PV)):Prop where
 run:∀ (Γ:Gam) (σ:St) (H:Hp) (ρ:Tk) (st:Q0) (Q:List V->Hp->Prop),Rel H ρ st->EnvR H ρ Γ σ->Acc X.mg E H ρ (QL Q) (m Γ st)->WA X es σ H Q
abbrev OP:=Q0->PV->PV->Res PV
structure OpS (X:Cx) (E:XK) (f:aA->aA->Sem aA) (o:OP):Prop where
 run:∀ (H:Hp) (ρ:Tk) (st:Q0) (p q:PV) (x y:V) (Q:VK),Rel H ρ st->Rep H ρ p x->Rep H ρ q y->Acc X.mg E H ρ (QV Q) (o st p q)->WO X f x y H Q
abbrev CF:=Q0->List PV->Res PV
structure CallS (X:Cx) (E:XK) (f:aA) (o:CF):Prop where
 run:∀ (H:Hp) (ρ:Tk) (st:Q0) (ps:List PV) (xs:List V) (Q:VK),Rel H ρ st->RepL H ρ ps xs->Acc X.mg E H ρ (QV Q) (o st ps)->WC X f xs H Q
variable {Γ:Gam} {σ:St} {st:Q0}
theorem SimE.use {m:ME} (s:SimE X E e m) {P:PV->Q0->Hp->Tk->Prop} {Q:VK} (R:Rel H ρ st) (G:EnvR H ρ Γ σ) (h:Acc X.mg E H ρ P (m Γ st))
  (k:∀ p st1 H1 ρ1 v,Ext H ρ H1 ρ1->Rel H1 ρ1 st1->EnvR H1 ρ1 Γ σ->Rep H1 ρ1 p v->P p st1 H1 ρ1->Q v H1):WE X e σ H Q:=by
 refine s.run Γ σ H ρ st Q R G ?_;cases r:m Γ st with
 | ok p st1=>rw [r] at h; exact fun H' ρ' x' R' v rv=>k p st1 H' ρ' v x' R' (G.ext x') rv (h H' ρ' x' R')
 | exc e st=>rw [r] at h; exact h
 | stuck=>rw [r] at h; exact h
theorem SimE.use' {m:ME} (s:SimE X E e m) {P:PV->Q0->Hp->Tk->Prop} {Q:VK} (R:Rel H ρ st) (G:EnvR H ρ Γ σ) (h:Acc X.mg E H ρ P (m Γ st))
  (k:∀ p st1 H1 ρ1 v,m Γ st=.ok p st1->Ext H ρ H1 ρ1->Rel H1 ρ1 st1->EnvR H1 ρ1 Γ σ->Rep H1 ρ1 p v->P p st1 H1 ρ1->Q v H1):WE X e σ H Q:=by
 refine s.run Γ σ H ρ st Q R G ?_;cases r:m Γ st with
 | ok p st1=>rw [r] at h; exact fun H' ρ' x' R' v rv=>k p st1 H' ρ' v r x' R' (G.ext x') rv (h H' ρ' x' R')
 | exc e st=>rw [r] at h; exact h
 | stuck=>rw [r] at h; exact h
theorem SimA.use' {m:Gam->Q0->Res (List PV)} (s:SimA X E es m) {P:List PV->Q0->Hp->Tk->Prop} {Q:List V->Hp->Prop} (R:Rel H ρ st) (G:EnvR H ρ Γ σ) (h:Acc X.mg E H ρ P (m Γ st))
  (k:∀ ps st1 H1 ρ1 vs,m Γ st=.ok ps st1->Ext H ρ H1 ρ1->Rel H1 ρ1 st1->EnvR H1 ρ1 Γ σ->RepL H1 ρ1 ps vs->P ps st1 H1 ρ1->Q vs H1):WA X es σ H Q:=by
 refine s.run Γ σ H ρ st Q R G ?_;cases r:m Γ st with
 | ok p st1=>rw [r] at h; exact fun H' ρ' x' R' v rv=>k p st1 H' ρ' v r x' R' (G.ext x') rv (h H' ρ' x' R')
 | exc e st=>rw [r] at h; exact h
 | stuck=>rw [r] at h; exact h
theorem SimT.use {m:Gam->Q0->Res Bool} (s:SimT X E e m) {P:Bool->Q0->Hp->Tk->Prop} {Q:Bool->Hp->Prop} (R:Rel H ρ st) (G:EnvR H ρ Γ σ) (h:Acc X.mg E H ρ P (m Γ st))
  (k:∀ p st1 H1 ρ1,Ext H ρ H1 ρ1->Rel H1 ρ1 st1->EnvR H1 ρ1 Γ σ->P p st1 H1 ρ1->Q p H1):WT X e σ H Q:=by
 refine s.run Γ σ H ρ st Q R G ?_;cases r:m Γ st with
 | ok p st1=>rw [r] at h; exact fun H' ρ' x' R'=>k p st1 H' ρ' x' R' (G.ext x') (h H' ρ' x' R')
 | exc e st=>rw [r] at h; exact h
 | stuck=>rw [r] at h; exact h
theorem SimT.use' {m:Gam->Q0->Res Bool} (s:SimT X E e m) {P:Bool->Q0->Hp->Tk->Prop} {Q:Bool->Hp->Prop} (R:Rel H ρ st) (G:EnvR H ρ Γ σ) (h:Acc X.mg E H ρ P (m Γ st))
  (k:∀ p st1 H1 ρ1,m Γ st=.ok p st1->Ext H ρ H1 ρ1->Rel H1 ρ1 st1->EnvR H1 ρ1 Γ σ->P p st1 H1 ρ1->Q p H1):WT X e σ H Q:=by
 refine s.run Γ σ H ρ st Q R G ?_;cases r:m Γ st with
 | ok p st1=>rw [r] at h; exact fun H' ρ' x' R'=>k p st1 H' ρ' r x' R' (G.ext x') (h H' ρ' x' R')
 | exc e st=>rw [r] at h; exact h
 | stuck=>rw [r] at h; exact h
theorem SimW.use {m:Gam->Q0->Res Bool} (s:SimW X E e m) {P:Bool->Q0->Hp->Tk->Prop} {Q:Bool->Hp->Prop} (R:Rel H ρ st) (G:EnvR H ρ Γ σ) (h:Acc X.mg E H ρ P (m Γ st))
  (k:∀ p st1 H1 ρ1,Ext H ρ H1 ρ1->Rel H1 ρ1 st1->EnvR H1 ρ1 Γ σ->P p st1 H1 ρ1->Q p H1):WW X e σ H Q:=by
 refine s.run Γ σ H ρ st Q R G ?_;cases r:m Γ st with
 | ok p st1=>rw [r] at h; exact fun H' ρ' x' R'=>k p st1 H' ρ' x' R' (G.ext x') (h H' ρ' x' R')
 | exc e st=>rw [r] at h; exact h
 | stuck=>rw [r] at h; exact h
theorem SimA.use {m:Gam->Q0->Res (List PV)} (s:SimA X E es m) {P:List PV->Q0->Hp->Tk->Prop} {Q:List V->Hp->Prop} (R:Rel H ρ st) (G:EnvR H ρ Γ σ) (h:Acc X.mg E H ρ P (m Γ st))
  (k:∀ ps st1 H1 ρ1 vs,Ext H ρ H1 ρ1->Rel H1 ρ1 st1->EnvR H1 ρ1 Γ σ->RepL H1 ρ1 ps vs->P ps st1 H1 ρ1->Q vs H1):WA X es σ H Q:=by
 refine s.run Γ σ H ρ st Q R G ?_;cases r:m Γ st with
 | ok p st1=>rw [r] at h; exact fun H' ρ' x' R' v rv=>k p st1 H' ρ' v x' R' (G.ext x') rv (h H' ρ' x' R')
 | exc e st=>rw [r] at h; exact h
 | stuck=>rw [r] at h; exact h
theorem OpS.use {o:OP} (s:OpS X E f o) {P:PV->Q0->Hp->Tk->Prop} {Q:VK} {p q:PV} {x y:V} (R:Rel H ρ st) (rp:Rep H ρ p x) (rq:Rep H ρ q y) (h:Acc X.mg E H ρ P (o st p q))
  (k:∀ p st1 H1 ρ1 v,Ext H ρ H1 ρ1->Rel H1 ρ1 st1->Rep H1 ρ1 p v->P p st1 H1 ρ1->Q v H1):WO X f x y H Q:=by
 refine s.run H ρ st p q x y Q R rp rq ?_;cases r:o st p q with
 | ok p st1=>rw [r] at h; exact fun H' ρ' x' R' v rv=>k p st1 H' ρ' v x' R' rv (h H' ρ' x' R')
 | exc e st=>rw [r] at h; exact h
 | stuck=>rw [r] at h; exact h
end Sm
namespace Sm
open PySem PySem.Spec L2 SeqAt
variable {n:Nat} {ps:List PV}
mutual
def peq:PV->PV->Bool
 | .non,.non=>true
 | .bl a,.bl b=>a == b
 | .bl a,.int b=>(if a then 1 else 0) == b
 | .int a,.bl b=>a == (if b then 1 else 0)
 | .int a,.int b=>a == b
 | .str a,.str b=>a == b
 | .tup xs,.tup ys=>peqL xs ys
 | .lst xs,.lst ys=>peqL xs ys
 | .lst xs,.fro ys=>peqL xs ys
 | .fro xs,.lst ys=>peqL xs ys
 | .fro xs,.fro ys=>peqL xs ys
 | _,_=>false
def peqL:List PV->List PV->Bool
 | [],[]=>true
 | x :: xs,y :: ys=>peq x y && peqL xs ys
 | _,_=>false
end
def J0:Nat->PV->Bool
 | _,.ref _=>false
 | _,.dic=>false
 | 0,.tup _=>false
 | 0,.lst _=>false
 | 0,.fro _=>false
 | n + 1,.tup xs=>xs.all (J0 n)
 | n + 1,.lst xs=>xs.all (J0 n)
 | n + 1,.fro xs=>xs.all (J0 n)
 | _,_=>true
theorem Q0y:∀ {xs ys:List PV},xs.length≠ys.length->peqL xs ys=false
 | [],[],h=>absurd rfl h
 | [],_ :: _,_=>by simp [peqL]
 | _ :: _,[],_=>by simp [peqL]
 | x :: xs,y :: ys,h=>by
  rw [peqL,Q0y (xs:=xs) (ys:=ys) fun e=>h (by simp [e]),Bool.and_false]
theorem Q0z:∀ {xs ys:List PV},xs.length=ys.length->peqL xs ys=(List.range xs.length).all fun j=>peq (xs.getD j .non) (ys.getD j .non)
 | [],[],_=>by simp [peqL]
 | [],_ :: _,h=>by simp at h
 | _ :: _,[],h=>by simp at h
 | x :: xs,y :: ys,h=>by
  rw [peqL,Q0z (xs:=xs) (ys:=ys) (by simpa using h),E7,List.range_succ_eq_map,List.all_cons,List.all_map];rfl
variable {X:Cx} {pins:List (aB × Obj)} {σ:St} {H:Hp} {s:aC} {ρ:Tk}
mutual
theorem Q56:∀ {p q:PV} {x:V} {n:Nat},J0 n p=true->J0 n q=true->Rep H ρ p x->Rep H ρ q x->peq p q=true
 | .non,q,x,n,_,gq,h1,h2=>by
  cases h1;cases q <;> first | rfl | (cases n <;> cases gq; done) | (cases h2; done) | (obtain ⟨_,_,e,_⟩:=h2; cases e) | (obtain ⟨_,_,e⟩:=h2; cases e)
 | .bl b,q,x,n,_,gq,h1,h2=>by
  cases h1;cases q <;> first | (cases n <;> cases gq; done) | (cases h2; simp [peq]; done) | (obtain ⟨_,_,e,_⟩:=h2; done) | (obtain ⟨_,_,e,_⟩:=h2; cases e; done) | (obtain ⟨_,_,e⟩:=h2; cases e)
 | .int b,q,x,n,_,gq,h1,h2=>by
  cases h1;cases q <;> first | (cases n <;> cases gq; done) | (cases h2; simp [peq]; done) | (obtain ⟨_,_,e,_⟩:=h2; done) | (obtain ⟨_,_,e,_⟩:=h2; cases e; done) | (obtain ⟨_,_,e⟩:=h2; cases e)
 | .str b,q,x,n,_,gq,h1,h2=>by
  cases h1;cases q <;> first | (cases n <;> cases gq; done) | (cases h2; simp [peq]; done) | (obtain ⟨_,_,e,_⟩:=h2; done) | (obtain ⟨_,_,e,_⟩:=h2; cases e; done) | (obtain ⟨_,_,e⟩:=h2; cases e)
 | .tup ps,q,x,0,gp,_,_,_=>by cases gp
 | .tup ps,q,x,n + 1,gp,gq,⟨a,vs,e,ha,_,r⟩,h2=>by
  subst e;cases q with
  | tup qs=>
   obtain ⟨b,us,e,hb,_,r2⟩:=h2;cases e;rw [ha] at hb; cases hb;rw [peq];exact repL_same gp gq r r2
  | lst qs=>obtain ⟨b,us,e,hb,_⟩:=h2; cases e; rw [ha] at hb; cases hb
  | fro qs=>obtain ⟨b,us,e,hb,_⟩:=h2; cases e; rcases hb with hb | ⟨o,hb⟩ <;> (rw [ha] at hb; cases hb)
  | ref i=>cases gq
  | dic=>cases gq
  | _=>cases h2
 | .lst ps,q,x,0,gp,_,_,_=>by cases gp
 | .lst ps,q,x,n + 1,gp,gq,⟨a,vs,e,ha,_,r⟩,h2=>by
  subst e;cases q with
  | lst qs=>
   obtain ⟨b,us,e,hb,_,r2⟩:=h2;cases e;rw [ha] at hb; cases hb;rw [peq];exact repL_same gp gq r r2
  | tup qs=>obtain ⟨b,us,e,hb,_⟩:=h2; cases e; rw [ha] at hb; cases hb
  | fro qs=>
   obtain ⟨b,us,e,hb,_,r2⟩:=h2;cases e;rcases hb with hb | ⟨o,hb⟩
   ·rw [ha] at hb; cases hb;rw [peq];exact repL_same gp gq r r2
   ·rw [ha] at hb; cases hb
  | ref i=>cases gq
  | dic=>cases gq
  | _=>cases h2
 | .fro ps,q,x,0,gp,_,_,_=>by cases gp
 | .fro ps,q,x,n + 1,gp,gq,⟨a,vs,e,ha,_,r⟩,h2=>by
  subst e;cases q with
  | lst qs=>
   obtain ⟨b,us,e,hb,_,r2⟩:=h2;cases e;rcases ha with ha | ⟨o,ha⟩
   ·rw [ha] at hb; cases hb;rw [peq];exact repL_same gp gq r r2
   ·rw [ha] at hb; cases hb
  | tup qs=>obtain ⟨b,us,e,hb,_⟩:=h2; cases e; rcases ha with ha | ⟨o,ha⟩ <;> (rw [ha] at hb; cases hb)
  | fro qs=>
   obtain ⟨b,us,e,hb,_,r2⟩:=h2;cases e;have:vs=us:=by
    rcases ha with ha | ⟨o,ha⟩ <;> rcases hb with hb | ⟨o',hb⟩ <;> (rw [ha] at hb; cases hb) <;> rfl
   subst this;rw [peq];exact repL_same gp gq r r2
  | ref i=>cases gq
  | dic=>cases gq
  | _=>cases h2
 | .ref i,_,_,n,gp,_,_,_=>by cases n <;> cases gp
 | .dic,_,_,n,gp,_,_,_=>by cases n <;> cases gp
theorem repL_same:∀ {ps qs:List PV} {vs:List V} {n:Nat},ps.all (J0 n)=true->qs.all (J0 n)=true->RepL H ρ ps vs->RepL H ρ qs vs->peqL ps qs=true
 | [],qs,vs,n,_,_,h1,h2=>by
  cases h1;cases qs with
  | nil=>rfl
  | cons q qs=>obtain ⟨_,_,e,_⟩:=h2; cases e
 | p :: ps,qs,vs,n,g1,g2,⟨v,r,e,h1,h1'⟩,h2=>by
  subst e;cases qs with
  | nil=>cases h2
  | cons q qs=>
   obtain ⟨_,_,e,h2,h2'⟩:=h2;cases e;rw [List.all_cons,L8] at g1 g2;rw [peqL,Q56 g1.1 g2.1 h1 h2,repL_same g1.2 g2.2 h1' h2']; rfl
end
inductive Kd (H:Hp) (ρ:Tk) (s:aC):PV->aA->Prop where
 | non:Kd H ρ s .non .none
 | bl (b):Kd H ρ s (.bl b) (.bool b)
 | int (i t):Kd H ρ s (.int i) (.int i t)
 | str (x t):Kd H ρ s (.str x) (.str x t)
 | tup (ps a) (vs:List V) (its:List aA):H a=some (.tup vs)->RepL H ρ ps vs->Vals vs its->s.heap.IsTuple a its.toArray->Kd H ρ s (.tup ps) (.ref a)
 | lst (p ps a) (vs:List V) (its:List aA):(p=.lst ps\/p=.fro ps)->RepL H ρ ps vs->Vals vs its->s.heap.IsList a its.toArray->Kd H ρ s p (.ref a)
theorem Q8x {p:PV} {x:V} {u:aA} (I:Inv X pins σ H s) (g:J0 n p=true) (r:Rep H ρ p x) (ru:RelV x u):Kd H ρ s p u:=by
 cases p with
 | non=>cases r; cases ru; exact .non
 | bl b=>cases r; cases ru; exact .bl b
 | int i=>cases r; obtain ⟨t,rfl⟩:=ru; exact .int i t
 | str i=>cases r; obtain ⟨t,rfl⟩:=ru; exact .str i t
 | tup ps=>
  obtain ⟨a,vs,rfl,ha,_,rr⟩:=r;cases ru;obtain ⟨its,v1,p1,_⟩:=I.tuple (SqT.of (K:=X.K) ha);exact .tup ps a vs its ha rr v1 p1
 | lst ps=>
  obtain ⟨a,vs,rfl,ha,_,rr⟩:=r;cases ru;obtain ⟨its,v1,p1,_⟩:=I.list (SqL.of (K:=X.K) ha);exact .lst _ ps a vs its (.inl rfl) rr v1 p1.isList
 | fro ps=>
  obtain ⟨a,vs,rfl,ha,_,rr⟩:=r;cases ru;obtain ⟨its,v1,p1,_⟩:=I.list (show SqL X.K H a vs from .inl ha);exact .lst _ ps a vs its (.inr rfl) rr v1 p1.isList
 | ref i=>cases n <;> cases g
 | dic=>cases n <;> cases g
theorem Q03 {vs:List V} {its:List aA} (r:RepL H ρ ps vs) (v:Vals vs its) {j:Nat} (h:j < its.length):∃ x,Rep H ρ (ps.getD j .non) x/\RelV x its[j]:=by
 have l1:=r.length;have l2:=v.length;have hj:j < ps.length:=by omega
 obtain ⟨x,e1,e2⟩:=r.get (O2 hj);obtain ⟨u,e3,e4⟩:=v.get e1;rw [O2 h] at e3; cases e3;refine ⟨x,?_,e4⟩;rw [List.getD,O2 hj];exact e2
theorem qe (g:ps.all (J0 n)=true) (j:Nat) (hj:j < ps.length):J0 n (ps.getD j .non)=true:=by
 rw [List.getD,O2 hj];exact (M5.mp g) _ (F5 hj)
theorem Q72 {qs:List PV}:((List.range (min ps.length qs.length)).all (fun j=>peq (ps.getD j .non) (qs.getD j .non)) && ps.length == qs.length)=peqL ps qs:=by
 by_cases e:ps.length=qs.length
 ·rw [Q0z e,<- e,Nat.min_self,beq_self_eq_true,Bool.and_true]
 ·rw [Q0y e,beq_eq_false_iff_ne.mpr e,Bool.and_false]
theorem Q9a:∀ (n:Nat) {A:aQ} {p q:PV} {x y:V} {u v:aA},Inv X pins σ H s->J0 n p=true->J0 n q=true->A.units + n < aO->Rep H ρ p x->RelV x u->Rep H ρ q y->RelV y v ->
  EqAt A s u v (peq p q)/\RcAt A s u v (peq p q)/\RcNeAt A s u v (!peq p q):=by
 intro n
 induction n with
 | zero=>
  intro A p q x y u v I gp gq hu rp ru rq rv;have k1:=Q8x I gp rp ru;have k2:=Q8x I gq rq rv;have hu:A.units < aO:=by omega
  cases k1 with
  | tup=>cases gp
  | lst p ps a vs its h=>rcases h with rfl | rfl <;> cases gp
  | non=>cases k2 with
   | tup=>cases gq
   | lst p ps a vs its h=>rcases h with rfl | rfl <;> cases gq
   | non=>exact ⟨EqAt.same _,RcAt.none_none,RcNeAt.none_none⟩
   | bl b=>exact ⟨EqAt.none_bool _,RcAt.none_bool _,RcNeAt.none_bool _⟩
   | int i t=>exact ⟨EqAt.none_int _ _,RcAt.none_int _ _,RcNeAt.none_int _ _⟩
   | str i t=>exact ⟨EqAt.none_str _ _,RcAt.none_str _ _,RcNeAt.none_str _ _⟩
  | bl a=>cases k2 with
   | tup=>cases gq
   | lst p ps a vs its h=>rcases h with rfl | rfl <;> cases gq
   | non=>exact ⟨EqAt.bool_none _,RcAt.bool_none _,RcNeAt.bool_none _⟩
   | bl b=>exact ⟨EqAt.bool_bool _ _,RcAt.bool_bool _ _,RcNeAt.bool_bool _ _⟩
   | int i t=>exact ⟨EqAt.bool_int _ _ _,RcAt.bool_int _ _ _,RcNeAt.bool_int _ _ _⟩
   | str i t=>exact ⟨EqAt.bool_str _ _ _,RcAt.bool_str _ _ _,RcNeAt.bool_str _ _ _⟩
  | int a at'=>cases k2 with
   | tup=>cases gq
   | lst p ps a vs its h=>rcases h with rfl | rfl <;> cases gq
   | non=>exact ⟨EqAt.int_none _ _,RcAt.int_none _ _,RcNeAt.int_none _ _⟩
   | bl b=>exact ⟨EqAt.int_bool _ _ _,RcAt.int_bool _ _ _,RcNeAt.int_bool _ _ _⟩
   | int i t=>exact ⟨EqAt.int_int _ _ _ _,RcAt.int_int _ _ _ _,RcNeAt.int_int _ _ _ _⟩
   | str i t=>exact ⟨EqAt.int_str _ _ _ _,RcAt.int_str _ _ _ _,RcNeAt.int_str _ _ _ _⟩
  | str a at'=>cases k2 with
   | tup=>cases gq
   | lst p ps a vs its h=>rcases h with rfl | rfl <;> cases gq
   | non=>exact ⟨EqAt.str_none _ _,RcAt.str_none _ _,RcNeAt.str_none _ _⟩
   | bl b=>exact ⟨EqAt.str_bool _ _ _,RcAt.str_bool _ _ _,RcNeAt.str_bool _ _ _⟩
   | int i t=>exact ⟨EqAt.str_int _ _ _ _,RcAt.str_int _ _ _ _,RcNeAt.str_int _ _ _ _⟩
   | str i t=>exact ⟨EqAt.str_str _ _ _ _,RcAt.str_str _ _ _ _,RcNeAt.str_str _ _ _ _⟩
 | succ n ih=>
  intro A p q x y u v I gp gq hu rp ru rq rv;have k1:=Q8x I gp rp ru;have k2:=Q8x I gq rq rv;have hu0:A.units < aO:=by omega
  have hin:A.in1.units + n < aO:=by show A.units + 1 + n < aO; omega
  cases k1 with
  | non=>cases k2 with
   | non=>exact ⟨EqAt.same _,RcAt.none_none,RcNeAt.none_none⟩
   | bl b=>exact ⟨EqAt.none_bool _,RcAt.none_bool _,RcNeAt.none_bool _⟩
   | int i t=>exact ⟨EqAt.none_int _ _,RcAt.none_int _ _,RcNeAt.none_int _ _⟩
   | str i t=>exact ⟨EqAt.none_str _ _,RcAt.none_str _ _,RcNeAt.none_str _ _⟩
   | tup ps a vs its ha r v1 p1=>exact ⟨EqAt.none_tuple p1 hu0,RcAt.none_tuple p1 hu0,RcNeAt.none_tuple p1 hu0⟩
   | lst p ps a vs its h r v1 p1=>rcases h with rfl | rfl <;> exact ⟨EqAt.none_list p1 hu0,RcAt.none_list p1 hu0,RcNeAt.none_list p1 hu0⟩
  | bl a=>cases k2 with
   | non=>exact ⟨EqAt.bool_none _,RcAt.bool_none _,RcNeAt.bool_none _⟩
   | bl b=>exact ⟨EqAt.bool_bool _ _,RcAt.bool_bool _ _,RcNeAt.bool_bool _ _⟩
   | int i t=>exact ⟨EqAt.bool_int _ _ _,RcAt.bool_int _ _ _,RcNeAt.bool_int _ _ _⟩
   | str i t=>exact ⟨EqAt.bool_str _ _ _,RcAt.bool_str _ _ _,RcNeAt.bool_str _ _ _⟩
   | tup ps a vs its ha r v1 p1=>exact ⟨EqAt.bool_tuple _ p1 hu0,RcAt.bool_tuple _ p1 hu0,RcNeAt.bool_tuple _ p1 hu0⟩
   | lst p ps a vs its h r v1 p1=>rcases h with rfl | rfl <;> exact ⟨EqAt.bool_list _ p1 hu0,RcAt.bool_list _ p1 hu0,RcNeAt.bool_list _ p1 hu0⟩
  | int a at'=>cases k2 with
   | non=>exact ⟨EqAt.int_none _ _,RcAt.int_none _ _,RcNeAt.int_none _ _⟩
   | bl b=>exact ⟨EqAt.int_bool _ _ _,RcAt.int_bool _ _ _,RcNeAt.int_bool _ _ _⟩
   | int i t=>exact ⟨EqAt.int_int _ _ _ _,RcAt.int_int _ _ _ _,RcNeAt.int_int _ _ _ _⟩
   | str i t=>exact ⟨EqAt.int_str _ _ _ _,RcAt.int_str _ _ _ _,RcNeAt.int_str _ _ _ _⟩
   | tup ps a vs its ha r v1 p1=>exact ⟨EqAt.int_tuple _ _ p1 hu0,RcAt.int_tuple _ _ p1 hu0,RcNeAt.int_tuple _ _ p1 hu0⟩
   | lst p ps a vs its h r v1 p1=>rcases h with rfl | rfl <;> exact ⟨EqAt.int_list _ _ p1 hu0,RcAt.int_list _ _ p1 hu0,RcNeAt.int_list _ _ p1 hu0⟩
  | str a at'=>cases k2 with
   | non=>exact ⟨EqAt.str_none _ _,RcAt.str_none _ _,RcNeAt.str_none _ _⟩
   | bl b=>exact ⟨EqAt.str_bool _ _ _,RcAt.str_bool _ _ _,RcNeAt.str_bool _ _ _⟩
   | int i t=>exact ⟨EqAt.str_int _ _ _ _,RcAt.str_int _ _ _ _,RcNeAt.str_int _ _ _ _⟩
   | str i t=>exact ⟨EqAt.str_str _ _ _ _,RcAt.str_str _ _ _ _,RcNeAt.str_str _ _ _ _⟩
   | tup ps a vs its ha r v1 p1=>exact ⟨EqAt.str_tuple _ _ p1 hu0,RcAt.str_tuple _ _ p1 hu0,RcNeAt.str_tuple _ _ p1 hu0⟩
   | lst p ps a vs its h r v1 p1=>rcases h with rfl | rfl <;> exact ⟨EqAt.str_list _ _ p1 hu0,RcAt.str_list _ _ p1 hu0,RcNeAt.str_list _ _ p1 hu0⟩
  | tup ps a vs its ha r v1 p1=>cases k2 with
   | non=>exact ⟨EqAt.tuple_none p1 hu0,RcAt.tuple_none p1 hu0,RcNeAt.tuple_none p1 hu0⟩
   | bl b=>exact ⟨EqAt.tuple_bool _ p1 hu0,RcAt.tuple_bool _ p1 hu0,RcNeAt.tuple_bool _ p1 hu0⟩
   | int i t=>exact ⟨EqAt.tuple_int _ _ p1 hu0,RcAt.tuple_int _ _ p1 hu0,RcNeAt.tuple_int _ _ p1 hu0⟩
   | str i t=>exact ⟨EqAt.tuple_str _ _ p1 hu0,RcAt.tuple_str _ _ p1 hu0,RcNeAt.tuple_str _ _ p1 hu0⟩
   | tup qs b us its2 hb r2 v2 p2=>
    have l1:its.toArray.size=ps.length:=by rw [D3,<- v1.length,r.length]
    have l2:its2.toArray.size=qs.length:=by rw [D3,<- v2.length,r2.length]
    have he:∀ j (h1:j < its.toArray.size) (h2:j < its2.toArray.size),EqAt A.in1 s its.toArray[j] its2.toArray[j] (peq (ps.getD j .non) (qs.getD j .non)):=fun j h1 h2=>by
     obtain ⟨x1,a1,b1⟩:=Q03 r v1 (j:=j) (by simpa using h1);obtain ⟨x2,a2,b2⟩:=Q03 r2 v2 (j:=j) (by simpa using h2);exact (ih I (qe gp j (by omega)) (qe gq j (by omega)) hin a1 b1 a2 b2).1
    have rc:=RcAt.tuples p1 p2 hu0 he;have rn:=RcNeAt.tuples p1 p2 hu0 he;rw [l1,l2,Q72] at rc rn;refine ⟨?_,rc,rn⟩
    by_cases e:a=b
    ·subst e;have:peqL ps qs=true:=by
      rw [ha] at hb; cases hb;exact repL_same gp gq r r2
     show EqAt A s _ _ (peqL ps qs);rw [this];exact EqAt.same _
    ·exact EqAt.of_refs e rc
   | lst q qs b us its2 h r2 v2 p2=>rcases h with rfl | rfl <;> exact ⟨EqAt.tuple_list p1 p2 hu0,RcAt.tuple_list p1 p2 hu0,RcNeAt.tuple_list p1 p2 hu0⟩
  | lst p ps a vs its h r v1 p1=>cases k2 with
   | non=>rcases h with rfl | rfl <;> exact ⟨EqAt.list_none p1 hu0,RcAt.list_none p1 hu0,RcNeAt.list_none p1 hu0⟩
   | bl b=>rcases h with rfl | rfl <;> exact ⟨EqAt.list_bool _ p1 hu0,RcAt.list_bool _ p1 hu0,RcNeAt.list_bool _ p1 hu0⟩
   | int i t=>rcases h with rfl | rfl <;> exact ⟨EqAt.list_int _ _ p1 hu0,RcAt.list_int _ _ p1 hu0,RcNeAt.list_int _ _ p1 hu0⟩
   | str i t=>rcases h with rfl | rfl <;> exact ⟨EqAt.list_str _ _ p1 hu0,RcAt.list_str _ _ p1 hu0,RcNeAt.list_str _ _ p1 hu0⟩
   | tup qs b us its2 hb r2 v2 p2=>rcases h with rfl | rfl <;> exact ⟨EqAt.list_tuple p1 p2 hu0,RcAt.list_tuple p1 p2 hu0,RcNeAt.list_tuple p1 p2 hu0⟩
   | lst q qs b us its2 h2 r2 v2 p2=>
    have l1:its.toArray.size=ps.length:=by rw [D3,<- v1.length,r.length]
    have l2:its2.toArray.size=qs.length:=by rw [D3,<- v2.length,r2.length]
    have gp':ps.all (J0 n)=true:=by rcases h with rfl | rfl <;> exact gp
    have gq':qs.all (J0 n)=true:=by rcases h2 with rfl | rfl <;> exact gq
    have ep:peq p q=peqL ps qs:=by rcases h with rfl | rfl <;> rcases h2 with rfl | rfl <;> rfl
    have he:∀ j (h1:j < its.toArray.size) (h2:j < its2.toArray.size),EqAt A.in1 s its.toArray[j] its2.toArray[j] (peq (ps.getD j .non) (qs.getD j .non)):=fun j h1 h2=>by
     obtain ⟨x1,a1,b1⟩:=Q03 r v1 (j:=j) (by simpa using h1);obtain ⟨x2,a2,b2⟩:=Q03 r2 v2 (j:=j) (by simpa using h2);exact (ih I (qe gp' j (by omega)) (qe gq' j (by omega)) hin a1 b1 a2 b2).1
    rw [ep];have rcn:RcAt A s (.ref a) (.ref b) (peqL ps qs)/\RcNeAt A s (.ref a) (.ref b) (!peqL ps qs):=by
     by_cases e:ps.length=qs.length
     ·have rc:=RcAt.lists p1 p2 (by rw [l1,l2,e]) hu0 he;have rn:=RcNeAt.lists p1 p2 (by rw [l1,l2,e]) hu0 he;rw [l1,<- Q0z e] at rc rn;exact ⟨rc,rn⟩
     ·have e':(its.toArray.size != its2.toArray.size)=true:=by rw [l1,l2]; simpa using e
      rw [Q0y e];exact ⟨RcAt.lists_lengths p1 p2 e' hu0,RcNeAt.lists_lengths p1 p2 e' hu0⟩
    refine ⟨?_,rcn.1,rcn.2⟩
    by_cases e:a=b
    ·subst e;have eq1:peq p q=true:=by
      have rp':=rp;have rq':=rq;have xa:x=.ref a:=by
       rcases h with rfl | rfl <;> (obtain ⟨b',_,rfl,_⟩:=rp; cases ru; rfl)
      have ya:y=.ref a:=by
       rcases h2 with rfl | rfl <;> (obtain ⟨b',_,rfl,_⟩:=rq; cases rv; rfl)
      subst xa; subst ya;exact Q56 gp gq rp rq
     rw [<- ep,eq1];exact EqAt.same _
    ·exact EqAt.of_refs e rcn.1
end Sm
namespace Sm
open PySem PySem.Spec L2
variable {n j:Nat} {K:PySem.W.Frag} {vs:List V} {mg:Str->Option aA} {E:XK} {Q:VK} {ps:List PV} {x:Str} {o:OP} {Γ:Gam} {σ:St} {P:PV->Q0->Hp->Tk->Prop} {op:CmpOp} {e:aH}
def lim:Nat:=1000000
theorem yd:lim<=sizeLine:=by decide
theorem W0 (h:n<=lim):n<=sizeLine:=F6 h yd
def Wc (st:Q0):PV->Option (List PV)
 | .lst xs=>some xs
 | .ref i=>match st[i]? with
  | some (.lst xs)=>some xs
  | _=>none
 | _=>none
def Ym (st:Q0):PV->Option (List PV)
 | .fro xs=>some xs
 | p=>Wc st p
def Ye (st:Q0):PV->Option (List PV)
 | .tup xs=>some xs
 | p=>Ym st p
def der (st:Q0):PV->PV
 | .ref i=>match st[i]? with
  | some (.lst xs)=>.lst xs
  | _=>.ref i
 | p=>p
variable {H:Hp} {ρ:Tk} {st:Q0} {p:PV} {v:V} {xs:List PV}
theorem Q18 (R:Rel H ρ st) (r:Rep H ρ p v) (e:Wc st p=some xs):∃ a vs,v=.ref a/\H a=some (.lst vs)/\RepL H ρ xs vs:=by
 cases p with
 | lst ys=>
  obtain ⟨a,vs,e1,e2,_,e3⟩:=r;cases e;exact ⟨a,vs,e1,e2,e3⟩
 | ref i=>
  obtain ⟨a,e1,e2⟩:=r;simp only [Wc] at e
  split at e
  ·rename_i ys hs;cases e;obtain ⟨b,vs,f1,f2,f3⟩:=R.lst hs;rw [e1] at f1; cases f1;exact ⟨a,vs,e2,f2,f3⟩
  ·cases e
 | _=>cases e
theorem Jb (R:Rel H ρ st) (r:Rep H ρ p v) (e:Ym st p=some xs):∃ a vs,v=.ref a/\Rd H a (.lst vs)/\RepL H ρ xs vs:=by
 cases p with
 | fro ys=>
  obtain ⟨a,vs,e1,e2,_,e3⟩:=r;cases e;exact ⟨a,vs,e1,e2,e3⟩
 | _=>
  obtain ⟨a,vs,e1,e2,e3⟩:=Q18 R r e;exact ⟨a,vs,e1,.inl e2,e3⟩
theorem K0 (R:Rel H ρ st) (r:Rep H ρ p v) (e:Ye st p=some xs):∃ (t:Bool) (a:aB) (vs:List V),v=.ref a/\SqK K t H a vs/\RepL H ρ xs vs:=by
 cases p with
 | tup ys=>
  obtain ⟨a,vs,e1,e2,_,e3⟩:=r;cases e;exact ⟨true,a,vs,e1,show SqT K H a vs from SqT.of e2,e3⟩
 | _=>
  obtain ⟨a,vs,e1,e2,e3⟩:=Jb R r e;exact ⟨false,a,vs,e1,show SqL K H a vs from .inl e2,e3⟩
theorem Q6u {t:Bool} {a:aB} (h:SqK K t H a vs):SqL K H a vs\/SqT K H a vs:=by
 cases t with
 | true=>exact .inr h
 | false=>exact .inl h
mutual
theorem Q8i:∀ {n:Nat} {q:PV} {u:V},J0 n q=true->Rep H ρ q u->Rep H Tk.nil q u
 | _,.non,_,_,r=>r
 | _,.bl _,_,_,r=>r
 | _,.int _,_,_,r=>r
 | _,.str _,_,_,r=>r
 | 0,.tup _,_,g,_=>by cases g
 | 0,.lst _,_,g,_=>by cases g
 | 0,.fro _,_,g,_=>by cases g
 | n + 1,.tup _,_,g,⟨a,vs,e,h,_,r⟩=>⟨a,vs,e,h,Tk.not_nil _,repL_nil g r⟩
 | n + 1,.lst _,_,g,⟨a,vs,e,h,_,r⟩=>⟨a,vs,e,h,Tk.not_nil _,repL_nil g r⟩
 | n + 1,.fro _,_,g,⟨a,vs,e,h,_,r⟩=>⟨a,vs,e,h,Tk.not_nil _,repL_nil g r⟩
 | 0,.ref _,_,g,_=>by cases g
 | _ + 1,.ref _,_,g,_=>by cases g
 | 0,.dic,_,g,_=>by cases g
 | _ + 1,.dic,_,g,_=>by cases g
theorem repL_nil:∀ {n:Nat} {qs:List PV} {us:List V},qs.all (J0 n)=true->RepL H ρ qs us->RepL H Tk.nil qs us
 | _,[],_,_,r=>r
 | n,q :: qs,_,g,⟨v,r,e,h1,h2⟩=>by
  rw [List.all_cons,L8] at g;exact ⟨v,r,e,Q8i g.1 h1,repL_nil g.2 h2⟩
end
theorem qf (R:Rel H ρ st) (g:J0 n (der st p)=true) (r:Rep H ρ p v):Rep H Tk.nil (der st p) v:=by
 cases p with
 | ref i=>
  obtain ⟨a,e1,e2⟩:=r;simp only [der] at g ⊢
  split at g
  ·rename_i ys hs;obtain ⟨b,vs,f1,f2,f3⟩:=R.lst hs;rw [e1] at f1; cases f1;cases n with
   | zero=>cases g
   | succ n=>exact ⟨a,vs,e2,f2,Tk.not_nil _,repL_nil g f3⟩
  ·cases n <;> cases g
 | _=>exact Q8i g r
theorem zc (R:Rel H ρ st) (h:Acc mg E H ρ (QV Q) (.ok (.tup ps) st)) (r:RepL H ρ ps vs):∀ p,H p=none->Q (.ref p) (upd H p (.tup vs)):=
 fun p hp=>h _ ρ (Ext.add hp) (R.add hp) _ ⟨p,vs,rfl,Qu,R.fresh hp,r.ext (Ext.add hp)⟩
theorem qb (R:Rel H ρ st) (h:Acc mg E H ρ (QV Q) (.ok (.lst ps) st)) (r:RepL H ρ ps vs):∀ p,H p=none->Q (.ref p) (upd H p (.lst vs)):=
 fun p hp=>h _ ρ (Ext.add hp) (R.add hp) _ ⟨p,vs,rfl,Qu,R.fresh hp,r.ext (Ext.add hp)⟩
theorem now (R:Rel H ρ st) (h:Acc mg E H ρ (QV Q) (.ok p st)) (r:Rep H ρ p v):Q v H:=h H ρ (Ext.refl _ _) R v r
section
variable {X:Cx} {E:XK} {pos:Pos}
def Q3 (i:Nat):ME:=fun Γ st=>match Γ[i]? with
 | some (some p)=>.ok p st
 | _=>.stuck
def mC (p:PV):ME:=fun _ st=>.ok p st
theorem Zg (i:Nat) (hN:X.N[i]?=some x:=by rfl) (hv:Vis X.env.scope x:=by first | exact Or.inl rfl | exact Or.inr (Or.inl rfl) | exact Or.inr (Or.inr rfl)) (hd:(x == ("__debug__" : Str))=false:=by decide)
  (hcd:(x == ("__classdict__" : Str))=false:=by decide):SimE X E (.Name x pos) (Q3 i):=⟨fun Γ σ H ρ st Q R G h=>WE.of (Qcy hN hv hd hcd) (by
 unfold Q3 at h
 split at h
 ·rename_i p e;obtain ⟨v,e1,r⟩:=G.2 i p e;exact ⟨v,e1,now R h r⟩
 ·exact h.elim)⟩
theorem Q0r {i:Int} :SimE X E (.Constant (.int i) j pos) (mC (.int i)):=⟨fun Γ σ H ρ st Q R G h=>WE.of Qmf (now R h rfl)⟩
theorem Qqs {b:Bool} :SimE X E (.Constant (.bool b) j pos) (mC (.bl b)):=⟨fun Γ σ H ρ st Q R G h=>WE.of Qrd (now R h rfl)⟩
theorem Qke :SimE X E (.Constant .none j pos) (mC .non):=⟨fun Γ σ H ρ st Q R G h=>WE.of Qme (now R h rfl)⟩
theorem Qkb :SimE X E (.Constant (.str x) j pos) (mC (.str x)):=⟨fun Γ σ H ρ st Q R G h=>WE.of Qmb (now R h rfl)⟩
theorem Qg9 {i:Int} {t:Tok} (hg:Gl X x) (hm:X.mg x=some (.int i t)) (hd:(x == ("__debug__" : Str))=false:=by decide):SimE X E (.Name x pos) (mC (.int i)):=
 ⟨fun Γ σ H ρ st Q R G h=>WE.of (Q8q hg hm (v:=.int i) ⟨t,rfl⟩ hd) (now R h rfl)⟩
variable {a b c:aH} {ma mb mc:ME}
def mOp (o:OP) (ma mb:ME):ME:=fun Γ st=>(ma Γ st).bind fun x st1=>(mb Γ st1).bind fun y st2=>o st2 x y
theorem Q4f {f:aA->aA->Sem aA} {Q:VK} (ho:OpS X E f o) (ha:SimE X E a ma) (hb:SimE X E b mb) (R:Rel H ρ st) (G:EnvR H ρ Γ σ) (h:Acc X.mg E H ρ P (mOp o ma mb Γ st))
  (k:∀ p st1 H1 ρ1 v,Ext H ρ H1 ρ1->Rel H1 ρ1 st1->Rep H1 ρ1 p v->P p st1 H1 ρ1->Q v H1):tOp (WO X f) (WE X a) (WE X b) σ H Q:=by
 refine ha.use R G h.bind fun p st1 H1 ρ1 v x1 R1 G1 r1 h1=>?_
 refine hb.use R1 G1 h1.bind fun q st2 H2 ρ2 u x2 R2 G2 r2 h2=>?_
 exact ho.use R2 (r1.ext x2) r2 h2 fun w st3 H3 ρ3 z x3 R3 r3 p3=>k w st3 H3 ρ3 z (x1.trans (x2.trans x3)) R3 r3 p3
theorem Qqq {op:Operator} (ho:OpS X E (aV op) o) (ha:SimE X E a ma) (hb:SimE X E b mb):SimE X E (.BinOp a op b pos) (mOp o ma mb):=
 ⟨fun Γ σ H ρ st Q R G h=>WE.of (Qra Qd9 Jj Jj) (Q4f ho ha hb R G h fun _ _ _ _ v _ _ r q=>q v r)⟩
theorem Qki (ho:OpS X E (aS op) o) (ha:SimE X E a ma) (hb:SimE X E b mb) (hm:bG op b=false:=by first | exact Q79 _ | rfl):SimE X E (.Compare a [op] [b] pos) (mOp o ma mb):=
 ⟨fun Γ σ H ρ st Q R G h=>WE.of (Qh6 Qd9 Jj Jj hm) (Q4f ho ha hb R G h fun _ _ _ _ v _ _ r q=>q v r)⟩
def asB (p:PV) (st:Q0):Res Bool:=match p with
 | .bl k=>.ok k st
 | _=>.stuck
def toB (m:ME):Gam->Q0->Res Bool:=fun Γ st=>(m Γ st).bind asB
theorem Qjb {P:Bool->Q0->Hp->Tk->Prop} (R:Rel H ρ st) (r:Rep H ρ p v) (h:Acc mg E H ρ P (asB p st)):∃ k,v=.bl k/\P k st H ρ:=by
 cases p with
 | bl k=>exact ⟨k,r,h H ρ (Ext.refl _ _) R⟩
 | _=>exact h.elim
theorem Qbr (ho:OpS X E (aS op) o) (ha:SimE X E a ma) (hb:SimE X E b mb) (hm:bG op b=false:=by first | exact Q79 _ | rfl):SimT X E (.Compare a [op] [b] pos) (toB (mOp o ma mb)):=
 ⟨fun Γ σ H ρ st Q R G h=>WT.of (Qgn Qd9 Jj Jj hm) (Q4f ho ha hb R G h.bind fun _ st1 _ _ v _ R1 r q=>by
  obtain ⟨k,e,z⟩:=Qjb R1 r q;exact ⟨k,e,z⟩)⟩
theorem Qk1 {m:ME} (h:SimE X E e m) (he:∀ whole,isTrue e X.env whole=(do let v <- whole; standAt e.pos; av [v] (truthy v)):=by intro _; rfl):SimT X E e (toB m):=
 ⟨fun Γ σ H ρ st Q R G hq=>WT.of (Qkw Jj he) (h.use R G hq.bind fun p st1 H1 ρ1 v x1 R1 G1 r1 h1=>by
  obtain ⟨k,e,z⟩:=Qjb R1 r1 h1;exact ⟨k,e,z⟩)⟩
def y9 (o o':OP) (ma mb mc:ME):ME:=fun Γ st=>(ma Γ st).bind fun x st1=>(mb Γ st1).bind fun y st2=>(o st2 x y).bind fun k st3=>match k with
 | .bl true=>(mc Γ st3).bind fun z st4=>o' st4 y z
 | .bl false=>.ok (.bl false) st3
 | _=>.stuck
theorem Qax {op':CmpOp} {o':OP} {Q:VK} (ho:OpS X E (aS op) o) (ho':OpS X E (aS op') o') (ha:SimE X E a ma) (hb:SimE X E b mb) (hc:SimE X E c mc) (R:Rel H ρ st) (G:EnvR H ρ Γ σ) (h:Acc X.mg E H ρ P (y9 o o' ma mb mc Γ st))
  (k:∀ p st1 H1 ρ1 v,Ext H ρ H1 ρ1->Rel H1 ρ1 st1->Rep H1 ρ1 p v->P p st1 H1 ρ1->Q v H1):Qbn (WO X (aS op)) (WO X (aS op')) (WE X a) (WE X b) (WE X c) σ H Q:=by
 refine ha.use R G h.bind fun p st1 H1 ρ1 v x1 R1 G1 r1 h1=>?_
 refine hb.use R1 G1 h1.bind fun q st2 H2 ρ2 u x2 R2 G2 r2 h2=>?_
 refine ho.use R2 (r1.ext x2) r2 h2.bind fun w st3 H3 ρ3 z x3 R3 r3 h3=>?_
 cases w with
 | bl b=>
  refine ⟨b,r3,?_⟩;cases b with
  | true=>
   rw [bN rfl];refine hc.use R3 (G2.ext x3) h3.bind fun y st4 H4 ρ4 yv x4 R4 G4 r4 h4=>?_
   exact ho'.use R4 (r2.ext (x3.trans x4)) r4 h4 fun w st5 H5 ρ5 z x5 R5 r5 p5=>k w st5 H5 ρ5 z (x1.trans (x2.trans (x3.trans (x4.trans x5)))) R5 r5 p5
  | false=>
   rw [bO F0];exact k (.bl false) _ H3 ρ3 _ (x1.trans (x2.trans x3)) R3 rfl (h3 H3 ρ3 (Ext.refl _ _) R3)
 | _=>exact h3.elim
theorem Qc8 {op':CmpOp} {o':OP} (ho:OpS X E (aS op) o) (ho':OpS X E (aS op') o') (ha:SimE X E a ma) (hb:SimE X E b mb) (hc:SimE X E c mc) (hm:lastMarks [op,op'] [b,c]=false:=by with_unfolding_all rfl):SimE X E (.Compare a [op,op'] [b,c] pos) (y9 o o' ma mb mc):=
 ⟨fun Γ σ H ρ st Q R G h=>WE.of (Qd4 Qd9 Qd9 Jj Jj Jj hm) (Qax ho ho' ha hb hc R G h fun _ _ _ _ v _ _ r q=>q v r)⟩
variable {rest:List aH}
def yc (ma mb:ME):ME:=fun Γ st=>(ma Γ st).bind fun x st1=>match x with
 | .bl true=>mb Γ st1
 | .bl false=>.ok (.bl false) st1
 | _=>.stuck
def Qn8 (ma:ME):ME:=fun Γ st=>(ma Γ st).bind fun x st1=>match x with
 | .bl k=>.ok (.bl (!k)) st1
 | _=>.stuck
theorem Qkc {op:BoolOp} (ha:SimE X E a ma):SimE X E (.BoolOp op [a] pos) ma:=⟨fun Γ σ H ρ st Q R G h=>WE.of (Qmc Jj) (ha.use R G h fun _ _ _ _ v _ _ _ r q=>q v r)⟩
theorem Qkj (ha:SimE X E a ma) (hb:SimE X E (.BoolOp .And (b :: rest) pos) mb):SimE X E (.BoolOp .And (a :: b :: rest) pos) (yc ma mb):=
 ⟨fun Γ σ H ρ st Q R G h=>WE.of (Qmg Jj Jj) (ha.use R G h.bind fun p st1 H1 ρ1 v x1 R1 G1 r1 h1=>by
  cases p with
  | bl k=>
   refine ⟨k,r1,?_⟩;cases k with
   | true=>rw [bN rfl]; exact hb.use R1 G1 h1 fun _ _ _ _ v _ _ _ r q=>q v r
   | false=>rw [bO F0]; exact now R1 h1 rfl
  | _=>exact h1.elim)⟩
theorem Qkd (ha:SimE X E a ma):SimE X E (.UnaryOp .Not a pos) (Qn8 ma):=
 ⟨fun Γ σ H ρ st Q R G h=>WE.of (Qmd Jj) (ha.use R G h.bind fun p st1 H1 ρ1 v x1 R1 G1 r1 h1=>by
  cases p with
  | bl k=>exact ⟨k,r1,now R1 h1 rfl⟩
  | _=>exact h1.elim)⟩
def Qhv (ma:ME):ME:=fun Γ st=>(ma Γ st).bind fun x st1=>match x with
 | .int k=>.ok (.int (-k)) st1
 | _=>.stuck
theorem Qkf (ha:SimE X E a ma):SimE X E (.UnaryOp .USub a pos) (Qhv ma):=
 ⟨fun Γ σ H ρ st Q R G h=>WE.of (Qr9 Qjj Jj) (ha.use R G h.bind fun p st1 H1 ρ1 v x1 R1 G1 r1 h1=>by
  cases p with
  | int k=>exact ⟨k,r1,now R1 h1 rfl⟩
  | _=>exact h1.elim)⟩
abbrev MT:=Gam->Q0->Res Bool
variable {ta tb:MT}
def Vf (ta tb:MT):MT:=fun Γ st=>(ta Γ st).bind fun k st1=>if k=true then tb Γ st1 else .ok false st1
def Q21 (ta tb:MT):MT:=fun Γ st=>(ta Γ st).bind fun k st1=>if k=true then .ok true st1 else tb Γ st1
def Xw (ta:MT):MT:=fun Γ st=>(ta Γ st).bind fun k st1=>.ok (!k) st1
theorem SimW.t (h:SimW X E e ta):SimT X E e ta:=⟨fun Γ σ H ρ st Q R G q pins s I=>h.run Γ σ H ρ st Q R G q _ pins s I⟩
theorem Qfw (ha:SimT X E a ta):SimW X E (.BoolOp .And [a] pos) ta:=⟨fun Γ σ H ρ st Q R G h=>WW.of (Qgj Q3t) (ha.use R G h fun _ _ _ _ _ _ _ q=>q)⟩
theorem Qjx (ha:SimT X E a ta):SimW X E (.BoolOp .Or [a] pos) ta:=⟨fun Γ σ H ρ st Q R G h=>WW.of (Qku Q3t) (ha.use R G h fun _ _ _ _ _ _ _ q=>q)⟩
theorem Qjy (ha:SimT X E a ta) (hb:SimW X E (.BoolOp .And (b :: rest) pos) tb):SimW X E (.BoolOp .And (a :: b :: rest) pos) (Vf ta tb):=
 ⟨fun Γ σ H ρ st Q R G h=>WW.of (Qkv Q3t Qr4) (ha.use R G h.bind fun k st1 H1 ρ1 x1 R1 G1 h1=>by
  cases k with
  | true=>rw [bN rfl] at h1 ⊢; exact hb.use R1 G1 h1 fun _ _ _ _ _ _ _ q=>q
  | false=>rw [bO F0] at h1 ⊢; exact h1 H1 ρ1 (Ext.refl _ _) R1)⟩
theorem Qqm (ha:SimT X E a ta) (hb:SimW X E (.BoolOp .Or (b :: rest) pos) tb):SimW X E (.BoolOp .Or (a :: b :: rest) pos) (Q21 ta tb):=
 ⟨fun Γ σ H ρ st Q R G h=>WW.of (Qr5 Q3t Qr4) (ha.use R G h.bind fun k st1 H1 ρ1 x1 R1 G1 h1=>by
  cases k with
  | true=>rw [bN rfl] at h1 ⊢; exact h1 H1 ρ1 (Ext.refl _ _) R1
  | false=>rw [bO F0] at h1 ⊢; exact hb.use R1 G1 h1 fun _ _ _ _ _ _ _ q=>q)⟩
theorem Qk2 (ha:SimT X E a ta):SimT X E (.UnaryOp .Not a pos) (Xw ta):=
 ⟨fun Γ σ H ρ st Q R G h=>WT.of (Qkx Q3t) (ha.use R G h.bind fun k st1 H1 ρ1 x1 R1 G1 h1=>h1 H1 ρ1 (Ext.refl _ _) R1)⟩
def mIf (tc:MT) (ma mb:ME):ME:=fun Γ st=>(tc Γ st).bind fun k st1=>if k=true then ma Γ st1 else mb Γ st1
theorem Qqr (hc:SimT X E c ta) (ha:SimE X E a ma) (hb:SimE X E b mb):SimE X E (.IfExp c a b pos) (mIf ta ma mb):=
 ⟨fun Γ σ H ρ st Q R G h=>WE.of (Qd1 Q3t Jj Jj) (hc.use R G h.bind fun k st1 H1 ρ1 x1 R1 G1 h1=>by
  cases k with
  | true=>rw [bN rfl] at h1 ⊢; exact ha.use R1 G1 h1 fun _ _ _ _ v _ _ _ r q=>q v r
  | false=>rw [bO F0] at h1 ⊢; exact hb.use R1 G1 h1 fun _ _ _ _ v _ _ _ r q=>q v r)⟩
variable {e:aH} {es:List aH} {m:ME} {mr:Gam->Q0->Res (List PV)}
def Q6:Gam->Q0->Res (List PV):=fun _ st=>.ok [] st
def Q1 (m:ME) (mr:Gam->Q0->Res (List PV)):Gam->Q0->Res (List PV):=fun Γ st=>(m Γ st).bind fun p st1=>(mr Γ st1).bind fun ps st2=>.ok (p :: ps) st2
theorem K1:SimA X E [] Q6:=⟨fun Γ σ H ρ st Q R G h=>WA.of Q3v (h H ρ (Ext.refl _ _) R [] rfl)⟩
theorem Ze (ha:SimE X E e m) (hr:SimA X E es mr) (hs:aN (e :: es) X.env=(false,aM e X.env) :: aN es X.env:=by rfl):SimA X E (e :: es) (Q1 m mr):=
 ⟨fun Γ σ H ρ st Q R G h=>WA.of (jx Jj xg hs) (ha.use R G h.bind fun p st1 H1 ρ1 v x1 R1 G1 r1 h1=>hr.use R1 G1 h1.bind fun ps st2 H2 ρ2 vs x2 R2 G2 r2 h2=>
  h2 H2 ρ2 (Ext.refl _ _) R2 (v :: vs) ⟨v,vs,rfl,r1.ext x2,r2⟩)⟩
def Jd (mr:Gam->Q0->Res (List PV)):ME:=fun Γ st=>(mr Γ st).bind fun ps st1=>if ps.length<=lim then .ok (.tup ps) st1 else .stuck
def Q7e (mr:Gam->Q0->Res (List PV)):ME:=fun Γ st=>(mr Γ st).bind fun ps st1=>if ps.length<=lim then .ok (.lst ps) st1 else .stuck
theorem Qc2 {k:Nat} (h:SimA X E es mr):SimE X E (.Tuple es k pos) (Jd mr):=
 ⟨fun Γ σ H ρ st Q R G hq=>WE.of (Qma xg) (h.use R G hq.bind fun ps st1 H1 ρ1 vs x1 R1 G1 r1 h1=>by
  by_cases hl:ps.length<=lim
  ·rw [bN hl] at h1;exact ⟨by rw [<- r1.length]; exact W0 hl,zc R1 h1 r1⟩
  ·rw [bO hl] at h1; exact h1.elim)⟩
theorem Qkg (h:SimA X E es mr):SimE X E (.List es pos) (Q7e mr):=
 ⟨fun Γ σ H ρ st Q R G hq=>WE.of (Qd0 xg) (h.use R G hq.bind fun ps st1 H1 ρ1 vs x1 R1 G1 r1 h1=>by
  by_cases hl:ps.length<=lim
  ·rw [bN hl] at h1;exact ⟨by rw [<- r1.length]; exact W0 hl,qb R1 h1 r1⟩
  ·rw [bO hl] at h1; exact h1.elim)⟩
end
end Sm
namespace HT
open PySem PySem.Spec PyProof.Rows
variable {prog:aL} {A:aQ} {E:aA->aC->Prop} {s:aC}
section
variable {w:aJ}
theorem getItem_tuple_whole {t sl:aB} {items:Array aA} {vl vu:aA} {lo hi:Option Int} {Q:aA->aC->Prop} (ht:IsTup s.heap t items) (hs:s.heap.IsSliceOf sl vl vu .none) (pl:IsPart vl lo) (pu:IsPart vu hi)
  (hw:sIx items.size 0 lo=0/\sIx items.size items.size hi=items.size)
  (h:Q (.ref t) s):aF (aI prog w) A (getItem (.ref t) (.ref sl)) Q E s:=by
 obtain ⟨os,hos,hcs,hds⟩:=id hs;have hTs:s.TypeIs (.ref sl) "slice" := ⟨os,hos,hcs⟩;unfold getItem
 try with_reducible refine aZ ?_
 first | refine aD (wpAny_pure ?_) | skip
 refine aD (wpAny_sequenceKey ht.typeIs (by decide) ?_);refine aD (wpAny_callSpecial?_slot (name:=Str.ofString "__getitem__") ht.typeIs PyProof.Rows.slot_tuple_getitem
  (ag PyProof.Rows.slot_tuple_getitem ht.typeIs entry_tuple_getitem ?_ (args_tuple_getitem _ _)))
 show aF _ _ (Builtin.Tuple.tupleItemsOf (.ref t) >>= _) _ _ s;refine aD (tupleItemsOf_ ht ?_);refine aD (bM hTs ?_);rw [bN (by decide)];refine aD (Uy hs pl pu ?_);have hyes:(((sIx items.size 0 lo:Nat):Int) == 0 && (1:Int) == 1 && (sIx items.size items.size hi - sIx items.size 0 lo) == items.size)=true:=by
  rw [hw.1,hw.2]; simp
 show aF _ _ (if (((sIx items.size 0 lo:Nat):Int) == 0 && (1:Int) == 1 && (sIx items.size items.size hi - sIx items.size 0 lo) == items.size)=true then _ else _) _ _ s;rw [bN hyes];refine aD (aD (bM ht.typeIs (wpAny_pure ?_)));rw [bN (by rfl)];exact aD (ah (wpAny_pure ⟨_,rfl,wpAny_pure h⟩))
end
end HT
namespace L2
open PySem PySem.Spec PyProof.Rows
def Qun (K:PySem.W.Frag):V->Option Int->Option Int->Hp->VK->Prop:=fun x lo hi H Q=>∃ a xs,x=.ref a/\SqT K H a xs /\
 (HT.sIx xs.length 0 lo=0/\HT.sIx xs.length xs.length hi=xs.length)/\Q (.ref a) H
theorem sl_whole {X:Cx}:SlR X (Qun X.K):=by
 intro pins s σ H x v vl vu lo hi sl Q I rx hs pl pu h;obtain ⟨a,xs,rfl,hx,hw,q⟩:=h;cases rx;obtain ⟨its,r,ht,hz⟩:=I.tuple hx;have hlen:its.toArray.size=xs.length:=by rw [D3]; exact r.length.symm
 refine ⟨"tuple",_,PyProof.Rows.slot_tuple_getitem.lookup,ht.typeIs,?_⟩;exact HT.getItem_tuple_whole ht hs pl pu (by rw [hlen]; exact hw) ⟨.ref a,H,I,rfl,q⟩
end L2
namespace Sm
open PySem PySem.Spec L2
variable {H H1:Hp} {ρ:Tk} {p:PV} {x:Str} {σ:St} {A:aQ} {st:Q0} {xs ps:List PV} {vs:List V} {o:CF} {Q:VK} {T:String} {K:PySem.W.Frag} {v:V} {tp:Pos} {e c:aH} {es:List aH} {n k kt:Nat} {mg:Str->Option aA} {b:aB} {hs:List aB} {α β:Type} {Γ:Gam} {P:List PV->Q0->Hp->Tk->Prop} {s:aK} {fd:aP}
variable {X:Cx} {E:XK}
section
variable {pos:Pos}
def oI (g:Int->Int->PV):OP:=fun st p q=>match p,q with
 | .int a,.int b=>.ok (g a b) st
 | _,_=>.stuck
def Qz:OP:=fun st p q=>match p,q with
 | .int a,.int b=>.ok (.int (a + b)) st
 | .str a,.str b=>if a.length + b.length<=lim then .ok (.str (a ++ b)) st else .stuck
 | .tup xs,.tup ys=>if xs.length + ys.length<=lim then .ok (.tup (xs ++ ys)) st else .stuck
 | p,q=>match Wc st p,Wc st q with
  | some xs,some ys=>if xs.length + ys.length<=lim then .ok (.lst (xs ++ ys)) st else .stuck
  | _,_=>.stuck
theorem Qmq:OpS X E (aV .Add) Qz:=⟨fun H ρ st p q x y Q R rp rq h=>by
 unfold Qz at h
 split at h
 ·cases rp; cases rq;exact WO.of Qmz ⟨_,_,rfl,rfl,now R h rfl⟩
 ·cases rp; cases rq
  split at h
  ·rename_i hl;exact WO.of Q73 ⟨_,_,rfl,rfl,W0 hl,now R h rfl⟩
  ·exact h.elim
 ·split at h
  ·rename_i xs ys hl;obtain ⟨a,vs,rfl,ha,na,ra⟩:=rp;obtain ⟨b,us,rfl,hb,nb,rb⟩:=rq;refine WO.of Qhh ?_
   by_cases e:xs=[]
   ·subst e;cases ra;exact .inr ⟨a,b,us,rfl,rfl,SqT.of ha,SqT.of hb,now R h ⟨b,us,rfl,hb,nb,rb⟩⟩
   ·refine .inl ⟨a,b,vs,us,rfl,rfl,SqT.of ha,SqT.of hb,fun z=>e ?_,by rw [<- ra.length,<- rb.length]; exact W0 hl,fun z=>?_,fun z=>zc R h (ra.append rb)⟩
    ·subst z;cases xs with
     | nil=>rfl
     | cons _ _=>have:=ra.length; simp at this
    ·subst z;have:ys=[]:=by
      cases ys with
      | nil=>rfl
      | cons _ _=>have:=rb.length; simp at this
     subst this;rw [F9] at h;exact now R h ⟨a,vs,rfl,ha,na,ra⟩
  ·exact h.elim
 ·split at h
  ·rename_i xs ys e1 e2
   split at h
   ·rename_i hl;obtain ⟨a,vs,rfl,ha,ra⟩:=Q18 R rp e1;obtain ⟨b,us,rfl,hb,rb⟩:=Q18 R rq e2;exact WO.of Qmy ⟨a,b,vs,us,rfl,rfl,ha,hb,by rw [<- ra.length,<- rb.length]; exact W0 hl,qb R h (ra.append rb)⟩
   ·exact h.elim
  ·exact h.elim⟩
theorem Qmi:OpS X E (aV .Sub) (oI fun a b=>.int (a - b)):=⟨fun H ρ st p q x y Q R rp rq h=>by
 unfold oI at h
 split at h
 ·cases rp; cases rq;exact WO.of Qms ⟨_,_,rfl,rfl,now R h rfl⟩
 ·exact h.elim⟩
def Q40:OP:=fun st p q=>match p,q with
 | .int a,.int b=>if (-(2 ^ 64) < a/\a < 2 ^ 64)\/(-(2 ^ 64) < b/\b < 2 ^ 64) then .ok (.int (a * b)) st else .stuck
 | .tup xs,.int b=>if xs≠[]/\1<=b/\xs.length * b.toNat<=4096 then .ok (.tup (List.replicate b.toNat xs).flatten) st else .stuck
 | p,.int b=>match Wc st p with
  | some xs=>if -(2 ^ 63)<=b/\b < 2 ^ 63/\xs.length * b.toNat<=lim then .ok (.lst (List.replicate b.toNat xs).flatten) st else .stuck
  | none=>.stuck
 | _,_=>.stuck
theorem Qmk:OpS X E (aV .Mult) Q40:=⟨fun H ρ st p q x y Q R rp rq h=>by
 unfold Q40 at h
 split at h
 ·cases rp; cases rq
  split at h
  ·rename_i hc;exact WO.of Qmv ⟨_,_,rfl,rfl,hc,now R h rfl⟩
  ·exact h.elim
 ·cases rq
  split at h
  ·rename_i xs b hc;obtain ⟨a,vs,rfl,ha,na,ra⟩:=rp;refine WO.of Qhe ⟨a,b,vs,rfl,rfl,SqT.of ha,fun z=>hc.1 ?_,hc.2.1,by rw [<- ra.length]; exact hc.2.2,fun z=>?_,fun z=>zc R h (ra.rep _)⟩
   ·subst z;cases xs with
    | nil=>rfl
    | cons _ _=>have:=ra.length; simp at this
   ·subst z;have e1:(List.replicate (Int.toNat 1) xs).flatten=xs:=by simp
    rw [e1] at h;exact now R h ⟨a,vs,rfl,ha,na,ra⟩
  ·exact h.elim
 ·cases rq
  split at h
  ·rename_i xs e1
   split at h
   ·rename_i hc;obtain ⟨a,vs,rfl,ha,ra⟩:=Q18 R rp e1;exact WO.of Qmt ⟨a,_,vs,rfl,rfl,ha,hc.1,hc.2.1,by rw [<- ra.length]; exact W0 hc.2.2,qb R h (ra.rep _)⟩
   ·exact h.elim
  ·exact h.elim
 ·exact h.elim⟩
def Q5k:OP:=fun st p q=>match p,q with
 | .int a,.int b=>if 0 < b then .ok (.int (a % b)) st else .stuck
 | _,_=>.stuck
theorem Qmm:OpS X E (aV .Mod) Q5k:=⟨fun H ρ st p q x y Q R rp rq h=>by
 unfold Q5k at h
 split at h
 ·cases rp; cases rq
  split at h
  ·rename_i hc;exact WO.of Qmw ⟨_,_,rfl,rfl,hc,now R h rfl⟩
  ·exact h.elim
 ·exact h.elim⟩
def Qdd:OP:=fun st p q=>match p,q with
 | .int a,.int b=>if 0 < b/\b < 1073741824 then .ok (.int (a / b)) st else .stuck
 | _,_=>.stuck
theorem Qmp:OpS X E (aV .FloorDiv) Qdd:=⟨fun H ρ st p q x y Q R rp rq h=>by
 unfold Qdd at h
 split at h
 ·cases rp; cases rq
  split at h
  ·rename_i hc;exact WO.of Qhg ⟨_,_,rfl,rfl,hc,now R h rfl⟩
  ·exact h.elim
 ·exact h.elim⟩
def Qaa:OP:=fun st p q=>match p,q with
 | .int a,.int b=>if 0<=b/\b<=1000000/\a.natAbs < 2 ^ 64 then .ok (.int (a ^ b.toNat)) st else .stuck
 | _,_=>.stuck
theorem Qmj:OpS X E (aV .Pow) Qaa:=⟨fun H ρ st p q x y Q R rp rq h=>by
 unfold Qaa at h
 split at h
 ·cases rp; cases rq
  split at h
  ·rename_i hc;exact WO.of Qmu ⟨_,_,rfl,rfl,hc,now R h rfl⟩
  ·exact h.elim
 ·exact h.elim⟩
theorem Qdc {op:CmpOp} {g:Int->Int->Bool} (ho:OpR X (aS op) (rI0 fun i j=>.bl (g i j))):OpS X E (aS op) (oI fun a b=>.bl (g a b)):=⟨fun H ρ st p q x y Q R rp rq h=>by
 unfold oI at h
 split at h
 ·cases rp; cases rq;exact WO.of ho ⟨_,_,rfl,rfl,now R h rfl⟩
 ·exact h.elim⟩
theorem Qrf:OpS X E (aS .LtE) (oI fun a b=>.bl (decide (a<=b))):=Qdc Qrk
theorem Qrh:OpS X E (aS .Gt) (oI fun a b=>.bl (decide (b < a))):=Qdc Qrm
def Ur:List PV->Option (List Int)
 | []=>some []
 | .int i :: ps=>(Ur ps).map (i :: ·)
 | _ :: _=>none
def xc:List PV->Option (List Bool)
 | []=>some []
 | .bl i :: ps=>(xc ps).map (i :: ·)
 | _ :: _=>none
theorem Q1d (ns:List Int):Ur (ns.map .int)=some ns:=by
 induction ns with
 | nil=>rfl
 | cons n ns ih=>rw [D9,Ur,ih]; rfl
theorem Qih (ns:List Bool):xc (ns.map .bl)=some ns:=by
 induction ns with
 | nil=>rfl
 | cons n ns ih=>rw [D9,xc,ih]; rfl
theorem Q01:∀ {ps:List PV} {ns:List Int},Ur ps=some ns->ps=ns.map .int
 | [],ns,h=>by cases h; rfl
 | .int i :: ps,ns,h=>by
  rw [Ur] at h;cases e:Ur ps with
  | none=>rw [e] at h; cases h
  | some ms=>rw [e] at h; cases h; rw [Q01 e]; rfl
 | .non :: _,_,h | .bl _ :: _,_,h | .str _ :: _,_,h | .tup _ :: _,_,h | .lst _ :: _,_,h | .fro _ :: _,_,h | .ref _ :: _,_,h | .dic :: _,_,h=>by cases h
theorem Qfe:∀ {ps:List PV} {ns:List Bool},xc ps=some ns->ps=ns.map .bl
 | [],ns,h=>by cases h; rfl
 | .bl i :: ps,ns,h=>by
  rw [xc] at h;cases e:xc ps with
  | none=>rw [e] at h; cases h
  | some ms=>rw [e] at h; cases h; rw [Qfe e]; rfl
 | .non :: _,_,h | .int _ :: _,_,h | .str _ :: _,_,h | .tup _ :: _,_,h | .lst _ :: _,_,h | .fro _ :: _,_,h | .ref _ :: _,_,h | .dic :: _,_,h=>by cases h
def oLt:OP:=fun st p q=>match p,q with
 | .int a,.int b=>.ok (.bl (decide (a < b))) st
 | .tup xs,.tup ys=>match Ur xs,Ur ys with
  | some ns,some ms=>.ok (.bl (HT.lexLt ns ms)) st
  | _,_=>.stuck
 | _,_=>.stuck
theorem Qre (hu:X.A.units + 64 < aO):OpS X E (aS .Lt) oLt:=⟨fun H ρ st p q x y Q R rp rq h=>by
 unfold oLt at h
 split at h
 ·cases rp; cases rq;exact WO.of Qrj ⟨_,_,rfl,rfl,now R h rfl⟩
 ·split at h
  ·rename_i ns ms e1 e2;obtain ⟨a,vs,rfl,ha,na,ra⟩:=rp;obtain ⟨b,us,rfl,hb,nb,rb⟩:=rq;rw [Q01 e1] at ra;rw [Q01 e2] at rb;rw [ra.toInts] at ha;rw [rb.toInts] at hb;exact WO.of (Qmx (by omega)) ⟨a,b,ns,ms,rfl,rfl,SqT.of ha,SqT.of hb,now R h rfl⟩
  ·exact h.elim
 ·exact h.elim⟩
def dep:Nat:=12
def oEq:OP:=fun st p q=>if J0 dep (der st p)=true/\J0 dep (der st q)=true then .ok (.bl (peq (der st p) (der st q))) st else .stuck
def oNe:OP:=fun st p q=>if J0 dep (der st p)=true/\J0 dep (der st q)=true then .ok (.bl (!peq (der st p) (der st q))) st else .stuck
theorem Qri (hu:X.A.units + 64 < aO):OpS X E (aS .Eq) oEq:=⟨fun H ρ st p q x y Q R rp rq h=>by
 unfold oEq at h
 split at h
 ·rename_i g;intro pins s σ v u I rv ru;exact (Q9a dep I g.1 g.2 (by unfold dep; omega) (qf R g.1 rp) rv (qf R g.2 rq) ru).2.1 _ _ _ _ ⟨.bl _,H,I,rfl,now R h rfl⟩
 ·exact h.elim⟩
theorem Qj1 (hu:X.A.units + 64 < aO):OpS X E (aS .NotEq) oNe:=⟨fun H ρ st p q x y Q R rp rq h=>by
 unfold oNe at h
 split at h
 ·rename_i g;intro pins s σ v u I rv ru;exact (Q9a dep I g.1 g.2 (by unfold dep; omega) (qf R g.1 rp) rv (qf R g.2 rq) ru).2.2 _ _ _ _ ⟨.bl _,H,I,rfl,now R h rfl⟩
 ·exact h.elim⟩
def Q2x:PV->Bool
 | .non=>true
 | _=>false
theorem Qam {x:V} (r:Rep H ρ p x):decide (x=.non)=Q2x p:=by
 cases p with
 | non=>cases r; rfl
 | bl _=>cases r; rfl
 | int _=>cases r; rfl
 | str _=>cases r; rfl
 | tup _=>obtain ⟨_,_,rfl,_⟩:=r; rfl
 | lst _=>obtain ⟨_,_,rfl,_⟩:=r; rfl
 | fro _=>obtain ⟨_,_,rfl,_⟩:=r; rfl
 | ref _=>obtain ⟨_,_,rfl⟩:=r; rfl
 | dic=>obtain ⟨_,rfl,_⟩:=r; rfl
def oIs:OP:=fun st p q=>match q with
 | .non=>.ok (.bl (Q2x p)) st
 | .bl c=>match p with
  | .bl b=>.ok (.bl (b == c)) st
  | _=>.stuck
 | _=>.stuck
def j3:OP:=fun st p q=>match q with
 | .non=>.ok (.bl (!Q2x p)) st
 | .bl c=>match p with
  | .bl b=>.ok (.bl (b != c)) st
  | _=>.stuck
 | _=>.stuck
theorem Qd8:OpS X E (aS .IsNot) j3:=⟨fun H ρ st p q x y Q R rp rq h=>by
 unfold j3 at h
 split at h
 ·cases rq;refine WO.of Qhf ⟨rfl,?_⟩;rw [Qam rp];exact now R h rfl
 ·split at h
  ·cases rp; cases rq;exact WO.of Q5f ⟨_,_,rfl,rfl,now R h rfl⟩
  ·exact h.elim
 ·exact h.elim⟩
def oIn (neg:Bool):OP:=fun st p q=>match Ye st q with
 | some xs=>if J0 dep (der st p)=true/\xs.all (J0 dep)=true then .ok (.bl ((xs.any fun y=>peq y (der st p)) != neg)) st else .stuck
 | none=>.stuck
open Classical in
theorem zh {pins:List (aB × Obj)} {s:aC} {p:PV} {xs:List PV} {x:V} {v:aA} {vs:List V} {its:List aA} (I:Inv X pins σ H s) (hu:A.units + dep < aO) (R:Rel H ρ st)
  (gp:J0 dep (der st p)=true) (gx:xs.all (J0 dep)=true) (rp:Rep H ρ p x) (rv:RelV x v) (ra:RepL H ρ xs vs) (vi:Vals vs its):∃ e:aA->Bool,(∀ u,u∈its.toArray->SeqAt.EqAt A s u v (e u))/\its.toArray.any e=xs.any fun y=>peq y (der st p):=by
 have key:∀ u∈its,∃ q∈xs,∃ y,Rep H Tk.nil q y/\RelV y u:=fun u hu=>by
  obtain ⟨j,hj,rfl⟩:=List.getElem_of_mem hu;have l1:=vi.length;have l2:=ra.length;obtain ⟨y,e1,e2⟩:=(repL_nil gx ra).get (O2 (show j < xs.length by omega));obtain ⟨w,e3,e4⟩:=vi.get e1;rw [O2 hj] at e3; cases e3;exact ⟨_,F5 _,y,e2,e4⟩
 refine ⟨fun u=>decide (∃ q∈xs,∃ y,Rep H Tk.nil q y/\RelV y u/\peq q (der st p)=true),fun u hm=>?_,?_⟩
 ·have hm':u∈its:=by simpa using hm
  by_cases z:∃ q∈xs,∃ y,Rep H Tk.nil q y/\RelV y u/\peq q (der st p)=true
  ·show SeqAt.EqAt A s u v (decide _);rw [bQ z];obtain ⟨q,hq,y,r1,r2,e⟩:=z;have:=(Q9a dep I ((M5.mp gx) q hq) gp hu r1 r2 (qf R gp rp) rv).1;rw [e] at this;exact this
  ·show SeqAt.EqAt A s u v (decide _);rw [bP z];obtain ⟨q,hq,y,r1,r2⟩:=key u hm';have:=(Q9a dep I ((M5.mp gx) q hq) gp hu r1 r2 (qf R gp rp) rv).1;cases e:peq q (der st p) with
   | true=>exact absurd ⟨q,hq,y,r1,r2,e⟩ z
   | false=>rw [e] at this; exact this
 ·rw [Bool.eq_iff_iff,Array.any_eq_true,List.any_eq_true];constructor
  ·rintro ⟨j,hj,e⟩;obtain ⟨q,hq,y,r1,r2,e⟩:=of_decide_eq_true e;exact ⟨q,hq,e⟩
  ·rintro ⟨q,hq,e⟩;obtain ⟨j,hj,rfl⟩:=List.getElem_of_mem hq;have l1:=vi.length;have l2:=ra.length;have hj':j < its.length:=by omega
   obtain ⟨y,e1,e2⟩:=(repL_nil gx ra).get (O2 hj);obtain ⟨w,e3,e4⟩:=vi.get e1;refine ⟨j,by simpa using hj',bQ ⟨_,hq,y,e2,?_,e⟩⟩;rw [O2 hj'] at e3; cases e3;simpa using e4
theorem Qrg (hu:X.A.units + 64 < aO):OpS X E (aS .In) (oIn false):=⟨fun H ρ st p q x y Q R rp rq h=>by
 unfold oIn at h
 split at h
 ·rename_i xs es
  split at h
  ·rename_i g;obtain ⟨t,a,vs,rfl,hq,ra⟩:=K0 (K:=X.K) R rq es;intro pins s σ v u I rv ru;cases ru;rw [Bool.bne_false] at h;cases t with
   | true=>
    obtain ⟨its,r,pl,hz⟩:=I.tuple hq;obtain ⟨e,he,ea⟩:=zh (A:=X.A.in1) I (by show X.A.units + 1 + dep < aO; unfold dep; omega) R g.1 g.2 rp rv ra r;refine SeqAt.in_tupleAt e pl he ⟨.bl _,H,I,rfl,?_⟩;rw [ea];exact now R h rfl
   | false=>
    obtain ⟨its,r,pl,hz⟩:=I.list hq;obtain ⟨e,he,ea⟩:=zh (A:=X.A.in1) I (by show X.A.units + 1 + dep < aO; unfold dep; omega) R g.1 g.2 rp rv ra r;refine SeqAt.in_listAt e pl.isList he ⟨.bl _,H,I,rfl,?_⟩;rw [ea];exact now R h rfl
  ·exact h.elim
 ·exact h.elim⟩
theorem Qd7 (hu:X.A.units + 64 < aO):OpS X E (aS .NotIn) (oIn true):=⟨fun H ρ st p q x y Q R rp rq h=>by
 unfold oIn at h
 split at h
 ·rename_i xs es
  split at h
  ·rename_i g;obtain ⟨t,a,vs,rfl,hq,ra⟩:=K0 (K:=X.K) R rq es;intro pins s σ v u I rv ru;cases ru;rw [Bool.bne_true] at h;cases t with
   | true=>
    obtain ⟨its,r,pl,hz⟩:=I.tuple hq;obtain ⟨e,he,ea⟩:=zh (A:=X.A.in1) I (by show X.A.units + 1 + dep < aO; unfold dep; omega) R g.1 g.2 rp rv ra r;refine SeqAt.notIn_tupleAt e pl he ⟨.bl _,H,I,rfl,?_⟩;rw [ea];exact now R h rfl
   | false=>
    obtain ⟨its,r,pl,hz⟩:=I.list hq;obtain ⟨e,he,ea⟩:=zh (A:=X.A.in1) I (by show X.A.units + 1 + dep < aO; unfold dep; omega) R g.1 g.2 rp rv ra r;refine SeqAt.notIn_listAt e pl.isList he ⟨.bl _,H,I,rfl,?_⟩;rw [ea];exact now R h rfl
  ·exact h.elim
 ·exact h.elim⟩
end
variable {H:Hp} {ρ:Tk}
theorem RepL.atI {ps:List PV} {vs:List V} {i:Int} {p:PV} (r:RepL H ρ ps vs) (e:atI ps i=some p):∃ v,L2.atI vs i=some v/\Rep H ρ p v:=by
 unfold L2.atI at e ⊢;rw [<- r.length];cases q:ixN ps.length i with
 | none=>rw [q] at e; cases e
 | some j=>
  rw [q] at e;exact r.get e
def cut {α:Type} (xs:List α) (lo hi:Option Int):List α:=(xs.drop (HT.sIx xs.length 0 lo)).take (HT.sIx xs.length xs.length hi - HT.sIx xs.length 0 lo)
theorem RepL.cut (r:RepL H ρ ps vs) (lo hi:Option Int):RepL H ρ (Sm.cut ps lo hi) (Q6d vs lo hi):=by
 unfold Sm.cut Q6d;rw [<- r.length];exact (r.drop _).take _
section
variable {X:Cx} {E:XK} {pos:Pos} {a b:aH} {ma mb:ME}
def oIx:OP:=fun st p q=>match Ye st p,q with
 | some xs,.int i=>okO st (atI xs i)
 | _,_=>.stuck
theorem Qc5 (ha:SimE X E a ma) (hb:SimE X E b mb) (hs:Q9g b:=by exact fun _ _=>rfl):SimE X E (.Subscript a b pos) (mOp oIx ma mb):=
 ⟨fun Γ σ H ρ st Q R G h=>WE.of (Qrb Qnp Jj Jj hs) (ha.use R G h.bind fun p st1 H1 ρ1 v x1 R1 G1 r1 h1=>hb.use R1 G1 h1.bind fun q st2 H2 ρ2 u x2 R2 G2 r2 h2=>by
  unfold oIx at h2
  split at h2
  ·rename_i xs i e;cases r2;cases ea:atI xs i with
   | none=>rw [ea] at h2; exact h2.elim
   | some w=>
    rw [ea] at h2;obtain ⟨t,b,vs,rfl,hq,ra⟩:=K0 (K:=X.K) R2 (r1.ext x2) e;obtain ⟨z,ez,rz⟩:=ra.atI ea;cases t with
    | true=>exact .inr (.inl ⟨b,vs,i,z,rfl,rfl,hq,ez,now R2 h2 rz⟩)
    | false=>exact .inl ⟨b,vs,i,z,rfl,rfl,hq,ez,now R2 h2 rz⟩
  ·exact h2.elim)⟩
structure SimO (X:Cx) (E:XK) (o:Option aH) (m:Gam->Q0->Res (Option Int)):Prop where
 run:∀ (Γ:Gam) (σ:St) (H:Hp) (ρ:Tk) (st:Q0) (P:Option Int->Q0->Hp->Tk->Prop) (Q:Option Int->Hp->Prop),Rel H ρ st->EnvR H ρ Γ σ->Acc X.mg E H ρ P (m Γ st) ->
  (∀ i st1 H1 ρ1,Ext H ρ H1 ρ1->Rel H1 ρ1 st1->EnvR H1 ρ1 Γ σ->P i st1 H1 ρ1->Q i H1)->∃ t,PO X o t/\t σ H Q
def Jq:Gam->Q0->Res (Option Int):=fun _ st=>.ok none st
def Yq (m:ME):Gam->Q0->Res (Option Int):=fun Γ st=>(m Γ st).bind fun p st1=>match p with
 | .int i=>.ok (some i) st1
 | _=>.stuck
theorem Qg3:SimO X E none Jq:=⟨fun Γ σ H ρ st P Q R G h k=>⟨_,Qgw,k none st H ρ (Ext.refl _ _) R G (h H ρ (Ext.refl _ _) R)⟩⟩
theorem Qg2 (ha:SimE X E a ma):SimO X E (some a) (Yq ma):=⟨fun Γ σ H ρ st P Q R G h k=>⟨_,Qgv Jj,ha.use R G h.bind fun p st1 H1 ρ1 v x1 R1 G1 r1 h1=>by
 cases p with
 | int i=>exact ⟨i,r1,k (some i) st1 H1 ρ1 x1 R1 G1 (h1 H1 ρ1 (Ext.refl _ _) R1)⟩
 | _=>exact h1.elim⟩⟩
def oSl (st:Q0) (p:PV) (lo hi:Option Int):Res PV:=match p with
 | .tup xs=>.ok (.tup (cut xs lo hi)) st
 | p=>match Ym st p with
  | some xs=>.ok (.lst (cut xs lo hi)) st
  | none=>.stuck
def mSl (ma:ME) (ml mh:Gam->Q0->Res (Option Int)):ME:=fun Γ st=>(ma Γ st).bind fun p st1=>(ml Γ st1).bind fun lo st2=>(mh Γ st2).bind fun hi st3=>oSl st3 p lo hi
def TO.w (X:Cx) (o:Option aH):TO:=fun σ H Q=>∃ t,PO X o t/\t σ H Q
theorem Qr8 {o:Option aH}:PO X o (TO.w X o):=fun pins s σ H Q I ⟨t,h,q⟩=>h pins s σ H Q I q
theorem Qc4 {lo hi:Option aH} {ml mh:Gam->Q0->Res (Option Int)} {p2:Pos} (ha:SimE X E a ma) (hl:SimO X E lo ml) (hh:SimO X E hi mh):SimE X E (.Subscript a (.Slice lo hi none p2) pos) (mSl ma ml mh):=
 ⟨fun Γ σ H ρ st Q R G h=>WE.of (Qcz (sl_tup.or (sl_whole.or Qg5)) Jj Qr8 Qr8) (ha.use R G h.bind fun p st1 H1 ρ1 v x1 R1 G1 r1 h1=>by
  refine hl.run Γ σ H1 ρ1 st1 _ _ R1 G1 h1.bind fun l st2 H2 ρ2 x2 R2 G2 h2=>?_
  refine hh.run Γ σ H2 ρ2 st2 _ _ R2 G2 h2.bind fun u st3 H3 ρ3 x3 R3 G3 h3=>?_
  have r3:=r1.ext (x2.trans x3);unfold oSl at h3
  split at h3
  ·rename_i xs;obtain ⟨a,vs,rfl,ha,na,ra⟩:=r3
   by_cases hw:HT.sIx vs.length 0 l=0/\HT.sIx vs.length vs.length u=vs.length
   ·refine .inr (.inl ⟨a,vs,rfl,SqT.of ha,hw,?_⟩);have e:cut xs l u=xs:=by
     unfold cut;rw [ra.length,hw.1,hw.2,List.drop_zero,Nat.sub_zero,<- ra.length,List.take_length]
    rw [e] at h3;exact now R3 h3 ⟨a,vs,rfl,ha,na,ra⟩
   ·exact .inl ⟨a,vs,rfl,SqT.of ha,hw,zc R3 h3 (ra.cut l u)⟩
  ·split at h3
   ·rename_i xs e;obtain ⟨a,vs,rfl,ha,ra⟩:=Jb R3 r3 e;exact .inr (.inr ⟨a,vs,rfl,.inl ha,qb R3 h3 (ra.cut l u)⟩)
   ·exact h3.elim)⟩
variable {es:List aH} {e:aH} {mr:Gam->Q0->Res (List PV)}
def Qm (o:CF) (mr:Gam->Q0->Res (List PV)):ME:=fun Γ st=>(mr Γ st).bind fun ps st1=>o st1 ps
theorem CallS.use {f:aA} (s:CallS X E f o) {P:PV->Q0->Hp->Tk->Prop} {Q:VK} {xs:List V} (R:Rel H ρ st) (rp:RepL H ρ ps xs) (h:Acc X.mg E H ρ P (o st ps))
  (k:∀ p st1 H1 ρ1 v,Ext H ρ H1 ρ1->Rel H1 ρ1 st1->Rep H1 ρ1 p v->P p st1 H1 ρ1->Q v H1):WC X f xs H Q:=by
 refine s.run H ρ st ps xs Q R rp ?_;cases r:o st ps with
 | ok p st1=>rw [r] at h; exact fun H' ρ' x' R' v rv=>k p st1 H' ρ' v x' R' rv (h H' ρ' x' R')
 | exc e st=>rw [r] at h; exact h
 | stuck=>rw [r] at h; exact h
theorem Q53 {id:String} {p:Pos} (hc:CallS X E (.builtin id) o) (hg:Gl X x) (hm:X.mg x=none) (hv:aW x=some (.builtin id)) (ha:SimA X E (e :: es) mr) (hn:x≠"__name__" := by decide) (hdb:(x == ("__debug__" : Str))=false:=by decide)
  (he:aN (e :: es) X.env=(false,aM e X.env) :: aN es X.env:=by rfl) (hpl:(aX pos (aN es X.env)).any (·.1)=false:=by rfl):SimE X E (.Call (.Name x p) (e :: es) [] pos) (Qm o mr):=
 ⟨fun Γ σ H ρ st Q R G h=>WE.of (Q5e Qez hg hm hv xg hn hdb he hpl) (ha.use R G h.bind fun ps st1 H1 ρ1 vs x1 R1 G1 r1 h1=>hc.use R1 r1 h1 fun _ _ _ _ v _ _ r q=>q v r)⟩
theorem Q52 {p:Pos} (hc:CallS X E (.type T) o) (hg:Gl X x) (hm:X.mg x=none) (hv:aW x=some (.type T)) (ha:SimA X E (e :: es) mr) (hn:x≠"__name__" := by decide) (hdb:(x == ("__debug__" : Str))=false:=by decide)
  (he:aN (e :: es) X.env=(false,aM e X.env) :: aN es X.env:=by rfl) (hpl:(aX pos (aN es X.env)).any (·.1)=false:=by rfl):SimE X E (.Call (.Name x p) (e :: es) [] pos) (Qm o mr):=
 ⟨fun Γ σ H ρ st Q R G h=>WE.of (Q2n Qez hg hm hv xg hn hdb he hpl) (ha.use R G h.bind fun ps st1 H1 ρ1 vs x1 R1 G1 r1 h1=>hc.use R1 r1 h1 fun _ _ _ _ v _ _ r q=>q v r)⟩
theorem Zh {xs:List V} (r:RepL H ρ [p] xs):∃ v,xs=[v]/\Rep H ρ p v:=by
 obtain ⟨v,t,rfl,h1,h2⟩:=r;cases h2;exact ⟨v,rfl,h1⟩
theorem js {q:PV} {xs:List V} (r:RepL H ρ [p,q] xs):∃ v u,xs=[v,u]/\Rep H ρ p v/\Rep H ρ q u:=by
 obtain ⟨v,t,rfl,h1,h2⟩:=r;obtain ⟨u,rfl,h3⟩:=Zh h2;exact ⟨v,u,rfl,h1,h3⟩
def Y0:CF:=fun st ps=>match ps with
 | [p]=>match Ye st p with
  | some xs=>.ok (.int xs.length) st
  | none=>match p with
   | .str x=>if x.length<=lim then .ok (.int x.length) st else .stuck
   | _=>.stuck
 | _=>.stuck
theorem Qp7:CallS X E (.builtin "len") Y0:=⟨fun H ρ st ps xs Q R rp h=>by
 unfold Y0 at h
 split at h
 ·rename_i p;obtain ⟨v,rfl,r⟩:=Zh rp
  split at h
  ·rename_i ys e;obtain ⟨t,a,vs,rfl,hq,ra⟩:=K0 (K:=X.K) R r e;rw [ra.length] at h;exact WC.of Q4e ⟨a,vs,rfl,Q6u hq,now R h rfl⟩
  ·split at h
   ·cases r
    split at h
    ·rename_i hl;exact WC.of Q4d ⟨_,rfl,W0 hl,now R h rfl⟩
    ·exact h.elim
   ·exact h.elim
 ·exact h.elim⟩
def Yg (g:List Int->Option PV):CF:=fun st ps=>match ps with
 | [p]=>match (Ye st p).bind Ur with
  | some ns=>okO st (g ns)
  | none=>.stuck
 | _=>.stuck
def xn (g:List Bool->PV):CF:=fun st ps=>match ps with
 | [p]=>match (Ye st p).bind xc with
  | some ns=>.ok (g ns) st
  | none=>.stuck
 | _=>.stuck
theorem Q1e {ns:List Int} (R:Rel H ρ st) (r:Rep H ρ p v) (e:(Ye st p).bind Ur=some ns):∃ (t:Bool) (a:aB),v=.ref a/\SqK K t H a (ns.map V.int):=by
 cases q:Ye st p with
 | none=>rw [q] at e; cases e
 | some xs=>
  rw [q] at e;obtain ⟨t,a,vs,rfl,hq,ra⟩:=K0 (K:=K) R r q;rw [Q01 e] at ra;rw [ra.toInts] at hq;exact ⟨t,a,rfl,hq⟩
theorem Qii {ns:List Bool} (R:Rel H ρ st) (r:Rep H ρ p v) (e:(Ye st p).bind xc=some ns):∃ (t:Bool) (a:aB),v=.ref a/\SqK K t H a (ns.map V.bl):=by
 cases q:Ye st p with
 | none=>rw [q] at e; cases e
 | some xs=>
  rw [q] at e;obtain ⟨t,a,vs,rfl,hq,ra⟩:=K0 (K:=K) R r q;rw [Qfe e] at ra;rw [ra.toBls] at hq;exact ⟨t,a,rfl,hq⟩
theorem Qp4 (hc:X.calm=true):CallS X E (.builtin "sum") (Yg fun ns=>some (.int ns.sum)):=⟨fun H ρ st ps xs Q R rp h=>by
 unfold Yg at h
 split at h
 ·obtain ⟨v,rfl,r⟩:=Zh rp
  split at h
  ·rename_i ns e;obtain ⟨t,a,rfl,hq⟩:=Q1e (K:=X.K) R r e;exact WC.of (Qf0 t hc) ⟨a,ns,rfl,hq,now R h rfl⟩
  ·exact h.elim
 ·exact h.elim⟩
theorem Qp8 (hc:X.calm=true):CallS X E (.builtin "all") (xn fun ns=>.bl (ns.all id)):=⟨fun H ρ st ps xs Q R rp h=>by
 unfold xn at h
 split at h
 ·obtain ⟨v,rfl,r⟩:=Zh rp
  split at h
  ·rename_i ns e;obtain ⟨t,a,rfl,hq⟩:=Qii (K:=X.K) R r e;exact WC.of (Qf1 t hc) ⟨a,ns,rfl,hq,now R h rfl⟩
  ·exact h.elim
 ·exact h.elim⟩
def Qv0:List Int->Option Int
 | []=>none
 | n :: ns=>some (ns.foldl (fun a b=>if b > a then b else a) n)
def Qhn:List Int->Option Int
 | []=>none
 | n :: ns=>some (ns.foldl (fun a b=>if b < a then b else a) n)
theorem Q30:∀ (ns:List Int) (n:Int),(ns.foldl (fun a b=>if b > a then b else a) n=n\/ns.foldl (fun a b=>if b > a then b else a) n∈ns)/\n<=ns.foldl (fun a b=>if b > a then b else a) n/\∀ k∈ns,k<=ns.foldl (fun a b=>if b > a then b else a) n
 | [],n=>⟨.inl rfl,Int.le_refl _,fun k h=>by cases h⟩
 | m :: ns,n=>by
  obtain ⟨h1,h2,h3⟩:=Q30 ns (if m > n then m else n);rw [List.foldl_cons];refine ⟨?_,?_,fun k hk=>?_⟩
  ·rcases h1 with e | e
   ·by_cases hm:m > n
    ·rw [bN hm] at e ⊢; exact .inr (by rw [e]; exact D1)
    ·rw [bO hm] at e ⊢; exact .inl e
   ·exact .inr (O7 _ e)
  ·by_cases hm:m > n
   ·rw [bN hm] at h2 ⊢; omega
   ·rw [bO hm] at h2 ⊢; exact h2
  ·rcases E2.mp hk with rfl | hk
   ·by_cases hm:k > n
    ·rw [bN hm] at h2 ⊢; exact h2
    ·rw [bO hm] at h2 ⊢; omega
   ·exact h3 k hk
theorem Q2z:∀ (ns:List Int) (n:Int),(ns.foldl (fun a b=>if b < a then b else a) n=n\/ns.foldl (fun a b=>if b < a then b else a) n∈ns)/\ns.foldl (fun a b=>if b < a then b else a) n<=n/\∀ k∈ns,ns.foldl (fun a b=>if b < a then b else a) n<=k
 | [],n=>⟨.inl rfl,Int.le_refl _,fun k h=>by cases h⟩
 | m :: ns,n=>by
  obtain ⟨h1,h2,h3⟩:=Q2z ns (if m < n then m else n);rw [List.foldl_cons];refine ⟨?_,?_,fun k hk=>?_⟩
  ·rcases h1 with e | e
   ·by_cases hm:m < n
    ·rw [bN hm] at e ⊢; exact .inr (by rw [e]; exact D1)
    ·rw [bO hm] at e ⊢; exact .inl e
   ·exact .inr (O7 _ e)
  ·by_cases hm:m < n
   ·rw [bN hm] at h2 ⊢; omega
   ·rw [bO hm] at h2 ⊢; exact h2
  ·rcases E2.mp hk with rfl | hk
   ·by_cases hm:k < n
    ·rw [bN hm] at h2 ⊢; exact h2
    ·rw [bO hm] at h2 ⊢; omega
   ·exact h3 k hk
def Qb3:CF:=fun st ps=>match ps with
 | [.int a,.int b]=>.ok (.int (if b > a then b else a)) st
 | ps=>Yg (fun ns=>(Qv0 ns).map .int) st ps
def Xy:CF:=fun st ps=>match ps with
 | [.int a,.int b]=>.ok (.int (if b < a then b else a)) st
 | ps=>Yg (fun ns=>(Qhn ns).map .int) st ps
theorem Qp6 (hc:X.calm=true):CallS X E (.builtin "max") Qb3:=⟨fun H ρ st ps xs Q R rp h=>by
 unfold Qb3 at h
 split at h
 ·obtain ⟨v,u,rfl,r1,r2⟩:=js rp;cases r1; cases r2;exact WC.of (Qb2 hc) ⟨_,_,rfl,now R h rfl⟩
 ·unfold Yg at h
  split at h
  ·obtain ⟨v,rfl,r⟩:=Zh rp
   split at h
   ·rename_i ns e;cases ns with
    | nil=>exact h.elim
    | cons n ns=>
     obtain ⟨t,a,rfl,hq⟩:=Q1e (K:=X.K) R r e;refine WC.of (Qb1 t hc) ⟨a,_,rfl,hq,by simp,fun m hm hk=>?_⟩;have em:m=ns.foldl (fun a b=>if b > a then b else a) n:=by
      obtain ⟨h1,h2,h3⟩:=Q30 ns n;have g1:ns.foldl (fun a b=>if b > a then b else a) n<=m:=by
       rcases h1 with e | e
       ·rw [e]; exact hk _ D1
       ·exact hk _ (O7 _ e)
      have g2:m<=ns.foldl (fun a b=>if b > a then b else a) n:=by
       rcases E2.mp hm with rfl | hm
       ·exact h2
       ·exact h3 m hm
      omega
     subst em;exact now R h rfl
   ·exact h.elim
  ·exact h.elim⟩
theorem Qp5 (hc:X.calm=true):CallS X E (.builtin "min") Xy:=⟨fun H ρ st ps xs Q R rp h=>by
 unfold Xy at h
 split at h
 ·obtain ⟨v,u,rfl,r1,r2⟩:=js rp;cases r1; cases r2;exact WC.of (Qb0 hc) ⟨_,_,rfl,now R h rfl⟩
 ·unfold Yg at h
  split at h
  ·obtain ⟨v,rfl,r⟩:=Zh rp
   split at h
   ·rename_i ns e;cases ns with
    | nil=>exact h.elim
    | cons n ns=>
     obtain ⟨t,a,rfl,hq⟩:=Q1e (K:=X.K) R r e;refine WC.of (Qaz t hc) ⟨a,_,rfl,hq,by simp,fun m hm hk=>?_⟩;have em:m=ns.foldl (fun a b=>if b < a then b else a) n:=by
      obtain ⟨h1,h2,h3⟩:=Q2z ns n;have g1:m<=ns.foldl (fun a b=>if b < a then b else a) n:=by
       rcases h1 with e | e
       ·rw [e]; exact hk _ D1
       ·exact hk _ (O7 _ e)
      have g2:ns.foldl (fun a b=>if b < a then b else a) n<=m:=by
       rcases E2.mp hm with rfl | hm
       ·exact h2
       ·exact h3 m hm
      omega
     subst em;exact now R h rfl
   ·exact h.elim
  ·exact h.elim⟩
def zq:CF:=fun st ps=>match ps with
 | [p]=>match Ye st p with
  | some xs=>.ok (.lst xs) st
  | none=>.stuck
 | _=>.stuck
def U7:CF:=fun st ps=>match ps with
 | [p]=>match Ye st p with
  | some xs=>.ok (.tup xs) st
  | none=>.stuck
 | _=>.stuck
theorem Qig:CallS X E (.type "list") zq:=⟨fun H ρ st ps xs Q R rp h=>by
 unfold zq at h
 split at h
 ·obtain ⟨v,rfl,r⟩:=Zh rp
  split at h
  ·rename_i ys e;obtain ⟨t,a,vs,rfl,hq,ra⟩:=K0 (K:=X.K) R r e;exact WC.of zn ⟨a,vs,rfl,Q6u hq,qb R h ra⟩
  ·exact h.elim
 ·exact h.elim⟩
theorem Qew:CallS X E (.type "tuple") U7:=⟨fun H ρ st ps xs Q R rp h=>by
 unfold U7 at h
 split at h
 ·rename_i p;obtain ⟨v,rfl,r⟩:=Zh rp
  split at h
  ·rename_i ys e;cases p with
   | tup zs=>
    cases e;obtain ⟨a,vs,rfl,ha,na,ra⟩:=r;exact WC.of qu ⟨a,vs,rfl,.inr ⟨SqT.of ha,now R h ⟨a,vs,rfl,ha,na,ra⟩⟩⟩
   | _=>
    obtain ⟨a,vs,rfl,ha,ra⟩:=Jb R r e;exact WC.of qu ⟨a,vs,rfl,.inl ⟨.inl ha,zc R h ra⟩⟩
  ·exact h.elim
 ·exact h.elim⟩
def tyN:PV->String
 | .non => "NoneType"
 | .bl _ => "bool"
 | .int _ => "int"
 | .str _ => "str"
 | .tup _ => "tuple"
 | .lst _ => "list"
 | .fro _ => "list"
 | .ref _ => "list"
 | .dic => "dict"
def dpv (st:Q0):PV->PV
 | .ref i=>match st[i]? with
  | some (.dic _)=>.dic
  | some (.dtp _)=>.dic
  | _=>.ref i
 | p=>p
def isI (T:String) (p:PV):Bool:=tyN p == T || (T == "int" && tyN p == "bool")
def qm (st:Q0):PV->Bool
 | .ref i=>match st[i]? with
  | some (.frd _)=>true
  | some (.frt _)=>true
  | some (.obj _ _)=>true
  | _=>false
 | _=>false
theorem Qq7 (nf:qm st p=false) (R:Rel H ρ st) (r:Rep H ρ p v):TyOf K H v (.type (tyN (dpv st p))):=by
 cases p with
 | non=>cases r; exact .non
 | bl b=>cases r; exact .bl b
 | int i=>cases r; exact .int i
 | str x=>cases r; exact .str x
 | tup ps=>obtain ⟨a,vs,rfl,h,_⟩:=r; exact .tup h
 | lst ps=>obtain ⟨a,vs,rfl,h,_⟩:=r; exact .lst h
 | fro ps=>
  obtain ⟨a,vs,rfl,h,_⟩:=r;rcases h with h | ⟨o,h⟩
  ·exact .lst h
  ·exact .frz h
 | ref i=>
  obtain ⟨a,e,rfl⟩:=r;have hl:i < st.length:=by rw [<- R.len]; exact (O0.mp e).1
  have hs:=O2 hl;have q:=R.cell i a st[i] e hs;cases hc:st[i] with
  | lst xs=>rw [hc] at q hs; simp only [dpv,hs]; obtain ⟨vs,h,_⟩:=q; exact .lst h
  | dic xs=>rw [hc] at q hs; simp only [dpv,hs]; obtain ⟨vs,h,_⟩:=q; exact .dK h
  | dtp xs=>rw [hc] at q hs; simp only [dpv,hs]; obtain ⟨vs,h,_⟩:=q; exact .dT h
  | frd xs=>rw [hc] at hs; simp only [qm,hs] at nf; cases nf
  | frt xs=>rw [hc] at hs; simp only [qm,hs] at nf; cases nf
  | obj C xs=>rw [hc] at hs; simp only [qm,hs] at nf; cases nf
 | dic=>obtain ⟨a,rfl,h,_⟩:=r; exact .dK h
def Q1b:List String:=["int", "bool", "str", "tuple", "list", "dict"]
theorem Qnh (K:PySem.W.Frag) (hT:T∈Q1b) (p:PV):PySem.W.kitOne K (.type (tyN p)) (.type T)=some (isI T p):=by
 have hT:T = "int" \/ T = "bool" \/ T = "str" \/ T = "tuple" \/ T = "list" \/ T = "dict" := by simpa [Q1b] using hT
 rcases hT with rfl | rfl | rfl | rfl | rfl | rfl <;> cases p <;> first | rfl | kernel_rfl
def Q7f (T:String) (m:ME):ME:=fun Γ st=>(m Γ st).bind fun p st1=>if qm st1 p=true then .stuck else .ok (.bl (isI T (dpv st1 p))) st1
theorem Qkh {tx:Str} {p tp:Pos} (hT:T∈Q1b) (ha:SimE X E a ma) (hg:Gl X "isinstance") (hm:X.mg "isinstance" = none) (hgT:Gl X tx) (hmT:X.mg tx=none) (hvT:aW tx=some (.type T))
  (hn:tx≠"__name__" := by decide) (hd:(tx == ("__debug__" : Str))=false:=by decide)
  (he:aN [a,.Name tx tp] X.env=(false,aM a X.env) :: aN [.Name tx tp] X.env:=by rfl) (he2:aN [.Name tx tp] X.env=(false,aM (.Name tx tp) X.env) :: aN [] X.env:=by rfl) (hpl:(aX pos (aN [.Name tx tp] X.env)).any (·.1)=false:=by rfl) :
  SimE X E (.Call (.Name "isinstance" p) [a,.Name tx tp] [] pos) (Q7f T ma):=
 ⟨fun Γ σ H ρ st Q R G h=>WE.of (Q5e Q6g hg hm xq (jx Jj (jx (Qh8 hgT hmT hvT (v:=.ty T) rfl hn hd) Q3v he2) he) (by decide) (by decide) he hpl)
  (ha.use R G h.bind fun q st1 H1 ρ1 v x1 R1 G1 r1 h1=>by
   by_cases nf:qm st1 q=true
   ·rw [bN nf] at h1; exact h1.elim
   ·rw [bO nf] at h1;exact ⟨v,.ty T,.type T,_,_,rfl,rfl,Qq7 (by simpa using nf) R1 r1,Qnh X.K hT (dpv st1 q),now R1 h1 rfl⟩)⟩
end
abbrev GA:=PV->Gam->Option Gam
abbrev GAs:=List PV->Gam->Option Gam
variable {gs:GAs}
structure SimG (X:Cx) (tg:aH) (ga:GA):Prop where
 run:∀ (Γ Γ':Gam) (σ:St) (H:Hp) (ρ:Tk) (p:PV) (v:V) (Q:St->Hp->Prop),EnvR H ρ Γ σ->Rep H ρ p v->ga p Γ=some Γ'->(∀ σ',EnvR H ρ Γ' σ'->Q σ' H)->∃ t,PG X tg t/\t v σ H Q
structure SimGs (X:Cx) (tgs:List aH) (n:Nat) (ga:GAs):Prop where
 run:∀ (Γ Γ':Gam) (σ:St) (H:Hp) (ρ:Tk) (ps:List PV) (vs:List V) (Q:St->Hp->Prop),EnvR H ρ Γ σ->RepL H ρ ps vs->ga ps Γ=some Γ'->(∀ σ',EnvR H ρ Γ' σ'->Q σ' H)->∃ t,PGs X tgs t/\t vs σ H Q
 len:∀ ps Γ Γ',ga ps Γ=some Γ'->ps.length=n
def Q5 (i:Nat):GA:=fun p Γ=>some (Γ.set i (some p))
def Js:GAs:=fun ps Γ=>match ps with
 | []=>some Γ
 | _=>none
def Qf (g:GA) (gs:GAs):GAs:=fun ps Γ=>match ps with
 | p :: r=>(g p Γ).bind (gs r)
 | []=>none
def Jr (gs:GAs):GA:=fun p Γ=>match p with
 | .tup ps=>gs ps Γ
 | _=>none
section
variable {pos:Pos}
theorem Ky {i:Nat} (hN:X.N.Nodup) (hi:X.N[i]?=some x:=by rfl) (hx:Loc X.env.scope x:=by first | exact Or.inl rfl | exact Or.inr rfl) (hf:X.fn x=true\/X.env.scope.names.lookup x=some .local:=by first | exact .inl rfl | exact .inr rfl):SimG X (.Name x pos) (Q5 i):=
 ⟨fun Γ Γ' σ H ρ p v Q G r e k=>⟨_,Qh4 hN hi hx hf,by cases e; exact k _ (G.set r i)⟩⟩
theorem Qg7:SimGs X [] 0 Js:=⟨fun Γ Γ' σ H ρ ps vs Q G r e k=>⟨_,Qh2,by
 cases ps with
 | nil=>cases e; cases r; exact ⟨rfl,k σ G⟩
 | cons _ _=>cases e⟩,fun ps Γ Γ' e=>by
 cases ps with
 | nil=>rfl
 | cons _ _=>cases e⟩
def WGx (X:Cx) (tg:aH):TG:=fun v σ H Q=>∃ t,PG X tg t/\t v σ H Q
theorem Qh3 {tg:aH}:PG X tg (WGx X tg):=fun pins s σ H v u Q I r ⟨t,h,q⟩=>h pins s σ H v u Q I r q
def Qvc (X:Cx) (tgs:List aH):TGs:=fun v σ H Q=>∃ t,PGs X tgs t/\t v σ H Q
theorem Qj0 {tgs:List aH}:PGs X tgs (Qvc X tgs):=fun pins s σ H v u Q I r ⟨t,h,q⟩=>h pins s σ H v u Q I r q
theorem Qbz {g:GA} (h1:SimG X e g) (h2:SimGs X es n gs) (hs:(ar (e :: es) X.env).map (·.2)=assign e X.env :: (ar es X.env).map (·.2):=by rfl):SimGs X (e :: es) (n + 1) (Qf g gs):=
 ⟨fun Γ Γ' σ H ρ ps vs Q G r eq k=>⟨_,Qcv Qh3 Qj0 hs,by
  cases ps with
  | nil=>cases eq
  | cons p ps=>
   obtain ⟨v,t,rfl,r1,r2⟩:=r;have eq:(g p Γ).bind (gs ps)=some Γ':=eq;cases e1:g p Γ with
   | none=>rw [e1] at eq; cases eq
   | some Γ1=>
    rw [e1] at eq;exact ⟨v,t,rfl,h1.run Γ Γ1 σ H ρ p v _ G r1 e1 fun σ1 G1=>h2.run Γ1 Γ' σ1 H ρ ps t _ G1 r2 eq k⟩⟩,fun ps Γ Γ' e=>by
  cases ps with
  | nil=>cases e
  | cons p ps=>
   have e:(g p Γ).bind (gs ps)=some Γ':=e;cases e1:g p Γ with
   | none=>rw [e1] at e; cases e
   | some Γ1=>rw [e1] at e; rw [E7,h2.len ps Γ1 Γ' e]⟩
theorem Qk9 (hc:X.calm=true) (h:SimGs X es n gs) (hn:(ar es X.env).length=n:=by rfl) (hst:(ar es X.env).findIdx? (·.1)=none:=by rfl):SimG X (.Tuple es k pos) (Jr gs):=
 ⟨fun Γ Γ' σ H ρ p v Q G r e q=>⟨_,Qm7 hc Qj0 hn hst,by
  cases p with
  | tup ps=>
   obtain ⟨a,vs,rfl,ha,na,ra⟩:=r;exact ⟨a,vs,rfl,SqT.of ha,by rw [<- ra.length]; exact h.len ps Γ Γ' e,h.run Γ Γ' σ H ρ ps vs Q G ra e q⟩
  | _=>cases e⟩⟩
end
abbrev Wt:=List (Nat × Cell)
def wOk (w:Wt) (st:Q0):Prop:=∀ x∈w,st[x.1]?=some x.2
theorem Qv (st:Q0):wOk [] st:=fun x h=>by cases h
structure Src (J:It) (items:List PV) (w:Wt) (H:Hp) (ρ:Tk):Prop where
 stop:∀ H2 ρ2 st2,Ext H ρ H2 ρ2->Rel H2 ρ2 st2->wOk w st2->J.stop items.length H2
 go:∀ H2 ρ2 st2,Ext H ρ H2 ρ2->Rel H2 ρ2 st2->wOk w st2->∀ i,i < items.length->J.go i H2
 yld:∀ H2 ρ2 st2,Ext H ρ H2 ρ2->Rel H2 ρ2 st2->wOk w st2->∀ i p,items[i]?=some p->∀ x H3,J.yld i H2 x H3->Same H2 H3/\Rep H3 ρ2 p x
abbrev MI:=Gam->Q0->Res (List PV × Wt)
structure SimI (X:Cx) (E:XK) (tg iter:aH) (mi:MI):Prop where
 run:∀ (Γ:Gam) (σ:St) (H:Hp) (ρ:Tk) (st:Q0) (P:List PV × Wt->Q0->Hp->Tk->Prop) (R':It->Hp->Prop),Rel H ρ st->EnvR H ρ Γ σ->Acc X.mg E H ρ P (mi Γ st) ->
  (∀ iw st1 H1 ρ1 J,mi Γ st=.ok iw st1->Ext H ρ H1 ρ1->Rel H1 ρ1 st1->EnvR H1 ρ1 Γ σ->wOk iw.2 st1->iw.1.length<=sizeLine->Src J iw.1 iw.2 H1 ρ1->P iw st1 H1 ρ1->R' J H1)->WI X tg iter σ H R'
def Zv (st:Q0):PV->Option (List PV × Wt)
 | .tup xs=>some (xs,[])
 | .lst xs=>some (xs,[])
 | .fro xs=>some (xs,[])
 | .ref i=>match st[i]? with
  | some (.lst xs)=>some (xs,[(i,.lst xs)])
  | _=>none
 | _=>none
theorem Q0n {K:PySem.W.Frag} {w:Wt} (R:Rel H ρ st) (r:Rep H ρ p v) (e:Zv st p=some (xs,w)) :
  wOk w st/\∃ (t:Bool) (a:aB),v=.ref a/\(t=true->∃ ys,p=.tup ys)/\(t=false->∀ ys,p≠.tup ys)/\∀ H2 ρ2 st2,Ext H ρ H2 ρ2->Rel H2 ρ2 st2->wOk w st2->∃ vs,SqK K t H2 a vs/\RepL H2 ρ2 xs vs:=by
 cases p with
 | tup ys=>
  obtain ⟨a,vs,rfl,ha,na,ra⟩:=r;cases e;exact ⟨Qv _,true,a,rfl,fun _=>⟨_,rfl⟩,(fun z=>by cases z),fun H2 ρ2 st2 x R2 _=>⟨vs,show SqT K H2 a vs from SqT.of (x.kp ha na),ra.ext x⟩⟩
 | lst ys=>
  obtain ⟨a,vs,rfl,ha,na,ra⟩:=r;cases e;exact ⟨Qv _,false,a,rfl,(fun z=>by cases z),(fun _ _ z=>by cases z),fun H2 ρ2 st2 x R2 _=>⟨vs,show SqL K H2 a vs from SqL.of (x.kp ha na),ra.ext x⟩⟩
 | fro ys=>
  obtain ⟨a,vs,rfl,ha,na,ra⟩:=r;cases e;refine ⟨Qv _,false,a,rfl,(fun z=>by cases z),(fun _ _ z=>by cases z),fun H2 ρ2 st2 x R2 _=>⟨vs,show SqL K H2 a vs from ?_,ra.ext x⟩⟩
  rcases ha with ha | ⟨o,ha⟩
  ·exact .inl (.inl (x.kp ha na))
  ·exact .inl (.inr ⟨o,x.kp ha na⟩)
 | ref i=>
  obtain ⟨a,ea,rfl⟩:=r;simp only [Zv] at e
  split at e
  ·rename_i ys hs;cases e;refine ⟨fun x hx=>?_,false,a,rfl,(fun z=>by cases z),(fun _ _ z=>by cases z),fun H2 ρ2 st2 x R2 ok=>?_⟩
   ·have:x=(i,.lst xs):=by simpa using hx
    subst this; exact hs
   ·have hs2:=ok (i,.lst xs) (by simp);obtain ⟨b,vs,f1,f2,f3⟩:=R2.lst hs2;obtain ⟨t,et⟩:=x.pre;rw [<- et,O5 (O0.mp ea).1,ea] at f1;cases f1;exact ⟨vs,show SqL K H2 a vs from SqL.of f2,f3⟩
  ·cases e
 | _=>cases e
section
variable {X:Cx} {E:XK} {pos:Pos} {tg:aH} {e:aH} {m:ME}
def Wj (m:ME):MI:=fun Γ st=>(m Γ st).bind fun p st1=>match Zv st1 p with
 | some (xs,w)=>if xs.length<=lim then .ok (xs,w) st1 else .stuck
 | none=>.stuck
theorem RepL.i {H:Hp} {ρ:Tk} {ps:List PV} {vs:List V} {i:Nat} {p:PV} {x:V} (r:RepL H ρ ps vs) (h:ps[i]?=some p) (h':vs[i]?=some x):Rep H ρ p x:=by
 obtain ⟨v,e,q⟩:=r.get h;rw [h'] at e; cases e;exact q
theorem Q8d {t:Bool} {a:aB} {w:Wt} (h:∀ H2 ρ2 st2,Ext H ρ H2 ρ2->Rel H2 ρ2 st2->wOk w st2->∃ vs,SqK K t H2 a vs/\RepL H2 ρ2 xs vs):Src (if t=true then Itt K a else Itl K a) xs w H ρ:=by
 cases t with
 | true=>
  rw [bN rfl];refine ⟨fun H2 ρ2 st2 x R ok=>?_,fun H2 ρ2 st2 x R ok i hi=>?_,fun H2 ρ2 st2 x R ok i p hp y H3 hy=>?_⟩
  ·obtain ⟨vs,s,r⟩:=h H2 ρ2 st2 x R ok;exact ⟨vs,s,by rw [r.length]; exact O8 _⟩
  ·obtain ⟨vs,s,r⟩:=h H2 ρ2 st2 x R ok;have hi':i < vs.length:=by rw [<- r.length]; exact hi
   exact ⟨vs,vs[i],s,O2 hi'⟩
  ·obtain ⟨vs,s,r⟩:=h H2 ρ2 st2 x R ok;obtain ⟨rfl,hv⟩:=hy;exact ⟨Same.refl _,r.i hp (hv vs s)⟩
 | false=>
  rw [bO F0];refine ⟨fun H2 ρ2 st2 x R ok=>?_,fun H2 ρ2 st2 x R ok i hi=>?_,fun H2 ρ2 st2 x R ok i p hp y H3 hy=>?_⟩
  ·obtain ⟨vs,s,r⟩:=h H2 ρ2 st2 x R ok;exact ⟨vs,s,by rw [r.length]; exact O8 _⟩
  ·obtain ⟨vs,s,r⟩:=h H2 ρ2 st2 x R ok;have hi':i < vs.length:=by rw [<- r.length]; exact hi
   exact ⟨vs,vs[i],s,O2 hi'⟩
  ·obtain ⟨vs,s,r⟩:=h H2 ρ2 st2 x R ok;obtain ⟨rfl,hv⟩:=hy;exact ⟨Same.refl _,r.i hp (hv vs s)⟩
theorem Q8u {P:List PV × Wt->Q0->Hp->Tk->Prop} (R:Rel H ρ st) (h:Acc mg E H ρ P (match Zv st p with | some (xs,w)=>if xs.length<=lim then .ok (xs,w) st else .stuck | none=>.stuck)) :
  ∃ xs w,Zv st p=some (xs,w)/\xs.length<=lim/\P (xs,w) st H ρ:=by
 split at h
 ·rename_i xs w e
  split at h
  ·rename_i hl;exact ⟨xs,w,e,hl,h H ρ (Ext.refl _ _) R⟩
  ·exact h.elim
 ·exact h.elim
theorem Q0q (ha:SimE X E e m):SimI X E tg e (Wj m):=⟨fun Γ σ H ρ st P R' R G h k=>by
 have hb:Acc X.mg E H ρ _ (m Γ st):=Acc.bind h
 by_cases ht:∃ ys st1,m Γ st=.ok (.tup ys) st1
 ·obtain ⟨ys,st0,e0⟩:=ht;refine WI.of (Qm6 Jj) (ha.use' R G hb fun p st1 H1 ρ1 v eq x1 R1 G1 r1 h1=>?_);obtain ⟨xs,w,e,hl,hP⟩:=Q8u R1 h1;obtain ⟨ok,t,a,rfl,t1,t2,sq⟩:=Q0n (K:=X.K) R1 r1 e;have ep:p=.tup ys:=by rw [eq] at e0; injection e0
  cases t with
  | false=>exact absurd ep (t2 rfl ys)
  | true=>
   obtain ⟨vs,s,_⟩:=sq H1 ρ1 st1 (Ext.refl _ _) R1 ok;exact ⟨a,rfl,⟨vs,s⟩,k (xs,w) st1 H1 ρ1 _ (by simp only [Wj,eq,Res.bind,e,bN hl]) x1 R1 G1 ok (W0 hl) (Q8d sq) hP⟩
 ·refine WI.of (Qh0 Jj) (ha.use' R G hb fun p st1 H1 ρ1 v eq x1 R1 G1 r1 h1=>?_);obtain ⟨xs,w,e,hl,hP⟩:=Q8u R1 h1;obtain ⟨ok,t,a,rfl,t1,t2,sq⟩:=Q0n (K:=X.K) R1 r1 e;cases t with
  | true=>
   obtain ⟨ys,rfl⟩:=t1 rfl;exact absurd ⟨ys,st1,eq⟩ ht
  | false=>
   obtain ⟨vs,s,_⟩:=sq H1 ρ1 st1 (Ext.refl _ _) R1 ok;exact ⟨a,rfl,⟨vs,s⟩,k (xs,w) st1 H1 ρ1 _ (by simp only [Wj,eq,Res.bind,e,bN hl]) x1 R1 G1 ok (W0 hl) (Q8d sq) hP⟩⟩
def Jc (lo:Int) (n:Nat):List PV:=(List.range n).map fun (k:Nat)=>PV.int (lo + (k:Int))
theorem Q2g {lo:Int} :Src (Itr lo n) (Jc lo n) [] H ρ:=by
 have hl:(Jc lo n).length=n:=by unfold Jc; rw [O1,E5]
 refine ⟨fun H2 ρ2 st2 x R ok=>?_,fun H2 ρ2 st2 x R ok i hi=>?_,fun H2 ρ2 st2 x R ok i p hp y H3 hy=>?_⟩
 ·show n<=(Jc lo n).length;omega
 ·show i < n;omega
 ·obtain ⟨rfl,rfl⟩:=hy;have hi:i < n:=by rw [<- hl]; exact (O0.mp hp).1
  unfold Jc at hp;rw [E8,List.getElem?_range hi] at hp;cases hp;exact ⟨Same.refl _,rfl⟩
def Ja (mr:Gam->Q0->Res (List PV)):MI:=fun Γ st=>(mr Γ st).bind fun ps st1=>match ps with
 | [.int j]=>if -(lim:Int)<=j/\j<=lim then .ok (Jc 0 j.toNat,[]) st1 else .stuck
 | _=>.stuck
def Xp (mr:Gam->Q0->Res (List PV)):MI:=fun Γ st=>(mr Γ st).bind fun ps st1=>match ps with
 | [.int i,.int j]=>if -(lim:Int)<=i/\i<=lim/\-(lim:Int)<=j/\j<=lim then .ok (Jc i (j - i).toNat,[]) st1 else .stuck
 | _=>.stuck
variable {a b:aH} {mr:Gam->Q0->Res (List PV)} {p:Pos}
theorem Q0t (lo:Int) (n:Nat):(Jc lo n).length=n:=by unfold Jc; rw [O1,E5]
theorem Q9u (hg:Gl X "range") (hm:X.mg "range" = none) (ha:SimA X E [a] mr) (hs:aN [a] X.env=[(false,aM a X.env)]:=by rfl):SimI X E tg (.Call (.Name "range" p) [a] [] pos) (Ja mr):=⟨fun Γ σ H ρ st P R' R G h k=>by
 refine WI.of (Qa5 hg hm xg hs) (ha.use' R G h.bind fun ps st1 H1 ρ1 vs eq x1 R1 G1 r1 h1=>?_)
 split at h1
 ·rename_i j
  split at h1
  ·rename_i hj;obtain ⟨v,rfl,rv⟩:=Zh r1;cases rv;have hl:(lim:Int)=1000000:=rfl;refine ⟨j,rfl,by omega,by omega,k (Jc 0 j.toNat,[]) st1 H1 ρ1 _ (by simp only [Ja,eq,Res.bind,bN hj]) x1 R1 G1 (Qv _) ?_ Q2g (h1 H1 ρ1 (Ext.refl _ _) R1)⟩;show (Jc 0 j.toNat).length<=sizeLine;rw [Q0t];exact W0 (by omega)
  ·exact h1.elim
 ·exact h1.elim⟩
theorem Q9t (hg:Gl X "range") (hm:X.mg "range" = none) (ha:SimA X E [a,b] mr) (hs:aN [a,b] X.env=[(false,aM a X.env),(false,aM b X.env)]:=by rfl) (hs2:aN [b] X.env=[(false,aM b X.env)]:=by rfl):SimI X E tg (.Call (.Name "range" p) [a,b] [] pos) (Xp mr):=⟨fun Γ σ H ρ st P R' R G h k=>by
 refine WI.of (Qa4 hg hm xg hs hs2) (ha.use' R G h.bind fun ps st1 H1 ρ1 vs eq x1 R1 G1 r1 h1=>?_)
 split at h1
 ·rename_i i j
  split at h1
  ·rename_i hj;obtain ⟨v,u,rfl,rv,ru⟩:=js r1;cases rv; cases ru;have hl:(lim:Int)=1000000:=rfl;refine ⟨i,j,rfl,⟨by omega,by omega,by omega,by omega⟩,k (Jc i (j - i).toNat,[]) st1 H1 ρ1 _ (by simp only [Xp,eq,Res.bind,bN hj]) x1 R1 G1 (Qv _) ?_ Q2g (h1 H1 ρ1 (Ext.refl _ _) R1)⟩;show (Jc i (j - i).toNat).length<=sizeLine;rw [Q0t];exact F6 (show (j - i).toNat<=2000000 by omega) (by decide)
  ·exact h1.elim
 ·exact h1.elim⟩
def Xa:List PV->List PV->List PV
 | x :: xs,y :: ys=>.tup [x,y] :: Xa xs ys
 | _,_=>[]
theorem jg (xs ys:List PV):Xa xs ys=(xs.zip ys).map fun z=>.tup [z.1,z.2]:=by
 induction xs generalizing ys with
 | nil=>rfl
 | cons x xs ih=>
  cases ys with
  | nil=>rfl
  | cons y ys=>rw [Xa,ih]; rfl
theorem Q0c (xs ys:List PV):(Xa xs ys).length=min xs.length ys.length:=by rw [jg,O1,List.length_zip]
theorem Qbb {ys:List PV} {i:Nat} {p:PV} (h:(Xa xs ys)[i]?=some p):∃ x y,p=.tup [x,y]/\xs[i]?=some x/\ys[i]?=some y:=by
 rw [jg,E8] at h;cases e:(xs.zip ys)[i]? with
 | none=>rw [e] at h; cases h
 | some z=>
  rw [e] at h; cases h;rw [List.getElem?_zip_eq_some] at e;exact ⟨z.1,z.2,rfl,e.1,e.2⟩
def Q2a (mr:Gam->Q0->Res (List PV)):MI:=fun Γ st=>(mr Γ st).bind fun ps st1=>match ps with
 | [p,q]=>match Zv st1 p,Zv st1 q with
  | some (xs,w),some (ys,w')=>if xs.length<=lim then .ok (Xa xs ys,w ++ w') st1 else .stuck
  | _,_=>.stuck
 | _=>.stuck
theorem Kw {w w':Wt} (h:wOk (w ++ w') st):wOk w st/\wOk w' st:=⟨fun x hx=>h x (L5 _ hx),fun x hx=>h x (F7 _ hx)⟩
theorem Qg0 {t1 t2:Bool} {a b:aB} {ys:List PV} {w w':Wt} (h:∀ H2 ρ2 st2,Ext H ρ H2 ρ2->Rel H2 ρ2 st2->wOk w st2->∃ vs,SqK K t1 H2 a vs/\RepL H2 ρ2 xs vs)
  (h':∀ H2 ρ2 st2,Ext H ρ H2 ρ2->Rel H2 ρ2 st2->wOk w' st2->∃ vs,SqK K t2 H2 b vs/\RepL H2 ρ2 ys vs):Src (Itz K t1 t2 a b) (Xa xs ys) (w ++ w') H ρ:=by
 refine ⟨fun H2 ρ2 st2 x R ok=>?_,fun H2 ρ2 st2 x R ok i hi=>?_,fun H2 ρ2 st2 x R ok i p hp y H3 hy=>?_⟩
 ·obtain ⟨vs,s,r⟩:=h H2 ρ2 st2 x R (Kw ok).1;obtain ⟨us,s',r'⟩:=h' H2 ρ2 st2 x R (Kw ok).2;refine ⟨vs,us,s,s',?_⟩;rw [Q0c,<- r.length,<- r'.length];omega
 ·obtain ⟨vs,s,r⟩:=h H2 ρ2 st2 x R (Kw ok).1;obtain ⟨us,s',r'⟩:=h' H2 ρ2 st2 x R (Kw ok).2;rw [Q0c,r.length,r'.length] at hi;have h1:i < vs.length:=by omega
  have h2:i < us.length:=by omega
  exact ⟨vs,us,vs[i],us[i],s,s',O2 h1,O2 h2⟩
 ·obtain ⟨vs,s,r⟩:=h H2 ρ2 st2 x R (Kw ok).1;obtain ⟨us,s',r'⟩:=h' H2 ρ2 st2 x R (Kw ok).2;obtain ⟨q,u,v,hn,rfl,rfl,hv⟩:=hy;obtain ⟨e1,e2⟩:=hv vs us s s';obtain ⟨xp,yp,rfl,p1,p2⟩:=Qbb hp;have sm:Same H2 (upd H2 q (.tup [u,v])):=Q54 hn;exact ⟨sm,q,[u,v],rfl,Qu,R.fresh hn,RepL.cons ((r.i p1 e1).ext (Ext.same sm)) (RepL.cons ((r'.i p2 e2).ext (Ext.same sm)) RepL.nil)⟩
theorem Qk8 {elts:List aH} {kt:Nat} {tp:Pos} (hg:Gl X "zip") (hm:X.mg "zip" = none) (ha:SimA X E [a,b] mr) (hs:aN [a,b] X.env=[(false,aM a X.env),(false,aM b X.env)]:=by rfl) (hs2:aN [b] X.env=[(false,aM b X.env)]:=by rfl) :
  SimI X E (.Tuple elts kt tp) (.Call (.Name "zip" p) [a,b] [] pos) (Q2a mr):=⟨fun Γ σ H ρ st P R' R G h k=>by
 have hb:Acc X.mg E H ρ _ (mr Γ st):=Acc.bind h;have main:∀ t1 t2:Bool,(∀ p q st1,mr Γ st=.ok [p,q] st1->(t1=true <-> ∃ ys,p=.tup ys)/\(t2=true <-> ∃ ys,q=.tup ys))->WI X (.Tuple elts kt tp) (.Call (.Name "zip" p) [a,b] [] pos) σ H R':=fun t1 t2 ht=>by
  refine WI.of (Qm5 t1 t2 hg hm xg hs hs2) (ha.use' R G hb fun ps st1 H1 ρ1 vs eq x1 R1 G1 r1 h1=>?_)
  split at h1
  ·rename_i p' q'
   split at h1
   ·rename_i xs w ys w' e1 e2
    split at h1
    ·rename_i hl;obtain ⟨v,u,rfl,rv,ru⟩:=js r1;obtain ⟨ok1,b1,a1,rfl,z1,z1',sq1⟩:=Q0n (K:=X.K) R1 rv e1;obtain ⟨ok2,b2,a2,rfl,z2,z2',sq2⟩:=Q0n (K:=X.K) R1 ru e2;obtain ⟨g1,g2⟩:=ht _ _ _ eq;have eb1:b1=t1:=by
      cases b1 with
      | true=>exact (g1.mpr (z1 rfl)).symm
      | false=>
       cases t1 with
       | false=>rfl
       | true=>obtain ⟨ys,e⟩:=g1.mp rfl; exact absurd e (z1' rfl ys)
     have eb2:b2=t2:=by
      cases b2 with
      | true=>exact (g2.mpr (z2 rfl)).symm
      | false=>
       cases t2 with
       | false=>rfl
       | true=>obtain ⟨ys,e⟩:=g2.mp rfl; exact absurd e (z2' rfl ys)
     subst eb1; subst eb2;obtain ⟨vs1,s1,_⟩:=sq1 H1 ρ1 st1 (Ext.refl _ _) R1 ok1;obtain ⟨vs2,s2,_⟩:=sq2 H1 ρ1 st1 (Ext.refl _ _) R1 ok2;refine ⟨a1,a2,vs1,vs2,rfl,s1,s2,k (Xa xs ys,w ++ w') st1 H1 ρ1 _ (by simp only [Q2a,eq,Res.bind,e1,e2,bN hl]) x1 R1 G1 (fun x hx=>?_) ?_ (Qg0 sq1 sq2) (h1 H1 ρ1 (Ext.refl _ _) R1)⟩
     ·rcases D0.mp hx with hx | hx
      ·exact ok1 x hx
      ·exact ok2 x hx
     ·show (Xa xs ys).length<=sizeLine;rw [Q0c];exact W0 (F6 (Nat.min_le_left _ _) hl)
    ·exact h1.elim
   ·exact h1.elim
  ·exact h1.elim
 have tt:∀ p:PV,∃ t:Bool,t=true <-> ∃ ys,p=.tup ys:=fun p=>by
  cases p with
  | tup ys=>exact ⟨true,fun _=>⟨ys,rfl⟩,fun _=>rfl⟩
  | _=>exact ⟨false,⟨fun z=>(by cases z),fun ⟨_,z⟩=>(by cases z)⟩⟩
 by_cases hz:∃ p q st1,mr Γ st=.ok [p,q] st1
 ·obtain ⟨p0,q0,st0,e0⟩:=hz;obtain ⟨t1,g1⟩:=tt p0;obtain ⟨t2,g2⟩:=tt q0;refine main t1 t2 fun p q st1 e=>?_
  rw [e0] at e; cases e;exact ⟨g1,g2⟩
 ·exact main true true fun p q st1 e=>absurd ⟨p,q,st1,e⟩ hz⟩
def Wm:Nat->List PV->List PV
 | _,[]=>[]
 | n,x :: xs=>.tup [.int n,x] :: Wm (n + 1) xs
theorem Vt:∀ (n:Nat) (xs:List PV),(Wm n xs).length=xs.length
 | _,[]=>rfl
 | n,x :: xs=>by rw [Wm,E7,Vt (n + 1) xs,E7]
theorem yn:∀ {n:Nat} {xs:List PV} {i:Nat} {p:PV},(Wm n xs)[i]?=some p->∃ x,p=.tup [.int (n + i:Nat),x]/\xs[i]?=some x
 | n,[],i,p,h=>by simp [Wm] at h
 | n,x :: xs,0,p,h=>by
  simp [Wm] at h;exact ⟨x,h.symm,rfl⟩
 | n,x :: xs,i + 1,p,h=>by
  rw [Wm,List.getElem?_cons_succ] at h;obtain ⟨y,e1,e2⟩:=yn h;exact ⟨y,by rw [e1,show n + 1 + i=n + (i + 1) by omega],by simpa using e2⟩
def qr (mr:Gam->Q0->Res (List PV)):MI:=fun Γ st=>(mr Γ st).bind fun ps st1=>match ps with
 | [p]=>match Zv st1 p with
  | some (xs,w)=>if xs.length<=lim then .ok (Wm 0 xs,w) st1 else .stuck
  | none=>.stuck
 | _=>.stuck
theorem Qbx {t:Bool} {a:aB} {w:Wt} (h:∀ H2 ρ2 st2,Ext H ρ H2 ρ2->Rel H2 ρ2 st2->wOk w st2->∃ vs,SqK K t H2 a vs/\RepL H2 ρ2 xs vs):Src (Ite K t a) (Wm 0 xs) w H ρ:=by
 refine ⟨fun H2 ρ2 st2 x R ok=>?_,fun H2 ρ2 st2 x R ok i hi=>?_,fun H2 ρ2 st2 x R ok i p hp y H3 hy=>?_⟩
 ·obtain ⟨vs,s,r⟩:=h H2 ρ2 st2 x R ok;exact ⟨vs,s,by rw [Vt,r.length]; exact O8 _⟩
 ·obtain ⟨vs,s,r⟩:=h H2 ρ2 st2 x R ok;rw [Vt,r.length] at hi;exact ⟨vs,vs[i],s,O2 hi⟩
 ·obtain ⟨vs,s,r⟩:=h H2 ρ2 st2 x R ok;obtain ⟨q,u,hn,rfl,rfl,hv⟩:=hy;have e1:=hv vs s;obtain ⟨xp,rfl,p1⟩:=yn hp;have sm:Same H2 (upd H2 q (.tup [.int i,u])):=Q54 hn;exact ⟨sm,q,[.int i,u],rfl,Qu,R.fresh hn,RepL.cons (by rw [Nat.zero_add]; rfl) (RepL.cons ((r.i p1 e1).ext (Ext.same sm)) RepL.nil)⟩
theorem Qg6 {elts:List aH} {kt:Nat} {tp:Pos} (hg:Gl X "enumerate") (hm:X.mg "enumerate" = none) (ha:SimA X E [a] mr) (hs:aN [a] X.env=[(false,aM a X.env)]:=by rfl) :
  SimI X E (.Tuple elts kt tp) (.Call (.Name "enumerate" p) [a] [] pos) (qr mr):=⟨fun Γ σ H ρ st P R' R G h k=>by
 have hb:Acc X.mg E H ρ _ (mr Γ st):=Acc.bind h;have main:∀ t1:Bool,(∀ p st1,mr Γ st=.ok [p] st1->(t1=true <-> ∃ ys,p=.tup ys))->WI X (.Tuple elts kt tp) (.Call (.Name "enumerate" p) [a] [] pos) σ H R':=fun t1 ht=>by
  refine WI.of (Qh1 t1 hg hm xg hs) (ha.use' R G hb fun ps st1 H1 ρ1 vs eq x1 R1 G1 r1 h1=>?_)
  split at h1
  ·rename_i p'
   split at h1
   ·rename_i xs w e1
    split at h1
    ·rename_i hl;obtain ⟨v,rfl,rv⟩:=Zh r1;obtain ⟨ok1,b1,a1,rfl,z1,z1',sq1⟩:=Q0n (K:=X.K) R1 rv e1;have g1:=ht _ _ eq;have eb1:b1=t1:=by
      cases b1 with
      | true=>exact (g1.mpr (z1 rfl)).symm
      | false=>
       cases t1 with
       | false=>rfl
       | true=>obtain ⟨ys,e⟩:=g1.mp rfl; exact absurd e (z1' rfl ys)
     subst eb1;obtain ⟨vs1,s1,_⟩:=sq1 H1 ρ1 st1 (Ext.refl _ _) R1 ok1;refine ⟨a1,vs1,rfl,s1,k (Wm 0 xs,w) st1 H1 ρ1 _ (by simp only [qr,eq,Res.bind,e1,bN hl]) x1 R1 G1 ok1 ?_ (Qbx sq1) (h1 H1 ρ1 (Ext.refl _ _) R1)⟩;show (Wm 0 xs).length<=sizeLine;rw [Vt];exact W0 hl
    ·exact h1.elim
   ·exact h1.elim
  ·exact h1.elim
 have tt:∀ p:PV,∃ t:Bool,t=true <-> ∃ ys,p=.tup ys:=fun p=>by
  cases p with
  | tup ys=>exact ⟨true,fun _=>⟨ys,rfl⟩,fun _=>rfl⟩
  | _=>exact ⟨false,⟨fun z=>(by cases z),fun ⟨_,z⟩=>(by cases z)⟩⟩
 by_cases hz:∃ p st1,mr Γ st=.ok [p] st1
 ·obtain ⟨p0,st0,e0⟩:=hz;obtain ⟨t1,g1⟩:=tt p0;refine main t1 fun p st1 e=>?_
  rw [e0] at e; cases e;exact g1
 ·exact main true fun p st1 e=>absurd ⟨p,st1,e⟩ hz⟩
end
section
abbrev ML:=Gam->Q0->Res (List PV)
structure SimN (X:Cx) (E:XK) (e:aH) (m:ML):Prop where
 run:∀ (Γ:Gam) (σ:St) (H:Hp) (ρ:Tk) (st:Q0) (P:List PV->Q0->Hp->Tk->Prop) (Q:VK),Rel H ρ st->EnvR H ρ Γ σ->Acc X.mg E H ρ P (m Γ st) ->
  (∀ ps st1 H1 ρ1 a vs,m Γ st=.ok ps st1->Ext H ρ H1 ρ1->Rel H1 ρ1 st1->a∈ρ1.hid->H a=none->H1 a=some (.lst vs)->RepL H1 ρ1 ps vs->Q (.ref a) H1)->WE X e σ H Q
def Ub (m:ML):ME:=fun Γ st=>(m Γ st).bind fun ps st1=>.ok (.lst ps) st1
def Yp (m:ML):ME:=fun Γ st=>(m Γ st).bind fun ps st1=>.ok (.ref st1.length) (st1 ++ [.lst ps])
section
variable {H0 H:Hp} {ρ0 ρ:Tk} {st:Q0} {a:aB} {ps:List PV} {vs:List V}
theorem Q8r (R0:Rel H0 ρ0 st) (x:Ext H0 ρ0 H ρ) {st1:Q0} (R:Rel H ρ st1) (hm:a∈ρ.hid) (hn:H0 a=none) (ha:H a=some (.lst vs)) (r:RepL H ρ ps vs) :
  Ext H0 ρ0 H ⟨ρ.tr,ρ0.hid⟩/\Rel H ⟨ρ.tr,ρ0.hid⟩ st1/\Rep H ⟨ρ.tr,ρ0.hid⟩ (.lst ps) (.ref a):=
 ⟨x.unhide,R.unhide x.hidM,a,vs,rfl,ha,(fun z=>by
  rcases z with z | z
  ·exact R.ap a hm z
  ·obtain ⟨o,e,_⟩:=R0.hd a z;rw [hn] at e; cases e),r.unhide x.hidM⟩
mutual
theorem Rep.trk {b:aB} {hs:List aB} (hb:b∈ρ.hid) (hh:∀ c,c∈hs->c∈ρ.hid):∀ {p:PV} {v:V},Rep H ρ p v->Rep H ⟨ρ.tr ++ [b],hs⟩ p v
 | .non,_,r=>r
 | .bl _,_,r=>r
 | .int _,_,r=>r
 | .str _,_,r=>r
 | .tup ps,v,⟨c,vs,e,s,n,r⟩=>⟨c,vs,e,s,fun z=>by
   rcases z with z | z
   ·rcases D0.mp z with z | z
    ·exact n (.inl z)
    ·have:c=b:=by simpa using z
     subst this; exact n (.inr hb)
   ·exact n (.inr (hh _ z)),RepL.trk hb hh r⟩
 | .lst ps,v,⟨c,vs,e,s,n,r⟩=>⟨c,vs,e,s,fun z=>by
   rcases z with z | z
   ·rcases D0.mp z with z | z
    ·exact n (.inl z)
    ·have:c=b:=by simpa using z
     subst this; exact n (.inr hb)
   ·exact n (.inr (hh _ z)),RepL.trk hb hh r⟩
 | .fro ps,v,⟨c,vs,e,s,n,r⟩=>⟨c,vs,e,s,fun z=>by
   rcases z with z | z
   ·rcases D0.mp z with z | z
    ·exact n (.inl z)
    ·have:c=b:=by simpa using z
     subst this; exact n (.inr hb)
   ·exact n (.inr (hh _ z)),RepL.trk hb hh r⟩
 | .ref i,v,⟨c,e,e2⟩=>⟨c,by show (ρ.tr ++ [b])[i]?=some c; rw [O5 (O0.mp e).1]; exact e,e2⟩
 | .dic,v,⟨c,e,s,n⟩=>⟨c,e,s,fun z=>by
   rcases z with z | z
   ·rcases D0.mp z with z | z
    ·exact n (.inl z)
    ·have:c=b:=by simpa using z
     subst this; exact n (.inr hb)
   ·exact n (.inr (hh _ z))⟩
theorem RepL.trk {b:aB} {hs:List aB} (hb:b∈ρ.hid) (hh:∀ c,c∈hs->c∈ρ.hid):∀ {ps:List PV} {vs:List V},RepL H ρ ps vs->RepL H ⟨ρ.tr ++ [b],hs⟩ ps vs
 | [],_,r=>r
 | p :: ps,_,⟨v,t,e,r1,r2⟩=>⟨v,t,e,Rep.trk hb hh r1,RepL.trk hb hh r2⟩
end
theorem Q8s (R0:Rel H0 ρ0 st) (x:Ext H0 ρ0 H ρ) {st1:Q0} (R:Rel H ρ st1) (hm:a∈ρ.hid) (hn:H0 a=none) (ha:H a=some (.lst vs)) (r:RepL H ρ ps vs) :
  Ext H0 ρ0 H ⟨ρ.tr ++ [a],ρ0.hid⟩/\Rel H ⟨ρ.tr ++ [a],ρ0.hid⟩ (st1 ++ [.lst ps])/\Rep H ⟨ρ.tr ++ [a],ρ0.hid⟩ (.ref st1.length) (.ref a):=by
 have na0:a∉ρ0.hid:=fun z=>by
  obtain ⟨o,e,_⟩:=R0.hd a z;rw [hn] at e; cases e
 refine ⟨⟨x.pre.trans (List.prefix_append _ _),fun _ h=>h,fun _ h=>.inl h,x.keep,fun b hb=>?_,x.old,x.frz⟩,⟨?_,?_,fun b hb=>R.hd b (x.hidM b hb),fun b hb z=>?_,fun i b c h1 h2=>?_⟩,a,?_,rfl⟩
 ·rcases D0.mp hb with z | z
  ·exact x.new b z
  ·have:b=a:=by simpa using z
   subst this; exact .inr hn
 ·show (ρ.tr ++ [a]).length=_;rw [O4,O4,R.len]; rfl
 ·show (ρ.tr ++ [a]).Nodup;refine List.nodup_append.mpr ⟨R.nd,by simp,fun b hb c hc e=>?_⟩;have:c=a:=by simpa using hc
  subst this; subst e;exact R.ap b hm hb
 ·rcases D0.mp z with z | z
  ·exact R.ap b (x.hidM b hb) z
  ·have:b=a:=by simpa using z
   subst this; exact na0 hb
 ·have h1:(ρ.tr ++ [a])[i]?=some b:=h1
  by_cases hi:i < st1.length
  ·rw [O5 (by rw [R.len]; exact hi)] at h1;rw [O5 hi] at h2;have q:=R.cell i b c h1 h2;cases c with
   | lst qs=>
    obtain ⟨us,e1,e2⟩:=q;exact ⟨us,e1,e2.trk hm x.hidM⟩
   | dic qs=>
    obtain ⟨us,e1,e2⟩:=q;exact ⟨us,e1,e2.1,e2.2.trk hm x.hidM⟩
   | dtp qs=>
    obtain ⟨us,e1,e2⟩:=q;exact ⟨us,e1,e2.1,e2.2.trk hm x.hidM⟩
   | frd qs=>
    obtain ⟨us,e1,e2⟩:=q;exact ⟨us,e1,e2.1,e2.2.trk hm x.hidM⟩
   | frt qs=>
    obtain ⟨us,e1,e2⟩:=q;exact ⟨us,e1,e2.1,e2.2.trk hm x.hidM⟩
   | obj C qs=>
    obtain ⟨us,e1,e2⟩:=q;exact ⟨us,e1,e2.1,e2.2.trk hm x.hidM⟩
  ·rw [D7 (by rw [R.len]; omega)] at h1;rw [D7 (by omega)] at h2;have e0:i - st1.length=0:=by
    rcases Nat.eq_zero_or_pos (i - st1.length) with z | z
    ·exact z
    ·rw [L0 (by simp; omega)] at h2; cases h2
   rw [R.len,e0] at h1;rw [e0] at h2;simp at h1 h2;subst h1; subst h2;exact ⟨vs,ha,r.trk hm x.hidM⟩
 ·show (ρ.tr ++ [a])[st1.length]?=some a;rw [<- R.len,D7 (O8 _),N4]; rfl
end
section
variable {X:Cx} {E:XK} {pos:Pos} {e:aH} {m:ML}
theorem Q6w (h:SimN X E e m):SimE X E e (Ub m):=⟨fun Γ σ H ρ st Q R G hq=>h.run Γ σ H ρ st _ Q R G hq.bind fun ps st1 H1 ρ1 a vs eq x R1 hm hn ha r=>by
 obtain ⟨x2,R2,r2⟩:=Q8r R x R1 hm hn ha r;unfold Ub at hq;rw [eq] at hq;exact hq _ _ x2 R2 _ r2⟩
theorem Qc3 (h:SimN X E e m):SimE X E e (Yp m):=⟨fun Γ σ H ρ st Q R G hq=>h.run Γ σ H ρ st _ Q R G hq.bind fun ps st1 H1 ρ1 a vs eq x R1 hm hn ha r=>by
 obtain ⟨x2,R2,r2⟩:=Q8s R x R1 hm hn ha r;unfold Yp at hq;rw [eq] at hq;exact hq _ _ x2 R2 _ r2⟩
variable {es:List aH} {mr:Gam->Q0->Res (List PV)} {a b:aH} {ma mb:ME}
theorem Qde {ρ1:Tk} {st1:Q0} {Q:VK} (x:Ext H ρ H1 ρ1) (R1:Rel H1 ρ1 st1) (r:RepL H1 ρ1 ps vs)
  (k:∀ H1 ρ1 a vs,Ext H ρ H1 ρ1->Rel H1 ρ1 st1->a∈ρ1.hid->H a=none->H1 a=some (.lst vs)->RepL H1 ρ1 ps vs->Q (.ref a) H1):∀ p,H1 p=none->Q (.ref p) (upd H1 p (.lst vs)):=fun p hp=>by
 refine k _ (ρ1.hide p) p vs (x.trans (Ext.hide hp)) (R1.hide hp) D1 ?_ Qu (r.hide hp);cases e:H p with
 | none=>rfl
 | some o=>
  obtain ⟨o',e'⟩:=x.old p o e;rw [hp] at e'; cases e'
def Yr (mr:Gam->Q0->Res (List PV)):ML:=fun Γ st=>(mr Γ st).bind fun ps st1=>if ps.length<=lim then .ok ps st1 else .stuck
theorem Qk7 (h:SimA X E es mr):SimN X E (.List es pos) (Yr mr):=
 ⟨fun Γ σ H ρ st P Q R G hq k=>WE.of (Qd0 xg) (h.use' R G hq.bind fun ps st1 H1 ρ1 vs eq x1 R1 G1 r1 h1=>by
  by_cases hl:ps.length<=lim
  ·refine ⟨by rw [<- r1.length]; exact W0 hl,Qde x1 R1 r1 fun H2 ρ2 a us=>k ps st1 H2 ρ2 a us ?_⟩;unfold Yr;rw [eq];exact bN hl
  ·rw [bO hl] at h1; exact h1.elim)⟩
def j8 (ma:ME):ML:=fun Γ st=>(ma Γ st).bind fun p st1=>match Ye st1 p with
 | some xs=>.ok xs st1
 | none=>.stuck
theorem Qg4 {p:Pos} (ha:SimE X E a ma) (hg:Gl X "list") (hm:X.mg "list" = none) (he:aN [a] X.env=(false,aM a X.env) :: aN [] X.env:=by rfl):SimN X E (.Call (.Name "list" p) [a] [] pos) (j8 ma):=
 ⟨fun Γ σ H ρ st P Q R G hq k=>WE.of (Q2n zn hg hm Q38 (jx Jj Q3v he) (by decide) (by decide) he rfl) (ha.use' R G hq.bind fun q st1 H1 ρ1 v eq x1 R1 G1 r1 h1=>by
  split at h1
  ·rename_i xs e;obtain ⟨t,b,vs,rfl,hq2,ra⟩:=K0 (K:=X.K) R1 r1 e;refine ⟨b,vs,rfl,Q6u hq2,Qde x1 R1 ra fun H2 ρ2 a us=>k xs st1 H2 ρ2 a us ?_⟩;unfold j8;rw [eq];show (match Ye st1 q with | some xs=>Res.ok xs st1 | none=>.stuck)=_;rw [e]
  ·exact h1.elim)⟩
end
end
def Zb (cap:List (Option Nat)) (Γ:Gam):Gam:=cap.map fun c=>c.bind fun j=>(Γ[j]?).join
theorem EnvR.cap {H:Hp} {ρ:Tk} {Γ:Gam} {σ:St} (h:EnvR H ρ Γ σ) (cap:List (Option Nat)):EnvR H ρ (Zb cap Γ) (zk cap σ):=by
 refine ⟨by unfold Zb zk; rw [O1,O1],fun i p e=>?_⟩;unfold Zb at e;unfold zk;rw [E8] at e ⊢;cases q:cap[i]? with
 | none=>rw [q] at e; cases e
 | some c=>
  rw [q] at e;cases c with
  | none=>cases e
  | some j=>
   have e':(Γ[j]?).join=some p:=Option.some.inj e;cases r:Γ[j]? with
   | none=>rw [r] at e'; cases e'
   | some o=>
    rw [r] at e';have:o=some p:=e';subst this;obtain ⟨v,e1,e2⟩:=h.2 j p r;exact ⟨v,by show some ((σ[j]?).join)=some (some v); rw [e1]; rfl,e2⟩
def zr (cap:List (Option Nat)) (ga:GA):Prop:=∀ Γ p Γ1,ga p (Zb cap Γ)=some Γ1->Γ1.length=(Zb cap Γ).length/\∀ (i:Nat) (q:PV),(Zb cap Γ)[i]?=some (some q)->Γ1[i]?=some (some q)
theorem Q37 {cap:List (Option Nat)} {i:Nat} (h:cap[i]?=some none) (Γ:Gam):(Zb cap Γ)[i]?=some none:=by
 unfold Zb;rw [E8,h]; rfl
theorem Vs {cap:List (Option Nat)} {i:Nat} (h:cap[i]?=some none:=by rfl):zr cap (Q5 i):=fun Γ p Γ1 e=>by
 cases e;refine ⟨D5 ..,fun j q hj=>?_⟩;rw [O9 fun z=>?_]
 ·exact hj
 ·subst z; rw [Q37 h] at hj; cases hj
def Q9h (cap:List (Option Nat)) (ga:GAs):Prop:=∀ Γ ps Γ0 Γ1,(∀ (i:Nat) (q:PV),(Zb cap Γ)[i]?=some (some q)->Γ0[i]?=some (some q))->ga ps Γ0=some Γ1->Γ1.length=Γ0.length/\∀ (i:Nat) (q:PV),(Zb cap Γ)[i]?=some (some q)->Γ1[i]?=some (some q)
theorem Qeg {cap:List (Option Nat)}:Q9h cap Js:=fun Γ ps Γ0 Γ1 h e=>by
 cases ps with
 | nil=>cases e; exact ⟨rfl,h⟩
 | cons _ _=>cases e
theorem Qas {cap:List (Option Nat)} {i:Nat} (hs:Q9h cap gs) (h:cap[i]?=some none:=by rfl):Q9h cap (Qf (Q5 i) gs):=fun Γ ps Γ0 Γ1 h0 e=>by
 cases ps with
 | nil=>cases e
 | cons p ps=>
  obtain ⟨a,b⟩:=hs Γ ps (Γ0.set i (some p)) Γ1 (fun k r hk=>by
   rw [O9 fun z=>?_]
   ·exact h0 k r hk
   ·subst z; rw [Q37 h] at hk; cases hk) e
  exact ⟨by rw [a,D5],b⟩
theorem Qef {cap:List (Option Nat)} (hs:Q9h cap gs):zr cap (Jr gs):=fun Γ p Γ1 e=>by
 cases p with
 | tup ps=>exact hs Γ ps _ Γ1 (fun _ _ h=>h) e
 | _=>cases e
open Classical in
def Jg (ga:GA) (mt:MT) (me:ME) (w:Wt) (Γ0:Gam):List PV->Q0->Res (List PV)
 | [],st=>if wOk w st then .ok [] st else .stuck
 | x :: xs,st=>if wOk w st then (match ga x Γ0 with
  | none=>.stuck
  | some Γ1=>(mt Γ1 st).bind fun b st1=>if b=true then (me Γ1 st1).bind fun y st2=>(Jg ga mt me w Γ0 xs st2).bind fun ys st3=>.ok (y :: ys) st3 else Jg ga mt me w Γ0 xs st1) else .stuck
def noX {α:Type}:Res α->Res α
 | .exc _ _=>.stuck
 | r=>r
def Qx (cap:List (Option Nat)) (ga:GA) (mi:MI) (mt:MT) (me:ME):ML:=fun Γ st=>(mi Γ st).bind fun iw st1=>noX (Jg ga mt me iw.2 (Zb cap Γ) iw.1 st1)
structure SimTs (X:Cx) (ifs:List aH) (m:MT):Prop where
 run:∀ (Γ:Gam) (σ:St) (H:Hp) (ρ:Tk) (st:Q0) (P:Bool->Q0->Hp->Tk->Prop) (Q:Bool->Hp->Prop),Rel H ρ st->EnvR H ρ Γ σ->Acc X.mg E0 H ρ P (m Γ st) ->
  (∀ b st1 H1 ρ1,m Γ st=.ok b st1->Ext H ρ H1 ρ1->Rel H1 ρ1 st1->EnvR H1 ρ1 Γ σ->Q b H1)->∃ t,PTs X ifs t/\t σ H Q
def Jk:MT:=fun _ st=>.ok true st
theorem jk :SimTs X [] Jk:=⟨fun Γ σ H ρ st P Q R G h k=>⟨_,Qgm,k true st H ρ rfl (Ext.refl _ _) R G⟩⟩
theorem Q8c {m:MT} (hc:SimT X E0 c m):SimTs X [c] m:=⟨fun Γ σ H ρ st P Q R G h k=>⟨_,Qgk Q3t,hc.use' R G h fun b st1 H1 ρ1 e x1 R1 G1 p=>k b st1 H1 ρ1 e x1 R1 G1⟩⟩
theorem Qir {E':XK} {P:α->Q0->Hp->Tk->Prop} {r:Res α} (h:Acc mg E H ρ P (noX r)):Acc mg E' H ρ P r:=by
 cases r with
 | ok a st=>exact h
 | exc x st=>exact h.elim
 | stuck=>exact h
theorem Res.assoc {γ:Type} (r:Res α) (f:α->Q0->Res β) (g:β->Q0->Res γ):(r.bind f).bind g=r.bind fun a st=>(f a st).bind g:=by cases r <;> rfl
theorem Acc.assoc {γ:Type} {P:γ->Q0->Hp->Tk->Prop} {r:Res α} {f:α->Q0->Res β} {g:β->Q0->Res γ} (h:Acc mg E H ρ P ((r.bind f).bind g)):Acc mg E H ρ P (r.bind fun a st=>(f a st).bind g):=by
 rw [<- Res.assoc]; exact h
theorem EnvR.le {Γ':Gam} (h:EnvR H ρ Γ' σ) (hl:Γ.length=σ.length) (k:∀ (i:Nat) (q:PV),Γ[i]?=some (some q)->Γ'[i]?=some (some q)):EnvR H ρ Γ σ:=⟨hl,fun i p e=>h.2 i p (k i p e)⟩
variable {tg iter elt:aH} {ifs:List aH} {N N':List Str} {sc scE:Scope} {ga:GA} {mi:MI} {mt:MT} {me:ME}
section
variable {pos:Pos} {cap:List (Option Nat)}
def aE (X:Cx) (N':List Str) (sc:Scope) (e:aH):TE:=fun σ H Q=>∀ cl C s0 H0 ex,WE (Zm X N' sc cl C s0 H0 ex) e σ H Q
def aG (X:Cx) (N':List Str) (sc:Scope) (tg:aH):TG:=fun v σ H Q=>∀ cl C s0 H0 ex,WGx (Zm X N' sc cl C s0 H0 ex) tg v σ H Q
def aT (X:Cx) (N':List Str) (sc:Scope) (ifs:List aH):TT:=fun σ H Q=>∀ cl C s0 H0 ex,∃ t,PTs (Zm X N' sc cl C s0 H0 ex) ifs t/\t σ H Q
theorem Qaw {Γ:Gam} {σ:St} {H1:Hp} {ρ1:Tk} {st1:Q0} {J:It} {items:List PV} {w:Wt} {Q:VK} {P:List PV->Q0->Hp->Tk->Prop} (hg:∀ cl C s0 H0 ex,SimG (Zm X N' sc cl C s0 H0 ex) tg ga) (he:∀ cl C s0 H0 ex,SimE (Zm X N' sc cl C s0 H0 ex) E0 elt me) (ht:∀ cl C s0 H0 ex,SimTs (Zm X N' sc cl C s0 H0 ex) ifs mt)
  (hf:zr cap ga) (R1:Rel H1 ρ1 st1) (G1:EnvR H1 ρ1 Γ σ) (src:Src J items w H1 ρ1) (hlen:items.length<=sizeLine) (h:Acc X.mg E0 H1 ρ1 P (Jg ga mt me w (Zb cap Γ) items st1))
  (k:∀ ys st2 H2 ρ2 acc vs,Jg ga mt me w (Zb cap Γ) items st1=.ok ys st2->Ext H1 ρ1 H2 ρ2->Rel H2 ρ2 st2->acc∈ρ2.hid->H1 acc=none->H2 acc=some (.lst vs)->RepL H2 ρ2 ys vs->Q (.ref acc) H2):Q36 J cap (aG X N' sc tg) (aT X N' sc ifs) (aE X N' sc elt) σ H1 Q:=by
 intro acc hacc;let W:Nat->Nat->List V->St->Hp->Prop:=fun i m vs σ' H'=>m=items.length - i/\i<=items.length/\vs.length<=i/\∃ ρ' st' ys,Ext H1 ρ1 H' ρ'/\acc∈ρ'.hid/\Rel H' ρ' st'/\EnvR H' ρ' (Zb cap Γ) σ'/\H' acc=some (.lst vs)/\RepL H' ρ' ys vs /\
  Jg ga mt me w (Zb cap Γ) items st1=(Jg ga mt me w (Zb cap Γ) (items.drop i) st').bind fun zs st3=>.ok (ys ++ zs) st3
 refine ⟨W,⟨_,rfl,Nat.zero_le _,O8 _,ρ1.hide acc,st1,[],Ext.hide hacc,D1,R1.hide hacc,(G1.cap cap).hide hacc,Qu,rfl,?_⟩,?_⟩
 ·rw [List.drop_zero];cases r:Jg ga mt me w (Zb cap Γ) items st1 with
  | ok zs st3=>rfl
  | exc x st3=>rfl
  | stuck=>rfl
 rintro i m vs σ' H' ⟨hm,hi,hvl,ρ',st',ys,x,hmem,R',G',ha,ry,hq⟩;have hA:Acc X.mg E0 H1 ρ1 P ((Jg ga mt me w (Zb cap Γ) (items.drop i) st').bind fun zs st3=>.ok (ys ++ zs) st3):=by rw [<- hq]; exact h
 refine ⟨ha,?_⟩
 by_cases hlt:i < items.length
 ·right
  have hd:items.drop i=items[i] :: items.drop (i + 1):=List.drop_eq_getElem_cons hlt;rw [hd,Jg] at hA hq
  by_cases hw:wOk w st'
  ·rw [bN hw] at hA hq;refine ⟨src.go H' _ st' x R' hw i hlt,by omega,fun y H2 hy=>?_⟩;obtain ⟨sm,ry2⟩:=src.yld H' _ st' x R' hw i _ (O2 hlt) y H2 hy;cases eg:ga items[i] (Zb cap Γ) with
   | none=>rw [eg] at hA; exact hA.elim
   | some Γ1=>
    rw [eg] at hA hq;have x2:Ext H' ρ' H2 ρ':=Ext.same sm;have R2:=R'.same sm;intro cl C s0 H0 ex;refine (hg cl C s0 H0 ex).run (Zb cap Γ) Γ1 σ' H2 ρ' _ y _ (G'.ext x2) ry2 eg fun σ3 G3=>?_
    intro cl C s0 H0 ex;have hA2:=Acc.later hA (x.trans x2);refine (ht cl C s0 H0 ex).run Γ1 σ3 H2 ρ' st' _ _ R2 G3 (Acc.bind (Acc.assoc hA2)) fun b st4 H4 ρ4 e4 x4 R4 G4=>?_
    simp only [e4,Res.bind] at hA hq;have G0:∀ {H'':Hp} {ρ'':Tk},EnvR H'' ρ'' Γ1 σ3->EnvR H'' ρ'' (Zb cap Γ) σ3:=fun {H'' ρ''} g=>g.le (by
     rw [<- G3.1];exact (hf Γ _ Γ1 eg).1.symm) (hf Γ _ Γ1 eg).2
    have x14:Ext H1 ρ1 H4 ρ4:=x.trans (x2.trans x4);have hm4:acc∈ρ4.hid:=x4.hidM acc hmem;have na:acc∉ρ'.tr:=R'.ap acc hmem;have ha4:H4 acc=some (.lst vs):=x4.keep acc _ (sm acc _ ha) na;have ry4:RepL H4 ρ4 ys vs:=ry.ext (x2.trans x4);cases b with
    | false=>
     rw [bO F0] at hA hq ⊢;exact ⟨_,show items.length - (i + 1) < m by omega,rfl,hlt,by omega,ρ4,st4,ys,x14,hm4,R4,G0 G4,ha4,ry4,hq⟩
    | true=>
     rw [bN rfl] at hA hq ⊢;intro cl C s0 H0 ex;have hA4:=Acc.later hA x14;refine (he cl C s0 H0 ex).use' R4 G4 (Acc.bind (Acc.assoc hA4)) fun z st5 H5 ρ5 zv e5 x5 R5 G5 r5 h5=>?_
     simp only [e5,Res.bind] at hA hq;have hm5:acc∈ρ5.hid:=x5.hidM acc hm4;have ha5:H5 acc=some (.lst vs):=x5.keep acc _ ha4 (R4.ap acc hm4);have x15:Ext H1 ρ1 H5 ρ5:=x14.trans x5;refine ⟨ha5,_,show items.length - (i + 1) < m by omega,rfl,hlt,by rw [O4]; simp; omega,ρ5,st5,ys ++ [z],x15.put0 hacc,hm5,R5.rehide hm5,(G0 G5).rehide hm5,Qu,((ry4.ext x5).append (RepL.cons r5 RepL.nil)).rehide hm5,?_⟩;refine hq.trans ?_;cases rr:Jg ga mt me w (Zb cap Γ) (items.drop (i + 1)) st5 with
     | ok zs st6=>
      show Res.ok (ys ++ z :: zs) st6=Res.ok ((ys ++ [z]) ++ zs) st6;rw [L9]; rfl
     | exc x6 st6=>rfl
     | stuck=>rfl
  ·rw [bO hw] at hA; exact hA.elim
 ·left
  have ei:i=items.length:=by omega
  subst ei;rw [List.drop_length,Jg] at hA hq
  by_cases hw:wOk w st'
  ·rw [bN hw] at hA hq;refine ⟨src.stop H' _ st' x R' hw,?_⟩;have hq:Jg ga mt me w (Zb cap Γ) items st1=.ok (ys ++ []) st':=hq;rw [F9] at hq;exact k ys st' H' ρ' acc vs hq x R' hmem hacc ha ry
  ·rw [bO hw] at hA; exact hA.elim
theorem Q1n {Γ:Gam} {σ:St} {H:Hp} {ρ:Tk} {st:Q0} {Q:VK} {P:List PV->Q0->Hp->Tk->Prop} (hi:SimI X E tg iter mi) (hg:∀ cl C s0 H0 ex,SimG (Zm X N' sc cl C s0 H0 ex) tg ga) (he:∀ cl C s0 H0 ex,SimE (Zm X N' sc cl C s0 H0 ex) E0 elt me) (ht:∀ cl C s0 H0 ex,SimTs (Zm X N' sc cl C s0 H0 ex) ifs mt)
  (hf:zr cap ga) (R:Rel H ρ st) (G:EnvR H ρ Γ σ) (h:Acc X.mg E H ρ P (Qx cap ga mi mt me Γ st)) (k:∀ ps st2 H2 ρ2 a vs,Qx cap ga mi mt me Γ st=.ok ps st2->Ext H ρ H2 ρ2->Rel H2 ρ2 st2->a∈ρ2.hid->H a=none->H2 a=some (.lst vs)->RepL H2 ρ2 ps vs->Q (.ref a) H2):Q3j cap (WI X tg iter) (aG X N' sc tg) (aT X N' sc ifs) (aE X N' sc elt) σ H Q:=by
 refine hi.run Γ σ H ρ st _ _ R G h.bind fun iw st1 H1 ρ1 J eq x1 R1 G1 ok hl src h1=>?_
 refine Qaw hg he ht hf R1 G1 src hl (Qir (E':=E0) h1) fun ys st2 H2 ρ2 acc vs eq2 x2 R2 hm hn ha ry=>?_
 refine k ys st2 H2 ρ2 acc vs ?_ (x1.trans x2) R2 hm ?_ ha ry
 ·unfold Qx;rw [eq];show noX _=_;rw [eq2]; rfl
 cases e:H acc with
 | none=>rfl
 | some o=>
  obtain ⟨o',e'⟩:=x1.old acc o e;rw [hn] at e'; cases e'
theorem Qm9 :∀ cl C s0 H0 ex,PG (Zm X N' sc cl C s0 H0 ex) tg (aG X N' sc tg):=fun cl C s0 H0 ex pins s σ H v u Q I r h=>Qh3 pins s σ H v u Q I r (h cl C s0 H0 ex)
theorem Qmh :∀ cl C s0 H0 ex,PE (Zm X N' sc cl C s0 H0 ex) e (aE X N' sc e):=fun cl C s0 H0 ex pins s σ H Q I h=>h cl C s0 H0 ex pins s I
theorem Qcj :∀ cl C s0 H0 ex,PTs (Zm X N' sc cl C s0 H0 ex) ifs (aT X N' sc ifs):=fun cl C s0 H0 ex pins s σ H Q I h=>by
 obtain ⟨t,a,b⟩:=h cl C s0 H0 ex;exact a pins s σ H Q I b
theorem xw (cap:List (Option Nat)) (N':List Str) (hcalm:X.calm=true) (hi:SimI X E tg iter mi) (hg:∀ cl C s0 H0 ex,SimG (Zm X N' sc cl C s0 H0 ex) tg ga) (he:∀ cl C s0 H0 ex,SimE (Zm X N' sc cl C s0 H0 ex) E0 elt me) (ht:∀ cl C s0 H0 ex,SimTs (Zm X N' sc cl C s0 H0 ex) ifs mt)
  (hf:zr cap ga) (hN:X.N=N:=by rfl) (hE:X.env.scope=scE:=by rfl) (hc:compOkC N N' sc scE cap=true:=by kernel_rfl) (hs:∀ x,aw iter X.env x=pure x:=by intro _; rfl) :
  SimN X E (.ListComp elt [⟨tg,iter,ifs,0⟩] sc pos) (Qx cap ga mi mt me):=
 ⟨fun Γ σ H ρ st P Q R G h k=>WE.of (Qd3 hcalm Qgz Qm9 Qmh Qcj hN hE hc hs) (Q1n hi hg he ht hf R G h k)⟩
end
inductive SR where
 | nx (Γ:Gam) (st:Q0) | rt (v:PV) (st:Q0) | bk (Γ:Gam) (st:Q0) | ct (Γ:Gam) (st:Q0) | exc (x:Exc) (st:Q0) | stuck
abbrev MS:=Gam->Q0->SR
variable {m1:MS}
def Res.sbind {α:Type} (r:Res α) (f:α->Q0->SR):SR:=match r with
 | .ok a st=>f a st
 | .exc x st=>.exc x st
 | .stuck=>.stuck
def AccS (mg:Str->Option aA) (E:XK) (D:Ends) (H:Hp) (ρ:Tk):SR->Prop
 | .nx Γ st=>∀ σ' H' ρ',Ext H ρ H' ρ'->Rel H' ρ' st->EnvR H' ρ' Γ σ'->D.nx σ' H'
 | .bk Γ st=>∀ σ' H' ρ',Ext H ρ H' ρ'->Rel H' ρ' st->EnvR H' ρ' Γ σ'->D.bk σ' H'
 | .ct Γ st=>∀ σ' H' ρ',Ext H ρ H' ρ'->Rel H' ρ' st->EnvR H' ρ' Γ σ'->D.ct σ' H'
 | .rt p st=>∀ v H' ρ',Ext H ρ H' ρ'->Rel H' ρ' st->Rep H' ρ' p v->D.rt v H'
 | .exc x st=>∀ C dv H' ρ',mg x.cls=some (.ref C)->Ext H ρ H' ρ'->Rel H' ρ' st->XFs H' ρ' x.fs dv->E (.ref C) dv H'
 | .stuck=>False
variable {α:Type} {mg:Str->Option aA} {D:Ends} {H1:Hp} {ρ1:Tk}
theorem AccS.later {r:SR} (h:AccS mg E D H ρ r) (x:Ext H ρ H1 ρ1):AccS mg E D H1 ρ1 r:=by
 cases r with
 | nx Γ st=>exact fun σ' H' ρ' x'=>h σ' H' ρ' (x.trans x')
 | bk Γ st=>exact fun σ' H' ρ' x'=>h σ' H' ρ' (x.trans x')
 | ct Γ st=>exact fun σ' H' ρ' x'=>h σ' H' ρ' (x.trans x')
 | rt p st=>exact fun v H' ρ' x'=>h v H' ρ' (x.trans x')
 | exc y st=>exact fun C dv H' ρ' m x'=>h C dv H' ρ' m (x.trans x')
 | stuck=>exact h
theorem AccS.bind {r:Res α} {f:α->Q0->SR} (h:AccS mg E D H ρ (r.sbind f)):Acc mg E H ρ (fun a st1 H1 ρ1=>AccS mg E D H1 ρ1 (f a st1)) r:=by
 cases r with
 | ok a st=>exact fun H' ρ' x' R'=>AccS.later (show AccS mg E D H ρ (f a st) from h) x'
 | exc e st=>exact h
 | stuck=>exact h
theorem Res.sassoc (r:Res α) (f:α->Q0->Res β) (g:β->Q0->SR):(r.bind f).sbind g=r.sbind fun a st=>(f a st).sbind g:=by cases r <;> rfl
theorem AccS.assoc {r:Res α} {f:α->Q0->Res β} {g:β->Q0->SR} (h:AccS mg E D H ρ ((r.bind f).sbind g)):AccS mg E D H ρ (r.sbind fun a st=>(f a st).sbind g):=by
 rw [<- Res.sassoc]; exact h
structure SimS (X:Cx) (E:XK) (s:aK) (m:MS):Prop where
 run:∀ (Γ:Gam) (σ:St) (H:Hp) (ρ:Tk) (st:Q0) (D:Ends),Rel H ρ st->EnvR H ρ Γ σ->AccS X.mg E D H ρ (m Γ st)->WS X s D σ H
structure SimB (X:Cx) (E:XK) (ss:List aK) (m:MS):Prop where
 run:∀ (Γ:Gam) (σ:St) (H:Hp) (ρ:Tk) (st:Q0) (D:Ends),Rel H ρ st->EnvR H ρ Γ σ->AccS X.mg E D H ρ (m Γ st)->WB X ss D σ H
variable {e:aH} {m:ME}
section
variable {pos:Pos}
def Zd:MS:=fun Γ st=>.nx Γ st
def Qc (m1 m2:MS):MS:=fun Γ st=>match m1 Γ st with
 | .nx Γ1 st1=>m2 Γ1 st1
 | r=>r
theorem Qkk:SimB X E [] Zd:=⟨fun Γ σ H ρ st D R G h=>WB.of Qgq (h σ H ρ (Ext.refl _ _) R G)⟩
theorem jn {rest:List aK} {m2:MS} (h1:SimS X E s m1) (h2:SimB X E rest m2):SimB X E (s :: rest) (Qc m1 m2):=
 ⟨fun Γ σ H ρ st D R G h=>WB.of (Qck Qr6 Q0v) (h1.run Γ σ H ρ st _ R G (by
  unfold Qc at h;cases r:m1 Γ st with
  | nx Γ1 st1=>rw [r] at h; exact fun σ' H' ρ' x' R' G'=>h2.run Γ1 σ' H' ρ' st1 D R' G' (AccS.later h x')
  | bk Γ1 st1=>rw [r] at h; exact h
  | ct Γ1 st1=>rw [r] at h; exact h
  | rt p st1=>rw [r] at h; exact h
  | exc x st1=>rw [r] at h; exact h
  | stuck=>rw [r] at h; exact h))⟩
theorem Qc9 (h1:SimS X E s m1):SimB X E [s] m1:=⟨fun Γ σ H ρ st D R G h=>WB.of (Qgp Qr6) (h1.run Γ σ H ρ st D R G h)⟩
def Yf (m:ME):MS:=fun Γ st=>(m Γ st).sbind fun _ st1=>.nx Γ st1
theorem Qfy (he:SimE X E e m) (hs:swapsWith e none pos.line X.env=pure false:=by rfl):SimS X E (.Expr e pos) (Yf m):=
 ⟨fun Γ σ H ρ st D R G h=>WS.of (Qgr Jj hs) (he.use R G h.bind fun p st1 H1 ρ1 v x1 R1 G1 r1 h1=>h1 σ H1 ρ1 (Ext.refl _ _) R1 G1)⟩
def Jh (m:ME):MS:=fun Γ st=>(m Γ st).sbind fun p st1=>.rt p st1
theorem Qbt (he:SimE X E e m):SimS X E (.Return (some e) pos) (Jh m):=
 ⟨fun Γ σ H ρ st D R G h=>WS.of (Qkz Jj) (he.use R G h.bind fun p st1 H1 ρ1 v x1 R1 G1 r1 h1=>h1 v H1 ρ1 (Ext.refl _ _) R1 r1)⟩
def Qr (i:Nat) (m:ME):MS:=fun Γ st=>(m Γ st).sbind fun p st1=>.nx (Γ.set i (some p)) st1
theorem Q0m (i:Nat) {pos':Pos} (hN:X.N.Nodup) (he:SimE X E e m) (hi:X.N[i]?=some x:=by rfl) (hx:Loc X.env.scope x:=by first | exact Or.inl rfl | exact Or.inr rfl) (hs:swapsWith e (some (.Name x pos')) pos.line X.env=pure false:=by rfl) (hf:X.fn x=true\/X.env.scope.names.lookup x=some .local:=by first | exact .inl rfl | exact .inr rfl) :
  SimS X E (.Assign [.Name x pos'] e pos) (Qr i m):=
 ⟨fun Γ σ H ρ st D R G h=>WS.of (Qky hN hi hx Jj hs hf) (he.use R G h.bind fun p st1 H1 ρ1 v x1 R1 G1 r1 h1=>h1 _ H1 ρ1 (Ext.refl _ _) R1 (G1.set r1 i))⟩
section
variable {tg iter elt:aH} {ifs:List aH} {N N':List Str} {sc scE:Scope} {ga:GA} {mi:MI} {mt:MT} {me:ME}
theorem Qbw (cap:List (Option Nat)) (N':List Str) (i:Nat) {x:Str} {px cpos:Pos} (hnd:X.N.Nodup) (hcalm:X.calm=true) (hi:SimI X E tg iter mi) (hg:∀ cl C s0 H0 ex,SimG (Zm X N' sc cl C s0 H0 ex) tg ga) (he:∀ cl C s0 H0 ex,SimE (Zm X N' sc cl C s0 H0 ex) E0 elt me) (ht:∀ cl C s0 H0 ex,SimTs (Zm X N' sc cl C s0 H0 ex) ifs mt)
  (hf:zr cap ga) (hix:X.N[i]?=some x:=by rfl) (hx:Loc X.env.scope x:=by first | exact Or.inl rfl | exact Or.inr rfl) (hsw:swapsWith (.ListComp elt [⟨tg,iter,ifs,0⟩] sc cpos) (some (.Name x px)) pos.line X.env=pure true:=by rfl)
  (hN:X.N=N:=by rfl) (hE:X.env.scope=scE:=by rfl) (hc:compOkC N N' sc scE cap=true:=by kernel_rfl) (hs:∀ x,aw iter X.env x=pure x:=by intro _; rfl) (hfn:X.fn x=true\/X.env.scope.names.lookup x=some .local:=by first | exact .inl rfl | exact .inr rfl) :
  SimS X E (.Assign [.Name x px] (.ListComp elt [⟨tg,iter,ifs,0⟩] sc cpos) pos) (Qr i (Ub (Qx cap ga mi mt me))):=
 ⟨fun Γ σ H ρ st D R G h=>WS.of (Q5b hnd hix hx hcalm Qgz Qm9 Qmh Qcj hsw hN hE hc hs hfn) (Q1n hi hg he ht hf R G (AccS.bind (by unfold Qr Ub at h; exact AccS.assoc h)) fun ps st1 H1 ρ1 a vs eq x R1 hm hn ha r=>by
  obtain ⟨x2,R2,r2⟩:=Q8r R x R1 hm hn ha r;simp only [Qr,Ub,eq,Res.bind,Res.sbind] at h;exact h _ _ _ x2 R2 ((G.ext x2).set r2 i))⟩
theorem Q4y (cap:List (Option Nat)) (N':List Str) (i:Nat) {x:Str} {px cpos:Pos} (hnd:X.N.Nodup) (hcalm:X.calm=true) (hi:SimI X E tg iter mi) (hg:∀ cl C s0 H0 ex,SimG (Zm X N' sc cl C s0 H0 ex) tg ga) (he:∀ cl C s0 H0 ex,SimE (Zm X N' sc cl C s0 H0 ex) E0 elt me) (ht:∀ cl C s0 H0 ex,SimTs (Zm X N' sc cl C s0 H0 ex) ifs mt)
  (hf:zr cap ga) (hix:X.N[i]?=some x:=by rfl) (hx:Loc X.env.scope x:=by first | exact Or.inl rfl | exact Or.inr rfl) (hsw:swapsWith (.ListComp elt [⟨tg,iter,ifs,0⟩] sc cpos) (some (.Name x px)) pos.line X.env=pure true:=by rfl)
  (hN:X.N=N:=by rfl) (hE:X.env.scope=scE:=by rfl) (hc:compOkC N N' sc scE cap=true:=by kernel_rfl) (hs:∀ x,aw iter X.env x=pure x:=by intro _; rfl) (hfn:X.fn x=true\/X.env.scope.names.lookup x=some .local:=by first | exact .inl rfl | exact .inr rfl) :
  SimS X E (.Assign [.Name x px] (.ListComp elt [⟨tg,iter,ifs,0⟩] sc cpos) pos) (Qr i (Yp (Qx cap ga mi mt me))):=
 ⟨fun Γ σ H ρ st D R G h=>WS.of (Q5b hnd hix hx hcalm Qgz Qm9 Qmh Qcj hsw hN hE hc hs hfn) (Q1n hi hg he ht hf R G (AccS.bind (by unfold Qr Yp at h; exact AccS.assoc h)) fun ps st1 H1 ρ1 a vs eq x R1 hm hn ha r=>by
  obtain ⟨x2,R2,r2⟩:=Q8s R x R1 hm hn ha r;simp only [Qr,Yp,eq,Res.bind,Res.sbind] at h;exact h _ _ _ x2 R2 ((G.ext x2).set r2 i))⟩
end
def Q5z (ga:GA) (m:ME):MS:=fun Γ st=>(m Γ st).sbind fun p st1=>match ga p Γ with
 | some Γ1=>.nx Γ1 st1
 | none=>.stuck
theorem Qk6 (he:SimE X E e m) (hg:SimG X tg ga) (hs:swapsWithSole [tg] e pos.line X.env=pure false:=by rfl) (hw:swappedStores [tg] e X.env=pure none:=by rfl) (h1:(ar [tg] X.env).map (·.2)=[assign tg X.env]:=by rfl):SimS X E (.Assign [tg] e pos) (Q5z ga m):=
 ⟨fun Γ σ H ρ st D R G h=>WS.of (Qcn Jj Qh3 hs hw h1) (he.use R G h.bind fun p st1 H1 ρ1 v x1 R1 G1 r1 h1=>by
  cases eg:ga p Γ with
  | none=>rw [eg] at h1; exact h1.elim
  | some Γ1=>
   rw [eg] at h1;exact hg.run Γ Γ1 σ H1 ρ1 p v _ G1 r1 eg fun σ' G'=>h1 σ' H1 ρ1 (Ext.refl _ _) R1 G')⟩
def Wk (st:Q0) (o i p:PV):Option Q0:=match o,i with
 | .ref k,.int j=>match st[k]? with
  | some (.lst xs)=>(ixN xs.length j).map fun n=>st.set k (.lst (xs.set n p))
  | _=>none
 | _,_=>none
def Ke (mo mi m:ME):MS:=fun Γ st=>(m Γ st).sbind fun p st1=>(mo Γ st1).sbind fun o st2=>(mi Γ st2).sbind fun i st3=>match Wk st3 o i p with
 | some st4=>.nx Γ st4
 | none=>.stuck
theorem Q8e {st':Q0} {o i:PV} {x y z:V} (R:Rel H ρ st) (ro:Rep H ρ o x) (ri:Rep H ρ i y) (rp:Rep H ρ p z) (e:Wk st o i p=some st') :
  ∃ a vs k j,x=.ref a/\y=.int k/\H a=some (.lst vs)/\ixN vs.length k=some j/\Ext H ρ (upd H a (.lst (vs.set j z))) ρ/\Rel (upd H a (.lst (vs.set j z))) ρ st':=by
 unfold Wk at e
 split at e
 ·rename_i k j
  split at e
  ·rename_i xs hs;cases ej:ixN xs.length j with
   | none=>rw [ej] at e; cases e
   | some n=>
    rw [ej] at e;have e:st.set k (.lst (xs.set n p))=st':=Option.some.inj e;subst e;obtain ⟨a,ea,rfl⟩:=ro;cases ri;obtain ⟨b,vs,f1,f2,f3⟩:=R.lst hs;rw [ea] at f1; cases f1;exact ⟨a,vs,j,n,rfl,rfl,f2,by rw [<- f3.length]; exact ej,Ext.put (F3 ea) f2,R.put ea f2 (f3.set rp n)⟩
  ·cases e
 ·cases e
theorem Qk3 {o i:aH} {mo mi:ME} {tpos:Pos} (he:SimE X E e m) (ho:SimE X E o mo) (hi:SimE X E i mi)
  (ha:∀ v,assign (.Subscript o i tpos) X.env v=(do
   let ov <- av [v] (aM o X.env)
   let iv <- av [v,ov] (aM i X.env)
   standAt tpos
   av [v,ov,iv] (setItem ov iv v)
   release [v,ov,iv] []):=by intro _; rfl)
  (hs:swapsWithSole [.Subscript o i tpos] e pos.line X.env=pure false:=by rfl) (hw:swappedStores [.Subscript o i tpos] e X.env=pure none:=by rfl) (h1:(ar [.Subscript o i tpos] X.env).map (·.2)=[assign (.Subscript o i tpos) X.env]:=by rfl) :
  SimS X E (.Assign [.Subscript o i tpos] e pos) (Ke mo mi m):=
 ⟨fun Γ σ H ρ st D R G h=>WS.of (Qcn Jj (Qm8 Jj Jj Q51 ha) hs hw h1) (he.use R G h.bind fun p st1 H1 ρ1 z x1 R1 G1 r1 h1=>ho.use R1 G1 h1.bind fun ov st2 H2 ρ2 x x2 R2 G2 r2 h2=>hi.use R2 G2 h2.bind fun iv st3 H3 ρ3 y x3 R3 G3 r3 h3=>by
  cases es:Wk st3 ov iv p with
  | none=>rw [es] at h3; exact h3.elim
  | some st4=>
   rw [es] at h3;obtain ⟨a,vs,k,j,rfl,rfl,f1,f2,x4,R4⟩:=Q8e R3 (r2.ext x3) r3 (r1.ext (x2.trans x3)) es;exact ⟨a,vs,k,j,rfl,rfl,f1,f2,h3 σ _ ρ3 x4 R4 (G3.ext x4)⟩)⟩
def Yy (mt:MT) (ma mb:MS):MS:=fun Γ st=>(mt Γ st).sbind fun b st1=>if b=true then ma Γ st1 else mb Γ st1
theorem Qqp {a b:List aK} {ma mb:MS} (hc:SimT X E c mt) (ha:SimB X E a ma) (hb:SimB X E b mb):SimS X E (.If c a b pos) (Yy mt ma mb):=
 ⟨fun Γ σ H ρ st D R G h=>WS.of (Qr7 Q3t Q0v Q0v) (hc.use R G h.bind fun k st1 H1 ρ1 x1 R1 G1 h1=>by
  cases k with
  | true=>rw [bN rfl] at h1 ⊢; exact ha.run Γ σ H1 ρ1 st1 D R1 G1 h1
  | false=>rw [bO F0] at h1 ⊢; exact hb.run Γ σ H1 ρ1 st1 D R1 G1 h1)⟩
open Classical in
def W1 (ga:GA) (body:MS) (w:Wt):List PV->Gam->Q0->SR
 | [],Γ,st=>if wOk w st then .nx Γ st else .stuck
 | x :: xs,Γ,st=>if wOk w st then (match ga x Γ with
  | none=>.stuck
  | some Γ1=>match body Γ1 st with
   | .nx Γ2 st2=>W1 ga body w xs Γ2 st2
   | .ct Γ2 st2=>W1 ga body w xs Γ2 st2
   | .bk Γ2 st2=>.nx Γ2 st2
   | .rt v st2=>.rt v st2
   | .exc x st2=>.exc x st2
   | .stuck=>.stuck) else .stuck
def Yz (ga:GA) (mi:MI) (body:MS):MS:=fun Γ st=>(mi Γ st).sbind fun iw st1=>W1 ga body iw.2 iw.1 Γ st1
theorem Qk4 {bd:List aK} {body:MS} (hp:PassesOwn (aI X.prog X.w) X.A X.env X.xe) (hc:X.calm=true) (hi:SimI X E tg iter mi) (hg:SimG X tg ga) (hb:SimB X E bd body)
  (hs:∀ x,aw iter X.env x=pure x:=by intro _; rfl):SimS X E (.For tg iter bd [] pos) (Yz ga mi body):=
 ⟨fun Γ σ H ρ st D R G h=>WS.of (Qm0 hp hc Qgz Qh3 Q0v hs) (hi.run Γ σ H ρ st _ _ R G h.bind fun iw st1 H1 ρ1 J eq x1 R1 G1 ok hl src h1=>by
  let W:Nat->Nat->St->Hp->Prop:=fun i m σ' H'=>m=iw.1.length - i/\i<=iw.1.length/\∃ Γ' ρ' st',Ext H1 ρ1 H' ρ'/\Rel H' ρ' st'/\EnvR H' ρ' Γ' σ'/\AccS X.mg E D H' ρ' (W1 ga body iw.2 (iw.1.drop i) Γ' st')
  refine ⟨W,⟨_,rfl,Nat.zero_le _,Γ,ρ1,st1,Ext.refl _ _,R1,G1,by rw [List.drop_zero]; exact h1⟩,?_⟩;rintro i m σ' H' ⟨hm,hi',Γ',ρ',st',x,R',G',hA⟩
  by_cases hlt:i < iw.1.length
  ·right
   have hd:iw.1.drop i=iw.1[i] :: iw.1.drop (i + 1):=List.drop_eq_getElem_cons hlt;rw [hd,W1] at hA
   by_cases hw:wOk iw.2 st'
   ·rw [bN hw] at hA;refine ⟨src.go H' ρ' st' x R' hw i hlt,fun σ2 H2=>W (i + 1) (iw.1.length - (i + 1)) σ2 H2,fun σ2 H2 z=>⟨_,by omega,z⟩,fun y H2 hy=>?_⟩
    obtain ⟨sm,ry⟩:=src.yld H' ρ' st' x R' hw i _ (O2 hlt) y H2 hy;have x2:Ext H' ρ' H2 ρ':=Ext.same sm;cases eg:ga iw.1[i] Γ' with
    | none=>rw [eg] at hA; exact hA.elim
    | some Γ1=>
     rw [eg] at hA;refine hg.run Γ' Γ1 σ' H2 ρ' _ y _ (G'.ext x2) ry eg fun σ3 G3=>?_
     have hA2:=AccS.later hA x2;simp only at hA2;refine hb.run Γ1 σ3 H2 ρ' st' _ (R'.same sm) G3 ?_;have again:∀ {Γ2:Gam} {st2:Q0},AccS X.mg E D H2 ρ' (W1 ga body iw.2 (iw.1.drop (i + 1)) Γ2 st2)->∀ σ' H'' ρ'',Ext H2 ρ' H'' ρ''->Rel H'' ρ'' st2->EnvR H'' ρ'' Γ2 σ'->W (i + 1) (iw.1.length - (i + 1)) σ' H'':=fun {Γ2 st2} a σ4 H4 ρ4 x4 R4 G4=>
      ⟨rfl,hlt,Γ2,ρ4,st2,x.trans (x2.trans x4),R4,G4,AccS.later a x4⟩
     cases rb:body Γ1 st' with
     | nx Γ2 st2=>rw [rb] at hA2; exact again hA2
     | ct Γ2 st2=>rw [rb] at hA2; exact again hA2
     | bk Γ2 st2=>rw [rb] at hA2; exact hA2
     | rt v st2=>rw [rb] at hA2; exact hA2
     | exc y st2=>rw [rb] at hA2; exact hA2
     | stuck=>rw [rb] at hA2; exact hA2.elim
   ·rw [bO hw] at hA; exact hA.elim
  ·left
   have ei:i=iw.1.length:=by omega
   subst ei;rw [List.drop_length,W1] at hA
   by_cases hw:wOk iw.2 st'
   ·rw [bN hw] at hA;exact ⟨src.stop H' ρ' st' x R' hw,hA σ' H' ρ' (Ext.refl _ _) R' G'⟩
   ·rw [bO hw] at hA; exact hA.elim)⟩
def Z7 (mt:MT) (body:MS):Nat->Gam->Q0->SR
 | 0,_,_=>.stuck
 | n + 1, Γ, st => (mt Γ st).sbind fun b st1 => if b = true then (match body Γ st1 with
   | .nx Γ2 st2=>Z7 mt body n Γ2 st2
   | .ct Γ2 st2=>Z7 mt body n Γ2 st2
   | .bk Γ2 st2=>.nx Γ2 st2
   | .rt v st2=>.rt v st2
   | .exc x st2=>.exc x st2
   | .stuck=>.stuck) else .nx Γ st1
theorem Qbs (n:Nat) {bd:List aK} {body:MS} (hp:PassesOwn (aI X.prog X.w) X.A X.env X.xe) (hc:SimT X E c mt) (hb:SimB X E bd body):SimS X E (.While c bd [] pos) (Z7 mt body n):=
 ⟨fun Γ σ H ρ st D R G h=>WS.of (Qcm hp Q3t Q0v) (by
  let W:Nat->St->Hp->Prop:=fun m σ' H'=>∃ Γ' ρ' st',Rel H' ρ' st'/\EnvR H' ρ' Γ' σ'/\AccS X.mg E D H' ρ' (Z7 mt body m Γ' st')
  refine ⟨W,⟨n,Γ,ρ,st,R,G,h⟩,?_⟩;rintro m σ' H' ⟨Γ',ρ',st',R',G',hA⟩;cases m with
  | zero=>exact hA.elim
  | succ m=>
   rw [Z7] at hA;refine hc.use R' G' hA.bind fun b st1 H1 ρ1 x1 R1 G1 h1=>?_
   cases b with
   | false=>rw [bO F0] at h1 ⊢; exact h1 σ' H1 ρ1 (Ext.refl _ _) R1 G1
   | true=>
    rw [bN rfl] at h1 ⊢;refine ⟨fun σ2 H2=>W m σ2 H2,fun σ2 H2 z=>⟨m,Nat.lt_succ_self _,z⟩,hb.run Γ' σ' H1 ρ1 st1 _ R1 G1 ?_⟩
    have again:∀ {Γ2:Gam} {st2:Q0},AccS X.mg E D H1 ρ1 (Z7 mt body m Γ2 st2)->∀ σ' H'' ρ'',Ext H1 ρ1 H'' ρ''->Rel H'' ρ'' st2->EnvR H'' ρ'' Γ2 σ'->W m σ' H'':=fun {Γ2 st2} a σ4 H4 ρ4 x4 R4 G4=>⟨Γ2,ρ4,st2,R4,G4,AccS.later a x4⟩
    cases rb:body Γ' st1 with
    | nx Γ2 st2=>rw [rb] at h1; exact again h1
    | ct Γ2 st2=>rw [rb] at h1; exact again h1
    | bk Γ2 st2=>rw [rb] at h1; exact h1
    | rt v st2=>rw [rb] at h1; exact h1
    | exc y st2=>rw [rb] at h1; exact h1
    | stuck=>rw [rb] at h1; exact h1.elim)⟩
def Q7d (x:Str) (m:ME):MS:=fun Γ st=>(m Γ st).sbind fun _ st1=>.exc ⟨x,none⟩ st1
theorem Qbu {C:aB} {np cpos:Pos} (hcalm:X.calm=true) (RO:Q82 X E) (hg:Gl X x) (hm:X.mg x=some (.ref C)) (q:PySem.W.excIn X.K C Qfd "ValueError.__new__" = true) (he:SimE X E e m)
  (hdb:(x == ("__debug__" : Str))=false:=by decide) (hst:aN [e] X.env=[(false,aM e X.env)]:=by rfl):SimS X E (.Raise (some (.Call (.Name x np) [e] [] cpos)) none pos) (Q7d x m):=
 ⟨fun Γ σ H ρ st D R G h=>WS.of (Qa2 hcalm RO hg hm q (jx Jj Q3v (by rw [hst]; rfl)) hdb hst) (he.use R G h.bind fun p st1 H1 ρ1 v x1 R1 G1 r1 h1=>⟨F6 (show 1<=lim by decide) yd,h1 C none H1 ρ1 hm (Ext.refl _ _) R1 rfl⟩)⟩
end
def WM (X:Cx) (id:String):V->List V->Hp->VK->Prop:=fun x xs H Q=>∀ (pins:List (aB × Obj)) (s:aC) (σ:St) (v:aA) (us:List aA),Inv X pins σ H s->RelV x v->Vals xs us->aF (aI X.prog X.w) X.A (call (.builtin id) (v :: us)) (EP X pins σ Q) X.xe s
theorem Quy {id:String}:MtR X id (WM X id):=fun pins s σ _ _ _ v us _ I r rs h=>h pins s σ v us I r rs
theorem WM.of {id:String} {r:V->List V->Hp->VK->Prop} {x:V} {xs:List V} (h:MtR X id r) (q:r x xs H Q):WM X id x xs H Q:=fun pins s σ v us I r1 r2=>h pins s σ H x xs v us Q I r1 r2 q
abbrev MF:=Q0->PV->List PV->Res PV
structure MtS (X:Cx) (E:XK) (id:String) (o:MF):Prop where
 run:∀ (H:Hp) (ρ:Tk) (st:Q0) (p:PV) (ps:List PV) (x:V) (xs:List V) (Q:VK),Rel H ρ st->Rep H ρ p x->RepL H ρ ps xs->Acc X.mg E H ρ (QV Q) (o st p ps)->WM X id x xs H Q
variable {o:aH} {es:List aH} {mo:ME} {mr:Gam->Q0->Res (List PV)} {name:Str} {apos cpos:Pos} {T:String} {f:MF}
section
variable {id:String}
def mBM (f:MF) (mo:ME) (mr:Gam->Q0->Res (List PV)):ME:=fun Γ st=>(mo Γ st).bind fun p st1=>match Ym st1 p with
 | some _=>(mr Γ st1).bind fun ps st2=>f st2 p ps
 | none=>.stuck
theorem Qiw (pa:PlainAttrs "list") (slot:Slot "list" name id) (hty:typeOf (.builtin id)=pure (.type "method_descriptor")) (hm:MtS X E id f) (ho:SimE X E o mo) (ha:SimA X E (e :: es) mr)
  (hbase:bH o name X.env (aM o X.env)=aM o X.env:=by rfl)
  (hfew:((aX cpos (aN (e :: es) X.env)).all (fun x=>!x.1) && (backToKw cpos (keywordEach [] X.env)).all (fun x=>x.1.isSome)
   && decide ((e :: es).length + ([]:List Keyword).length + (if ([]:List Keyword).isEmpty then 0 else 1) < 30))=true:=by rfl)
  (hline:(apos.endLine == cpos.line)=true:=by rfl) (hs:aN (e :: es) X.env=(false,aM e X.env) :: aN es X.env:=by rfl) (hplain:(aX cpos (aN es X.env)).any (·.1)=false:=by rfl) :
  SimE X E (.Call (.Attribute o name apos) (e :: es) [] cpos) (mBM f mo mr):=
 ⟨fun Γ σ H ρ st Q R G h=>WE.of (Qrc pa slot hty Quy Jj xg hbase hfew hline hs hplain) (ho.use R G h.bind fun p st1 H1 ρ1 v x1 R1 G1 r1 h1=>by
  split at h1
  ·rename_i ys el;obtain ⟨a,vs,rfl,hr,_⟩:=Jb R1 r1 el;exact ⟨.inl ⟨rfl,vs,.inl hr⟩,ha.use R1 G1 h1.bind fun ps st2 H2 ρ2 us x2 R2 G2 r2 h2=>hm.run H2 ρ2 st2 p ps _ us Q R2 (r1.ext x2) r2 h2⟩
  ·exact h1.elim)⟩
def chg (st:Q0) (p:PV) (g:List PV->Option (PV × List PV)):Res PV:=match p with
 | .ref i=>match st[i]? with
  | some (.lst xs)=>match g xs with
   | some (r,ys)=>.ok r (st.set i (.lst ys))
   | none=>.stuck
  | _=>.stuck
 | _=>.stuck
theorem Q9d {x:V} {g:List PV->Option (PV × List PV)} (R:Rel H ρ st) (rp:Rep H ρ p x) (h:Acc mg E H ρ (QV Q) (chg st p g)) :
  ∃ a xs vs r ys,x=.ref a/\H a=some (.lst vs)/\RepL H ρ xs vs/\g xs=some (r,ys)/\∀ us v,RepL H ρ ys us->Rep H ρ r v->Q v (upd H a (.lst us)):=by
 unfold chg at h
 split at h
 ·rename_i i
  split at h
  ·rename_i xs hs
   split at h
   ·rename_i r ys hg;obtain ⟨a,ea,rfl⟩:=rp;obtain ⟨b,vs,f1,f2,f3⟩:=R.lst hs;rw [ea] at f1; cases f1;refine ⟨a,xs,vs,r,ys,rfl,f2,f3,hg,fun us v ru rv=>?_⟩;have x:=Ext.put (o':=.lst us) (F3 ea) f2;exact h _ ρ x (R.put ea f2 ru) v (rv.ext x)
   ·exact h.elim
  ·exact h.elim
 ·exact h.elim
def Qq:MF:=fun st p ps=>match ps with
 | [y]=>chg st p fun xs=>if xs.length < lim then some (.non,xs ++ [y]) else none
 | _=>.stuck
theorem Qae:MtS X E "list.append" Qq:=⟨fun H ρ st p ps x xs Q R rp rs h=>by
 unfold Qq at h
 split at h
 ·obtain ⟨v,rfl,r⟩:=Zh rs;obtain ⟨a,ys,vs,r0,zs,rfl,f1,f2,f3,k⟩:=Q9d R rp h
  split at f3
  ·rename_i hl;cases f3;exact WM.of Qac ⟨a,vs,v,rfl,rfl,f1,by rw [<- f2.length]; exact E4 hl yd,k _ _ (f2.append (RepL.cons r RepL.nil)) rfl⟩
  ·cases f3
 ·exact h.elim⟩
def X0:MF:=fun st p ps=>match ps with
 | [q]=>match Wc st q with
  | some ys=>chg st p fun xs=>if xs.length + ys.length<=lim then some (.non,xs ++ ys) else none
  | none=>.stuck
 | _=>.stuck
theorem Qad:MtS X E "list.extend" X0:=⟨fun H ρ st p ps x xs Q R rp rs h=>by
 unfold X0 at h
 split at h
 ·obtain ⟨v,rfl,r⟩:=Zh rs
  split at h
  ·rename_i ws ew;obtain ⟨b,us,rfl,hb,rb⟩:=Q18 R r ew;obtain ⟨a,ys,vs,r0,zs,rfl,f1,f2,f3,k⟩:=Q9d R rp h
   split at f3
   ·rename_i hl;cases f3;exact WM.of Qab ⟨a,b,vs,us,rfl,rfl,f1,hb,by rw [<- f2.length,<- rb.length]; exact W0 hl,k _ _ (f2.append rb) rfl⟩
   ·cases f3
  ·exact h.elim
 ·exact h.elim⟩
theorem Q9y (ho:SimE X E o mo) (ha:SimA X E [e] mr) (hbase:bH o "append" X.env (aM o X.env)=aM o X.env:=by rfl)
  (hfew:((aX cpos (aN [e] X.env)).all (fun x=>!x.1) && (backToKw cpos (keywordEach [] X.env)).all (fun x=>x.1.isSome) && decide ([e].length + ([]:List Keyword).length + (if ([]:List Keyword).isEmpty then 0 else 1) < 30))=true:=by rfl)
  (hline:(apos.endLine == cpos.line)=true:=by rfl) (hs:aN [e] X.env=(false,aM e X.env) :: aN [] X.env:=by rfl):SimE X E (.Call (.Attribute o "append" apos) [e] [] cpos) (mBM Qq mo mr):=
 Qiw PySem.F.plainAttrs_list PySem.F.slot_list_append PySem.F.type_list_append Qae ho ha hbase hfew hline hs
theorem Q9w (ho:SimE X E o mo) (ha:SimA X E [e] mr) (hbase:bH o "extend" X.env (aM o X.env)=aM o X.env:=by rfl)
  (hfew:((aX cpos (aN [e] X.env)).all (fun x=>!x.1) && (backToKw cpos (keywordEach [] X.env)).all (fun x=>x.1.isSome) && decide ([e].length + ([]:List Keyword).length + (if ([]:List Keyword).isEmpty then 0 else 1) < 30))=true:=by rfl)
  (hline:(apos.endLine == cpos.line)=true:=by rfl) (hs:aN [e] X.env=(false,aM e X.env) :: aN [] X.env:=by rfl):SimE X E (.Call (.Attribute o "extend" apos) [e] [] cpos) (mBM X0 mo mr):=
 Qiw PySem.F.plainAttrs_list PySem.F.slot_list_extend PySem.F.type_list_extend Qad ho ha hbase hfew hline hs
end
section
mutual
def fz (n:Nat) (st:Q0):Nat->PV->Option PV
 | 0,_=>none
 | _ + 1,.non=>some .non
 | _ + 1,.bl b=>some (.bl b)
 | _ + 1,.int i=>some (.int i)
 | _ + 1,.str x=>some (.str x)
 | k + 1,.tup xs=>(fzL n st k xs).map .tup
 | k + 1,.lst xs=>(fzL n st k xs).map .lst
 | k + 1,.fro xs=>(fzL n st k xs).map .fro
 | _ + 1,.dic=>some .dic
 | k + 1,.ref i=>if i < n then some (.ref i) else match st[i]? with
  | some (.lst xs)=>(fzL n st k xs).map .lst
  | _=>none
def fzL (n:Nat) (st:Q0):Nat->List PV->Option (List PV)
 | _,[]=>some []
 | k,x :: xs=>(fz n st k x).bind fun y=>(fzL n st k xs).map (y :: ·)
end
theorem Q04 :∀ {m k:Nat} {p:PV},J0 m p=true->m < k->fz n st k p=some p:=by
 intro m
 induction m with
 | zero=>
  intro k p g hk;obtain ⟨k,rfl⟩:∃ j,k=j + 1:=⟨k - 1,by omega⟩;cases p with
  | tup _=>cases g
  | lst _=>cases g
  | fro _=>cases g
  | ref _=>cases g
  | dic=>cases g
  | _=>rw [fz]
 | succ m ih=>
  intro k p g hk;obtain ⟨k,rfl⟩:∃ j,k=j + 1:=⟨k - 1,by omega⟩;have hL:∀ xs:List PV,xs.all (J0 m)=true->fzL n st k xs=some xs:=by
   intro xs
   induction xs with
   | nil=>intro _; rw [fzL]
   | cons x xs ihx=>
    intro g;rw [List.all_cons,L8] at g;rw [fzL,ih g.1 (by omega),ihx g.2]; rfl
  cases p with
  | tup xs=>rw [fz,hL xs g]; rfl
  | lst xs=>rw [fz,hL xs g]; rfl
  | fro xs=>rw [fz,hL xs g]; rfl
  | ref _=>cases g
  | dic=>cases g
  | _=>rw [fz]
section
variable {H:Hp} {ρ:Tk} {st:Q0} {tr0 rest hs:List aB}
theorem Qeb (R:Rel H ρ st) (ht:ρ.tr=tr0 ++ rest) (hh:∀ a,a∈hs->a∈ρ.hid):∀ (k:Nat) {p p':PV} {v:V},Rep H ρ p v->fz tr0.length st k p=some p'->Rep H ⟨tr0,hs⟩ p' v:=by
 have out:∀ a,a∉ρ->a∉(⟨tr0,hs⟩:Tk):=fun a n z=>by
  rcases z with z | z
  ·exact n (.inl (by rw [ht]; exact L5 _ z))
  ·exact n (.inr (hh a z))
 intro k
 induction k with
 | zero=>intro p p' v r e; rw [fz] at e; cases e
 | succ k ih=>
  have hL:∀ {ps ps':List PV} {vs:List V},RepL H ρ ps vs->fzL tr0.length st k ps=some ps'->RepL H ⟨tr0,hs⟩ ps' vs:=by
   intro ps
   induction ps with
   | nil=>intro ps' vs r e; rw [fzL] at e; cases e; exact r
   | cons x xs ihx=>
    intro ps' vs r e;obtain ⟨v,t,rfl,r1,r2⟩:=r;rw [fzL] at e;cases e1:fz tr0.length st k x with
    | none=>rw [e1] at e; cases e
    | some y=>
     rw [e1] at e;have e:(fzL tr0.length st k xs).map (y :: ·)=some ps':=e;cases e2:fzL tr0.length st k xs with
     | none=>rw [e2] at e; cases e
     | some ys=>
      rw [e2] at e;cases e;exact ⟨v,t,rfl,ih r1 e1,ihx r2 e2⟩
  intro p p' v r e;cases p with
  | non=>rw [fz] at e; cases e; exact r
  | bl b=>rw [fz] at e; cases e; exact r
  | int i=>rw [fz] at e; cases e; exact r
  | str x=>rw [fz] at e; cases e; exact r
  | tup xs=>
   rw [fz] at e;obtain ⟨a,vs,e1,ha,na,ra⟩:=r;cases e2:fzL tr0.length st k xs with
   | none=>rw [e2] at e; cases e
   | some ys=>rw [e2] at e; cases e; exact ⟨a,vs,e1,ha,out a na,hL ra e2⟩
  | lst xs=>
   rw [fz] at e;obtain ⟨a,vs,e1,ha,na,ra⟩:=r;cases e2:fzL tr0.length st k xs with
   | none=>rw [e2] at e; cases e
   | some ys=>rw [e2] at e; cases e; exact ⟨a,vs,e1,ha,out a na,hL ra e2⟩
  | fro xs=>
   rw [fz] at e;obtain ⟨a,vs,e1,ha,na,ra⟩:=r;cases e2:fzL tr0.length st k xs with
   | none=>rw [e2] at e; cases e
   | some ys=>rw [e2] at e; cases e; exact ⟨a,vs,e1,ha,out a na,hL ra e2⟩
  | dic=>
   rw [fz] at e;cases e;obtain ⟨a,e1,ha,na⟩:=r;exact ⟨a,e1,ha,out a na⟩
  | ref i=>
   rw [fz] at e;obtain ⟨a,ea,rfl⟩:=r
   by_cases hi:i < tr0.length
   ·rw [bN hi] at e;cases e;rw [ht,O5 hi] at ea;exact ⟨a,ea,rfl⟩
   ·rw [bO hi] at e
    split at e
    ·rename_i xs hs';obtain ⟨b,vs,f1,f2,f3⟩:=R.lst hs';rw [ea] at f1; cases f1;cases e2:fzL tr0.length st k xs with
     | none=>rw [e2] at e; cases e
     | some ys=>
      rw [e2] at e; cases e;refine ⟨a,vs,rfl,f2,fun z=>?_,hL f3 e2⟩;rcases z with z | z
      ·have z:a∈tr0:=z;obtain ⟨j,hj,ej⟩:=List.getElem_of_mem z;have g1:ρ.tr[j]?=some a:=by rw [ht,O5 hj,O2 hj,ej]
       have l1:=O0.mp g1;have l2:=O0.mp ea;have:=Q2q R.nd l1.1 l2.1 (l1.2.trans l2.2.symm);omega
      ·exact R.ap a (hh a z) (F3 ea)
    ·cases e
mutual
def bel (n:Nat):PV->Prop
 | .tup xs=>belL n xs
 | .lst xs=>belL n xs
 | .fro xs=>belL n xs
 | .ref i=>i < n
 | _=>True
def belL (n:Nat):List PV->Prop
 | []=>True
 | x :: xs=>bel n x/\belL n xs
end
mutual
theorem Rep.bel:∀ {p:PV} {v:V},Rep H ρ p v->bel ρ.tr.length p
 | .non,_,_=>by simp [Sm.bel]
 | .bl _,_,_=>by simp [Sm.bel]
 | .int _,_,_=>by simp [Sm.bel]
 | .str _,_,_=>by simp [Sm.bel]
 | .tup ps,_,⟨_,_,_,_,_,r⟩=>by rw [Sm.bel]; exact RepL.bel r
 | .lst ps,_,⟨_,_,_,_,_,r⟩=>by rw [Sm.bel]; exact RepL.bel r
 | .fro ps,_,⟨_,_,_,_,_,r⟩=>by rw [Sm.bel]; exact RepL.bel r
 | .ref i,_,⟨_,e,_⟩=>by rw [Sm.bel]; exact (O0.mp e).1
 | .dic,_,_=>by simp [Sm.bel]
theorem RepL.bel:∀ {ps:List PV} {vs:List V},RepL H ρ ps vs->belL ρ.tr.length ps
 | [],_,_=>by simp [belL]
 | p :: ps,_,⟨_,_,_,r1,r2⟩=>by rw [belL]; exact ⟨Rep.bel r1,RepL.bel r2⟩
end
mutual
theorem Rep.less (ht:ρ.tr=tr0 ++ rest) (hh:∀ a,a∈hs->a∈ρ.hid):∀ {p:PV} {v:V},Sm.bel tr0.length p->Rep H ρ p v->Rep H ⟨tr0,hs⟩ p v
 | .non,_,_,r=>r
 | .bl _,_,_,r=>r
 | .int _,_,_,r=>r
 | .str _,_,_,r=>r
 | .tup ps,_,b,⟨a,vs,e,ha,na,r⟩=>⟨a,vs,e,ha,fun z=>na (z.imp (fun z=>by rw [ht]; exact L5 _ z) (hh a)),RepL.less ht hh (by rw [Sm.bel] at b; exact b) r⟩
 | .lst ps,_,b,⟨a,vs,e,ha,na,r⟩=>⟨a,vs,e,ha,fun z=>na (z.imp (fun z=>by rw [ht]; exact L5 _ z) (hh a)),RepL.less ht hh (by rw [Sm.bel] at b; exact b) r⟩
 | .fro ps,_,b,⟨a,vs,e,ha,na,r⟩=>⟨a,vs,e,ha,fun z=>na (z.imp (fun z=>by rw [ht]; exact L5 _ z) (hh a)),RepL.less ht hh (by rw [Sm.bel] at b; exact b) r⟩
 | .ref i,_,b,⟨a,e,e2⟩=>⟨a,by rw [Sm.bel] at b; rw [ht,O5 b] at e; exact e,e2⟩
 | .dic,_,_,⟨a,e,ha,na⟩=>⟨a,e,ha,fun z=>na (z.imp (fun z=>by rw [ht]; exact L5 _ z) (hh a))⟩
theorem RepL.less (ht:ρ.tr=tr0 ++ rest) (hh:∀ a,a∈hs->a∈ρ.hid):∀ {ps:List PV} {vs:List V},belL tr0.length ps->RepL H ρ ps vs->RepL H ⟨tr0,hs⟩ ps vs
 | [],_,_,r=>r
 | p :: ps,_,b,⟨v,t,e,r1,r2⟩=>by
  rw [belL] at b;exact ⟨v,t,e,Rep.less ht hh b.1 r1,RepL.less ht hh b.2 r2⟩
end
end
theorem Q58 {H':Hp} {ρ':Tk} {st':Q0} (R:Rel H ρ st) (x:Ext H ρ H' ρ') (R':Rel H' ρ' st') (hp:st <+: st'):Ext H ρ H' ρ/\Rel H' ρ st:=by
 obtain ⟨rest,ht⟩:=x.pre;obtain ⟨more,hm⟩:=hp;refine ⟨⟨List.prefix_refl _,fun _ h=>h,fun _ h=>.inl h,x.keep,fun _ h=>.inl h,x.old,x.frz⟩,R.len,R.nd,fun a ha=>let ⟨o,e,n⟩:=R.hd a ha; ⟨o,x.keep a o e (R.ap a ha),n⟩,R.ap,fun i a c h1 h2=>?_⟩
 have hi:i < st.length:=(O0.mp h2).1;have q:=R'.cell i a c (by rw [<- ht,O5 (O0.mp h1).1]; exact h1) (by rw [<- hm,O5 hi]; exact h2);have q0:=R.cell i a c h1 h2;cases c with
 | lst ps=>
  obtain ⟨vs,e1,e2⟩:=q;obtain ⟨us,_,f2⟩:=q0;exact ⟨vs,e1,RepL.less (ρ:=ρ') (tr0:=ρ.tr) (hs:=ρ.hid) ht.symm x.hidM f2.bel e2⟩
 | dic ps=>
  obtain ⟨vs,e1,e2⟩:=q;obtain ⟨us,_,f2⟩:=q0;exact ⟨vs,e1,e2.1,RepL.less (ρ:=ρ') (tr0:=ρ.tr) (hs:=ρ.hid) ht.symm x.hidM f2.2.bel e2.2⟩
 | dtp ps=>
  obtain ⟨vs,e1,e2⟩:=q;obtain ⟨us,_,f2⟩:=q0;exact ⟨vs,e1,e2.1,RepL.less (ρ:=ρ') (tr0:=ρ.tr) (hs:=ρ.hid) ht.symm x.hidM f2.2.bel e2.2⟩
 | frd ps=>
  obtain ⟨vs,e1,e2⟩:=q;obtain ⟨us,_,f2⟩:=q0;exact ⟨vs,e1,e2.1,RepL.less (ρ:=ρ') (tr0:=ρ.tr) (hs:=ρ.hid) ht.symm x.hidM f2.2.bel e2.2⟩
 | frt ps=>
  obtain ⟨vs,e1,e2⟩:=q;obtain ⟨us,_,f2⟩:=q0;exact ⟨vs,e1,e2.1,RepL.less (ρ:=ρ') (tr0:=ρ.tr) (hs:=ρ.hid) ht.symm x.hidM f2.2.bel e2.2⟩
 | obj C ps=>
  obtain ⟨vs,e1,e2⟩:=q;obtain ⟨us,_,f2⟩:=q0;exact ⟨vs,e1,e2.1,RepL.less (ρ:=ρ') (tr0:=ρ.tr) (hs:=ρ.hid) ht.symm x.hidM f2.2.bel e2.2⟩
abbrev FN:=List PV->Q0->Res PV
variable {FF:FN}
open Classical in
def fin (st:Q0) (v:PV) (st':Q0):Res PV:=if st <+: st' then okO st (fz st.length st' 16 v) else .ok v st'
open Classical in
def Qnw (st:Q0) (x:Exc) (st':Q0):Res PV:=if st <+: st' then (match x.fs with
 | none=>.exc x st
 | some (n,p)=>match fz st.length st' 16 p with
  | some q=>.exc ⟨x.cls,some (n,q)⟩ st
  | none=>.stuck) else .exc x st'
def Qn (body:MS) (nl:Nat):FN:=fun ps st=>match body (ps.map some ++ List.replicate (nl - ps.length) none) st with
 | .rt v st'=>fin st v st'
 | .nx _ st'=>fin st .non st'
 | .exc x st'=>Qnw st x st'
 | _=>.stuck
theorem Q98 {st':Q0} (R:Rel H ρ st) (h:Acc mg E H ρ (QV Q) (fin st p st')):∀ v H' ρ',Ext H ρ H' ρ'->Rel H' ρ' st'->Rep H' ρ' p v->Q v H':=fun v H' ρ' x R' r=>by
 unfold fin at h
 by_cases hp:st <+: st'
 ·rw [bN hp] at h;cases e:fz st.length st' 16 p with
  | none=>rw [e] at h; exact h.elim
  | some q=>
   rw [e] at h;obtain ⟨x2,R2⟩:=Q58 R x R' hp;obtain ⟨rest,ht⟩:=x.pre;rw [<- R.len] at e;exact h H' ρ x2 R2 v (Qeb (tr0:=ρ.tr) (hs:=ρ.hid) R' ht.symm x.hidM 16 r e)
 ·rw [bO hp] at h;exact h H' ρ' x R' v r
def spF (mg:Str->Option aA) (n:Nat) (F:FN):Sp:=fun vs H Q E=>vs.length=n/\∃ ρ st ps,Rel H ρ st/\RepL H ρ ps vs/\Acc mg E H ρ (QV Q) (F ps st)
theorem Q2f (r:RepL H ρ ps vs):EnvR H ρ (ps.map some ++ List.replicate (N.length - ps.length) none) (L2.start N vs):=by
 have hl:=r.length;unfold L2.start;refine ⟨by simp [hl],fun i p e=>?_⟩
 by_cases hi:i < ps.length
 ·rw [O5 (by simpa using hi),E8] at e;rw [O5 (by simp; omega),E8];cases q:ps[i]? with
  | none=>rw [q] at e; cases e
  | some p'=>
   rw [q] at e;cases e;obtain ⟨v,e1,e2⟩:=r.get q;exact ⟨v,by rw [e1]; rfl,e2⟩
 ·rw [D7 (by simpa using hi),List.getElem?_replicate] at e
  split at e <;> cases e
section
variable {P:aL} {w:aJ} {K:PySem.W.Frag} {mg:Str->Option aA} {base:Heap}
theorem Qnv {qual:Str} {st:aK} {f:aB} {ps:List Str} {k:Nat} {m:MS} (F:Fun K x qual st f fd) (S:FnScope N ps (Q9 st))
  (hb:∀ (cdv:aA) (A:aQ) (outer:List PySem.Env) (s:aC) (H:Hp) (E:XK),Room k (A.deeper (PyProof.Rows.envOfC qual (Q9 st) s.heap.objs.size f cdv))->SimB (cxD P w K mg base N qual (Q9 st) f cdv A outer s H E) E (Z2 st) m) :
  FnOk P w K mg base (CXD P w) (k + 1) f fd ps (spF mg ps.length (Qn m N.length)):=by
 refine Fun.okD F S (fun vs H Q E h=>h.1) fun cdv A outer s H vs Q E hr hsp=>⟨_,Q0v,?_⟩
 obtain ⟨hl,ρ,st0,pvs,R,rl,hA⟩:=hsp;refine (hb cdv A outer s H E hr).run _ (L2.start N vs) H ρ st0 _ R (Q2f rl) ?_;unfold Qn at hA;cases rr:m (pvs.map some ++ List.replicate (N.length - pvs.length) none) st0 with
 | rt v st1=>rw [rr] at hA; exact Q98 R hA
 | nx Γ st1=>rw [rr] at hA; exact fun σ' H' ρ' x' R' G'=>Q98 R hA .non H' ρ' x' R' rfl
 | bk Γ st1=>rw [rr] at hA; exact hA.elim
 | ct Γ st1=>rw [rr] at hA; exact hA.elim
 | stuck=>rw [rr] at hA; exact hA.elim
 | exc y st1=>
  rw [rr] at hA;have hA:Acc mg E H ρ (QV Q) (Qnw st0 y st1):=hA;intro C dv H' ρ' hm x' R' hf;unfold Qnw at hA
  by_cases hp:st0 <+: st1
  ·rw [bN hp] at hA;obtain ⟨x2,R2⟩:=Q58 R x' R' hp;obtain ⟨cls,fs⟩:=y;cases fs with
   | none=>exact hA C dv H' ρ hm x2 R2 hf
   | some np=>
    obtain ⟨nm,p⟩:=np;simp only at hA;cases e:fz st0.length st1 16 p with
    | none=>rw [e] at hA; exact hA.elim
    | some q=>
     rw [e] at hA;obtain ⟨rest,ht⟩:=x'.pre;rw [<- R.len] at e;obtain ⟨dx,v,e1,e2,e3,e4⟩:=hf;refine hA C dv H' ρ hm x2 R2 ⟨dx,v,e1,e2,fun z=>e3 (z.imp (fun z=>by rw [<- ht]; exact L5 _ z) (x'.hidM dx)),Qeb (tr0:=ρ.tr) (hs:=ρ.hid) R' ht.symm x'.hidM 16 e4 e⟩
  ·rw [bO hp] at hA;exact hA C dv H' ρ' hm x' R' hf
end
theorem Q97 {P:aL} {w:aJ} {mg:Str->Option aA} {base:Heap} {qual:Str} {st:aK} {f:aB} {ps:List Str} {k nl:Nat} {m:MS} (F:Fun K x qual st f fd) (S:FnScope N ps (Q9 st)) (hn:ps.length=n) (hnl:N.length=nl) (hF:FF=Qn m nl)
  (hb:∀ (cdv:aA) (A:aQ) (outer:List PySem.Env) (s:aC) (H:Hp) (E:XK),Room k (A.deeper (PyProof.Rows.envOfC qual (Q9 st) s.heap.objs.size f cdv))->SimB (cxD P w K mg base N qual (Q9 st) f cdv A outer s H E) E (Z2 st) m) :
  FnOk P w K mg base (CXD P w) (k + 1) f fd ps (spF mg n FF):=by
 subst hn; subst hnl; subst hF;exact Qnv F S hb
structure DefS (P:aL) (w:aJ) (K:PySem.W.Frag) (mg:Str->Option aA) (base:Heap) (k:Nat) (x:Str) (n:Nat) (F:FN):Prop where
 ex:∃ (f:aB) (fd:aP) (ps:List Str),FnOk P w K mg base (CXD P w) k f fd ps (spF mg n F)/\mg x=some (.ref f)/\PySem.W.keepIn K (.ref f)=true/\Binds K fd ps []/\ps.length=n
def Qe (n:Nat) (F:FN) (mr:Gam->Q0->Res (List PV)):ME:=fun Γ st=>(mr Γ st).bind fun ps st1=>if ps.length=n then F ps st1 else .stuck
section
variable {X:Cx} {E:XK} {k n:Nat} {x:Str} {F:FN} {p pos:Pos} {e:aH} {es:List aH} {mr:Gam->Q0->Res (List PV)}
theorem Kz (D:DefS X.prog X.w X.K X.mg X.base k x n F) (hr:Room k X.A) (hx:Q1x (CXD X.prog X.w) X E) (hg:Gl X x) (ha:SimA X E (e :: es) mr) (hdb:(x == ("__debug__" : Str))=false:=by decide)
  (he:aN (e :: es) X.env=(false,aM e X.env) :: aN es X.env:=by rfl) (hpl:(aX pos (aN es X.env)).any (·.1)=false:=by rfl):SimE X E (.Call (.Name x p) (e :: es) [] pos) (Qe n F mr):=by
 obtain ⟨f,fd,ps,hF,hm,hk,hb,hl⟩:=D.ex;exact ⟨fun Γ σ H ρ st Q R G h=>WE.of (Qh7 hF hr hg hm hk hb .nil hx xg hdb he hpl) (ha.use R G h.bind fun qs st1 H1 ρ1 vs x1 R1 G1 r1 h1=>by
  by_cases hq:qs.length=n
  ·rw [bN hq] at h1;show spF X.mg n F (vs ++ []) H1 Q E;rw [F9];exact ⟨by rw [<- r1.length]; exact hq,ρ1,st1,qs,R1,r1,h1⟩
  ·rw [bO hq] at h1; exact h1.elim)⟩
end
end
@[simp] theorem Qk (a:α) (st:Q0) (f:α->Q0->Res β):(Res.ok a st).bind f=f a st:=rfl
@[simp] theorem Qpe (f:α->Q0->Res β):(Res.stuck:Res α).bind f=.stuck:=rfl
@[simp] theorem Qt0 (x:Exc) (st:Q0) (f:α->Q0->Res β):(Res.exc x st:Res α).bind f=.exc x st:=rfl
@[simp] theorem Vx (a:α) (st:Q0) (f:α->Q0->SR):(Res.ok a st).sbind f=f a st:=rfl
@[simp] theorem Qix (f:α->Q0->SR):(Res.stuck:Res α).sbind f=.stuck:=rfl
@[simp] theorem Qps (x:Exc) (st:Q0) (f:α->Q0->SR):(Res.exc x st:Res α).sbind f=.exc x st:=rfl
@[simp] theorem Qtj (i:Nat) (Γ:Gam) (st:Q0):Q3 i Γ st=(match Γ[i]? with | some (some p)=>.ok p st | _=>.stuck):=rfl
@[simp] theorem Qvh (p:PV) (Γ:Gam) (st:Q0):mC p Γ st=.ok p st:=rfl
@[simp] theorem Qn7 (o:OP) (a b:ME) (Γ:Gam) (st:Q0):mOp o a b Γ st=(a Γ st).bind fun x st1=>(b Γ st1).bind fun y st2=>o st2 x y:=rfl
@[simp] theorem Qva (b:Bool) (st:Q0):asB (.bl b) st=.ok b st:=rfl
@[simp] theorem Qjp (m:ME) (Γ:Gam) (st:Q0):toB m Γ st=(m Γ st).bind asB:=rfl
def Qka {α:Type} (x:PV) (A B:Res α):Res α:=match x with
 | .bl true=>A
 | .bl false=>B
 | _=>.stuck
@[simp] theorem Qt7 (b:Bool) (A B:Res α):Qka (.bl b) A B=if b=true then A else B:=by cases b <;> rfl
@[simp] theorem Qpy (o o':OP) (a b c:ME) (Γ:Gam) (st:Q0):y9 o o' a b c Γ st=(a Γ st).bind fun x st1=>(b Γ st1).bind fun y st2=>(o st2 x y).bind fun k st3=>Qka k ((c Γ st3).bind fun z st4=>o' st4 y z) (.ok (.bl false) st3):=by
 unfold y9;refine congrArg _ (funext fun x=>funext fun st1=>congrArg _ (funext fun y=>funext fun st2=>congrArg _ (funext fun k=>funext fun st3=>?_)))
 cases k with
 | bl b=>cases b <;> rfl
 | _=>rfl
@[simp] theorem Qtr (a b:ME) (Γ:Gam) (st:Q0):yc a b Γ st=(a Γ st).bind fun x st1=>Qka x (b Γ st1) (.ok (.bl false) st1):=by
 unfold yc;refine congrArg _ (funext fun x=>funext fun st1=>?_);cases x with
 | bl b=>cases b <;> rfl
 | _=>rfl
@[simp] theorem Qtk (a:ME) (Γ:Gam) (st:Q0):Qn8 a Γ st=(a Γ st).bind fun x st1=>(match x with | .bl k=>.ok (.bl (!k)) st1 | _=>.stuck):=rfl
@[simp] theorem Qtn (a:ME) (Γ:Gam) (st:Q0):Qhv a Γ st=(a Γ st).bind fun x st1=>(match x with | .int k=>.ok (.int (-k)) st1 | _=>.stuck):=rfl
@[simp] theorem Q4v (a b:MT) (Γ:Gam) (st:Q0):Vf a b Γ st=(a Γ st).bind fun k st1=>if k=true then b Γ st1 else .ok false st1:=rfl
@[simp] theorem Qfu (a b:MT) (Γ:Gam) (st:Q0):Q21 a b Γ st=(a Γ st).bind fun k st1=>if k=true then .ok true st1 else b Γ st1:=rfl
@[simp] theorem Qbm (a:MT) (Γ:Gam) (st:Q0):Xw a Γ st=(a Γ st).bind fun k st1=>.ok (!k) st1:=rfl
@[simp] theorem Qv1 (c:MT) (a b:ME) (Γ:Gam) (st:Q0):mIf c a b Γ st=(c Γ st).bind fun k st1=>if k=true then a Γ st1 else b Γ st1:=rfl
@[simp] theorem Qtm (Γ:Gam) (st:Q0):Q6 Γ st=.ok [] st:=rfl
@[simp] theorem Qdr (m:ME) (mr:ML) (Γ:Gam) (st:Q0):Q1 m mr Γ st=(m Γ st).bind fun p st1=>(mr Γ st1).bind fun ps st2=>.ok (p :: ps) st2:=rfl
@[simp] theorem Qhq (mr:ML) (Γ:Gam) (st:Q0):Jd mr Γ st=(mr Γ st).bind fun ps st1=>if ps.length<=lim then .ok (.tup ps) st1 else .stuck:=rfl
@[simp] theorem Qtp (mr:ML) (Γ:Gam) (st:Q0):Q7e mr Γ st=(mr Γ st).bind fun ps st1=>if ps.length<=lim then .ok (.lst ps) st1 else .stuck:=rfl
@[simp] theorem Qs2 (mr:ML) (Γ:Gam) (st:Q0):Yr mr Γ st=(mr Γ st).bind fun ps st1=>if ps.length<=lim then .ok ps st1 else .stuck:=rfl
@[simp] theorem Qdn (m:ME) (l h:Gam->Q0->Res (Option Int)) (Γ:Gam) (st:Q0):mSl m l h Γ st=(m Γ st).bind fun p st1=>(l Γ st1).bind fun lo st2=>(h Γ st2).bind fun hi st3=>oSl st3 p lo hi:=rfl
@[simp] theorem Qn9 (Γ:Gam) (st:Q0):Jq Γ st=.ok none st:=rfl
@[simp] theorem Qs0 (m:ME) (Γ:Gam) (st:Q0):Yq m Γ st=(m Γ st).bind fun p st1=>(match p with | .int i=>.ok (some i) st1 | _=>.stuck):=rfl
@[simp] theorem Qds (o:CF) (mr:ML) (Γ:Gam) (st:Q0):Qm o mr Γ st=(mr Γ st).bind fun ps st1=>o st1 ps:=rfl
@[simp] theorem Qtq (T:String) (m:ME) (Γ:Gam) (st:Q0):Q7f T m Γ st=(m Γ st).bind fun p st1=>if qm st1 p=true then .stuck else .ok (.bl (isI T (dpv st1 p))) st1:=rfl
@[simp] theorem Qsn (st:Q0):qm st .non=false:=rfl
@[simp] theorem Qtt (st:Q0) (b:Bool):qm st (.bl b)=false:=rfl
@[simp] theorem Qsq (st:Q0) (b:Int):qm st (.int b)=false:=rfl
@[simp] theorem Qsk (st:Q0) (b:Str):qm st (.str b)=false:=rfl
@[simp] theorem Qsj (st:Q0) (b:List PV):qm st (.tup b)=false:=rfl
@[simp] theorem Qsp (st:Q0) (b:List PV):qm st (.lst b)=false:=rfl
@[simp] theorem Qsr (st:Q0) (b:List PV):qm st (.fro b)=false:=rfl
@[simp] theorem Qss (st:Q0):qm st .dic=false:=rfl
@[simp] theorem Qsm (st:Q0) (i:Nat):qm st (.ref i)=(match st[i]? with | some (.frd _)=>true | some (.frt _)=>true | some (.obj _ _)=>true | _=>false):=rfl
@[simp] theorem Qtx (st:Q0):dpv st .non=.non:=rfl
@[simp] theorem Qv8 (st:Q0) (b:Bool):dpv st (.bl b)=(.bl b):=rfl
@[simp] theorem Qtz (st:Q0) (b:Int):dpv st (.int b)=(.int b):=rfl
@[simp] theorem Qtw (st:Q0) (b:Str):dpv st (.str b)=(.str b):=rfl
@[simp] theorem Qtv (st:Q0) (b:List PV):dpv st (.tup b)=(.tup b):=rfl
@[simp] theorem Qty (st:Q0) (b:List PV):dpv st (.lst b)=(.lst b):=rfl
@[simp] theorem Qu0 (st:Q0) (b:List PV):dpv st (.fro b)=(.fro b):=rfl
@[simp] theorem Qv7 (st:Q0):dpv st .dic=.dic:=rfl
@[simp] theorem Qvi (st:Q0) (i:Nat):dpv st (.ref i)=(match st[i]? with | some (.dic _)=>.dic | some (.dtp _)=>.dic | _=>.ref i):=rfl
@[simp] theorem Qhp (m:ML) (Γ:Gam) (st:Q0):Ub m Γ st=(m Γ st).bind fun ps st1=>.ok (.lst ps) st1:=rfl
@[simp] theorem Qhr (m:ML) (Γ:Gam) (st:Q0):Yp m Γ st=(m Γ st).bind fun ps st1=>.ok (.ref st1.length) (st1 ++ [.lst ps]):=rfl
@[simp] theorem Qah (cap:List (Option Nat)) (ga:GA) (mi:MI) (mt:MT) (me:ME) (Γ:Gam) (st:Q0):Qx cap ga mi mt me Γ st=(mi Γ st).bind fun iw st1=>noX (Jg ga mt me iw.2 (Zb cap Γ) iw.1 st1):=rfl
@[simp] theorem Qrz (Γ:Gam) (st:Q0):Jk Γ st=.ok true st:=rfl
@[simp] theorem Qai (n:Nat) (F:FN) (mr:ML) (Γ:Gam) (st:Q0):Qe n F mr Γ st=(mr Γ st).bind fun ps st1=>if ps.length=n then F ps st1 else .stuck:=rfl
@[simp] theorem Qs1 (Γ:Gam) (st:Q0):Zd Γ st=.nx Γ st:=rfl
@[simp] theorem Q5w (a b:MS) (Γ:Gam) (st:Q0):Qc a b Γ st=(match a Γ st with | .nx Γ1 st1=>b Γ1 st1 | r=>r):=rfl
@[simp] theorem Q5x (m:ME) (Γ:Gam) (st:Q0):Yf m Γ st=(m Γ st).sbind fun _ st1=>.nx Γ st1:=rfl
@[simp] theorem Qhu (m:ME) (Γ:Gam) (st:Q0):Jh m Γ st=(m Γ st).sbind fun p st1=>.rt p st1:=rfl
@[simp] theorem Qhs (i:Nat) (m:ME) (Γ:Gam) (st:Q0):Qr i m Γ st=(m Γ st).sbind fun p st1=>.nx (Γ.set i (some p)) st1:=rfl
@[simp] theorem Q8v (c:MT) (a b:MS) (Γ:Gam) (st:Q0):Yy c a b Γ st=(c Γ st).sbind fun k st1=>if k=true then a Γ st1 else b Γ st1:=rfl
@[simp] theorem Qhw (ga:GA) (mi:MI) (b:MS) (Γ:Gam) (st:Q0):Yz ga mi b Γ st=(mi Γ st).sbind fun iw st1=>W1 ga b iw.2 iw.1 Γ st1:=rfl
@[simp] theorem Qht (m:ME) (Γ:Gam) (st:Q0):Wj m Γ st=(m Γ st).bind fun p st1=>(match Zv st1 p with | some (xs,w)=>if xs.length<=lim then .ok (xs,w) st1 else .stuck | none=>.stuck):=rfl
@[simp] theorem Q7c (mr:ML) (Γ:Gam) (st:Q0):Ja mr Γ st=(mr Γ st).bind fun ps st1=>(match ps with | [.int j]=>if -(lim:Int)<=j/\j<=lim then .ok (Jc 0 j.toNat,[]) st1 else .stuck | _=>.stuck):=rfl
@[simp] theorem Q17 (mr:ML) (Γ:Gam) (st:Q0):Xp mr Γ st=(mr Γ st).bind fun ps st1=>(match ps with | [.int i,.int j]=>if -(lim:Int)<=i/\i<=lim/\-(lim:Int)<=j/\j<=lim then .ok (Jc i (j - i).toNat,[]) st1 else .stuck | _=>.stuck):=rfl
@[simp] theorem Qti (mr:ML) (Γ:Gam) (st:Q0):Q2a mr Γ st=(mr Γ st).bind fun ps st1=>(match ps with | [p,q]=>(match Zv st1 p,Zv st1 q with | some (xs,w),some (ys,w')=>if xs.length<=lim then .ok (Xa xs ys,w ++ w') st1 else .stuck | _,_=>.stuck) | _=>.stuck):=rfl
@[simp] theorem Qs3 (mr:ML) (Γ:Gam) (st:Q0):qr mr Γ st=(mr Γ st).bind fun ps st1=>(match ps with | [p]=>(match Zv st1 p with | some (xs,w)=>if xs.length<=lim then .ok (Wm 0 xs,w) st1 else .stuck | none=>.stuck) | _=>.stuck):=rfl
@[simp] theorem Qnc (f:MF) (mo:ME) (mr:ML) (Γ:Gam) (st:Q0):mBM f mo mr Γ st=(mo Γ st).bind fun p st1=>(match Ym st1 p with | some _=>(mr Γ st1).bind fun ps st2=>f st2 p ps | none=>.stuck):=rfl
@[simp] theorem Qhy (ga:GA) (m:ME) (Γ:Gam) (st:Q0):Q5z ga m Γ st=(m Γ st).sbind fun p st1=>(match ga p Γ with | some Γ1=>.nx Γ1 st1 | none=>.stuck):=rfl
@[simp] theorem Qaf (mo mi m:ME) (Γ:Gam) (st:Q0):Ke mo mi m Γ st=(m Γ st).sbind fun p st1=>(mo Γ st1).sbind fun o st2=>(mi Γ st2).sbind fun i st3=>(match Wk st3 o i p with | some st4=>.nx Γ st4 | none=>.stuck):=rfl
@[simp] theorem Qpv (x:Str) (m:ME) (Γ:Gam) (st:Q0):Q7d x m Γ st=(m Γ st).sbind fun _ st1=>.exc ⟨x,none⟩ st1:=rfl
@[simp] theorem Qq0 (i:Nat) (p:PV) (Γ:Gam):Q5 i p Γ=some (Γ.set i (some p)):=rfl
@[simp] theorem Qsg (Γ:Gam):Js [] Γ=some Γ:=rfl
@[simp] theorem Qq1 (g:GA) (gs:GAs) (p:PV) (r:List PV) (Γ:Gam):Qf g gs (p :: r) Γ=(g p Γ).bind (gs r):=rfl
@[simp] theorem Qsf (gs:GAs) (ps:List PV) (Γ:Gam):Jr gs (.tup ps) Γ=gs ps Γ:=rfl
@[simp] theorem Qux (a:α) (st:Q0):noX (Res.ok a st)=.ok a st:=rfl
@[simp] theorem Qpu :noX (Res.stuck:Res α)=.stuck:=rfl
@[simp] theorem Qrp (st:Q0) (a:α):okO st (some a)=.ok a st:=rfl
@[simp] theorem Qrq (st:Q0):okO st (none:Option α)=.stuck:=rfl
@[simp] theorem Qvg (g:Int->Int->PV) (st:Q0) (a b:Int):oI g st (.int a) (.int b)=.ok (g a b) st:=rfl
@[simp] theorem Qrx (st:Q0) (a b:Int):Qz st (.int a) (.int b)=.ok (.int (a + b)) st:=rfl
@[simp] theorem Qrw (st:Q0) (a b:List PV):Qz st (.tup a) (.tup b)=if a.length + b.length<=lim then .ok (.tup (a ++ b)) st else .stuck:=rfl
@[simp] theorem Qrt (st:Q0) (a b:Int):Q40 st (.int a) (.int b)=if (-(2 ^ 64) < a/\a < 2 ^ 64)\/(-(2 ^ 64) < b/\b < 2 ^ 64) then .ok (.int (a * b)) st else .stuck:=rfl
@[simp] theorem Qrs (st:Q0) (xs:List PV) (b:Int):Q40 st (.tup xs) (.int b)=if xs≠[]/\1<=b/\xs.length * b.toNat<=4096 then .ok (.tup (List.replicate b.toNat xs).flatten) st else .stuck:=rfl
@[simp] theorem Qru (st:Q0) (a b:Int):Q5k st (.int a) (.int b)=if 0 < b then .ok (.int (a % b)) st else .stuck:=rfl
@[simp] theorem Qrv (st:Q0) (a b:Int):Qdd st (.int a) (.int b)=if 0 < b/\b < 1073741824 then .ok (.int (a / b)) st else .stuck:=rfl
@[simp] theorem Qrr (st:Q0) (a b:Int):Qaa st (.int a) (.int b)=if 0<=b/\b<=1000000/\a.natAbs < 2 ^ 64 then .ok (.int (a ^ b.toNat)) st else .stuck:=rfl
@[simp] theorem Qtc (st:Q0) (a b:Int):oLt st (.int a) (.int b)=.ok (.bl (decide (a < b))) st:=rfl
@[simp] theorem Qhm (st:Q0) (a b:Int):oEq st (.int a) (.int b)=.ok (.bl (a == b)) st:=rfl
@[simp] theorem Qhk (st:Q0) (a b:Int):oNe st (.int a) (.int b)=.ok (.bl (!(a == b))) st:=rfl
@[simp] theorem Quw (st:Q0) (a b:Bool):oEq st (.bl a) (.bl b)=.ok (.bl (a == b)) st:=rfl
@[simp] theorem Quu (st:Q0) (a b:Bool):oNe st (.bl a) (.bl b)=.ok (.bl (!(a == b))) st:=rfl
@[simp] theorem Qth (st:Q0) (a b:Str):oEq st (.str a) (.str b)=.ok (.bl (a == b)) st:=rfl
@[simp] theorem Qtb (st:Q0) (a b:Str):oNe st (.str a) (.str b)=.ok (.bl (!(a == b))) st:=rfl
@[simp] theorem Qtg (st:Q0) (p:PV):oIs st p .non=.ok (.bl (Q2x p)) st:=rfl
@[simp] theorem Quv (st:Q0) (a b:Bool):oIs st (.bl a) (.bl b)=.ok (.bl (a == b)) st:=rfl
@[simp] theorem Q78 (st:Q0) (p:PV):j3 st p .non=.ok (.bl (!Q2x p)) st:=rfl
@[simp] theorem Qpt (st:Q0) (a b:Bool):j3 st (.bl a) (.bl b)=.ok (.bl (a != b)) st:=rfl
@[simp] theorem Qpz (st:Q0) (xs:List PV):Wc st (.lst xs)=some xs:=rfl
@[simp] theorem Q7h (st:Q0) (xs:List PV):Ym st (.lst xs)=some xs:=rfl
@[simp] theorem Qne (st:Q0) (xs:List PV):Ym st (.fro xs)=some xs:=rfl
@[simp] theorem Q2i (st:Q0) (xs:List PV):Ye st (.lst xs)=some xs:=rfl
@[simp] theorem Qpr (st:Q0) (xs:List PV):Ye st (.fro xs)=some xs:=rfl
@[simp] theorem Q9v (st:Q0) (xs:List PV):Ye st (.tup xs)=some xs:=rfl
@[simp] theorem Qpp (st:Q0) (xs:List PV):Zv st (.lst xs)=some (xs,[]):=rfl
@[simp] theorem Qpq (st:Q0) (xs:List PV):Zv st (.fro xs)=some (xs,[]):=rfl
@[simp] theorem Qpn (st:Q0) (xs:List PV):Zv st (.tup xs)=some (xs,[]):=rfl
theorem qd {i:Nat} (h:st[i]?=some (.lst xs)):Wc st (.ref i)=some xs:=by simp only [Wc,h]
@[simp] theorem Qtd (st:Q0) (xs:List PV) (i:Int):oIx st (.tup xs) (.int i)=okO st (atI xs i):=rfl
@[simp] theorem Qte (st:Q0) (xs:List PV) (i:Int):oIx st (.lst xs) (.int i)=okO st (atI xs i):=rfl
@[simp] theorem Qtf (st:Q0) (xs:List PV) (i:Int):oIx st (.fro xs) (.int i)=okO st (atI xs i):=rfl
@[simp] theorem Qt8 (st:Q0) (xs:List PV) (l h:Option Int):oSl st (.tup xs) l h=.ok (.tup (cut xs l h)) st:=rfl
@[simp] theorem Qt9 (st:Q0) (xs:List PV) (l h:Option Int):oSl st (.lst xs) l h=.ok (.lst (cut xs l h)) st:=rfl
@[simp] theorem Qta (st:Q0) (xs:List PV) (l h:Option Int):oSl st (.fro xs) l h=.ok (.lst (cut xs l h)) st:=rfl
@[simp] theorem Ks (st:Q0) (xs:List PV):Y0 st [.tup xs]=.ok (.int xs.length) st:=rfl
@[simp] theorem Qsy (st:Q0) (xs:List PV):Y0 st [.lst xs]=.ok (.int xs.length) st:=rfl
@[simp] theorem Qf4 (st:Q0) (xs:List PV):Y0 st [.fro xs]=.ok (.int xs.length) st:=rfl
@[simp] theorem Qq2 (st:Q0) (xs:List PV):zq st [.tup xs]=.ok (.lst xs) st:=rfl
@[simp] theorem Qq3 (st:Q0) (xs:List PV):zq st [.lst xs]=.ok (.lst xs) st:=rfl
@[simp] theorem Qq4 (st:Q0) (xs:List PV):zq st [.fro xs]=.ok (.lst xs) st:=rfl
@[simp] theorem Qpb (st:Q0) (xs:List PV):U7 st [.tup xs]=.ok (.tup xs) st:=rfl
@[simp] theorem Qpc (st:Q0) (xs:List PV):U7 st [.lst xs]=.ok (.tup xs) st:=rfl
@[simp] theorem Qf5 (g:List Bool->PV) (st:Q0) (bs:List Bool):xn g st [.lst (bs.map .bl)]=.ok (g bs) st:=by
 simp only [xn,Q2i,Option.bind_some,Qih]
@[simp] theorem qg (g:List Int->Option PV) (st:Q0) (ns:List Int):Yg g st [.lst (ns.map .int)]=okO st (g ns):=by
 simp only [Yg,Q2i,Option.bind_some,Q1d]
@[simp] theorem Qb4 (g:List Int->Option PV) (st:Q0) (ns:List Int):Yg g st [.tup (ns.map .int)]=okO st (g ns):=by
 simp only [Yg,Q9v,Option.bind_some,Q1d]
@[simp] theorem Qf3 (st:Q0) (a b:Int):Qb3 st [.int a,.int b]=.ok (.int (if b > a then b else a)) st:=rfl
@[simp] theorem Kr (st:Q0) (a b:Int):Xy st [.int a,.int b]=.ok (.int (if b < a then b else a)) st:=rfl
@[simp] theorem Qq6 (st:Q0):wOk [] st=True:=by simp [wOk]
@[simp] theorem Qei (st:Q0) (b:Bool):fin st (.bl b) st=.ok (.bl b) st:=by simp [fin,fz]
@[simp] theorem Qid (st:Q0) (b:Int):fin st (.int b) st=.ok (.int b) st:=by simp [fin,fz]
@[simp] theorem Qic (st:Q0):fin st .non st=.ok .non st:=by simp [fin,fz]
@[simp] theorem Qtu (st:Q0) (b:Str):fin st (.str b) st=.ok (.str b) st:=by simp [fin,fz]
theorem Za:lim=1000000:=rfl
theorem Jn (g f:α->PV) {w:Wt} {Γ0:Gam} (hw:wOk w st) {ys:List α} (h:∀ y∈ys,∃ Γ1,ga (g y) Γ0=some Γ1/\me Γ1 st=.ok (f y) st):Jg ga Jk me w Γ0 (ys.map g) st=.ok (ys.map f) st:=by
 induction ys with
 | nil=>simp [Jg,hw]
 | cons y ys ih=>
  obtain ⟨Γ1,h1,h2⟩:=h y D1;have ih:=ih fun z hz=>h z (O7 _ hz)
  rw [D9,Jg,bN hw,h1];simp [h2,ih]
theorem Q34 (g f:α->PV) (t:α->Bool) {w:Wt} {Γ0:Gam} (hw:wOk w st) {ys:List α} (h:∀ y∈ys,∃ Γ1,ga (g y) Γ0=some Γ1/\mt Γ1 st=.ok (t y) st/\(t y=true->me Γ1 st=.ok (f y) st)):Jg ga mt me w Γ0 (ys.map g) st=.ok ((ys.filter t).map f) st:=by
 induction ys with
 | nil=>simp [Jg,hw]
 | cons y ys ih=>
  obtain ⟨Γ1,h1,h2,h3⟩:=h y D1;have ih:=ih fun z hz=>h z (O7 _ hz)
  rw [D9,Jg,bN hw,h1];simp only [h2,Qk,ih];cases tx:t y with
  | true=>simp [h3 tx,tx,ih]
  | false=>simp [tx]
@[simp] theorem Qsz (g:List Bool->PV) (st:Q0) (ys:List α) (b:α->Bool):xn g st [.lst (ys.map fun y=>.bl (b y))]=.ok (g (ys.map b)) st:=by
 rw [show (ys.map fun y=>PV.bl (b y))=(ys.map b).map .bl by rw [F4]; rfl,Qf5]
@[simp] theorem Qb5 (g:List Int->Option PV) (st:Q0) (ys:List α) (b:α->Int):Yg g st [.lst (ys.map fun y=>.int (b y))]=okO st (g (ys.map b)):=by
 rw [show (ys.map fun y=>PV.int (b y))=(ys.map b).map .int by rw [F4]; rfl,qg]
theorem Jm (g:α->PV) {xs:List α} (I:Nat->Gam->Q0->Prop) {ga:GA} {body:MS} {w:Wt} (hw:∀ i Γ st,I i Γ st->wOk w st)
  (h:∀ (i:Nat) x Γ st,xs[i]?=some x->I i Γ st->∃ Γ1,ga (g x) Γ=some Γ1/\∃ Γ2 st2,body Γ1 st=.nx Γ2 st2/\I (i + 1) Γ2 st2) {Γ:Gam} {st:Q0} (h0:I 0 Γ st):∃ Γ' st',W1 ga body w (xs.map g) Γ st=.nx Γ' st'/\I xs.length Γ' st':=by
 induction xs generalizing I Γ st with
 | nil=>exact ⟨Γ,st,by simp [W1,hw 0 Γ st h0],h0⟩
 | cons x xs ih=>
  obtain ⟨Γ1,h1,Γ2,st2,e2,i2⟩:=h 0 x Γ st rfl h0;obtain ⟨Γ',st',e3,i3⟩:=ih (fun i=>I (i + 1)) (fun i Γ st z=>hw (i + 1) Γ st z) (fun i y Γ st hy z=>h (i + 1) y Γ st (by simpa using hy) z) i2
  refine ⟨Γ',st',?_,i3⟩;rw [D9,W1,bN (hw 0 Γ st h0),h1];simp only [e2];exact e3
theorem Q2y (g:α->PV) {xs:List α} (I:List α->Gam->Q0->Prop) {ga:GA} {body:MS} {w:Wt} (hw:∀ pre Γ st,I pre Γ st->wOk w st)
  (h:∀ pre x post Γ st,xs=pre ++ x :: post->I pre Γ st->∃ Γ1,ga (g x) Γ=some Γ1/\∃ Γ2 st2,body Γ1 st=.nx Γ2 st2/\I (pre ++ [x]) Γ2 st2) {Γ:Gam} {st:Q0} (h0:I [] Γ st):∃ Γ' st',W1 ga body w (xs.map g) Γ st=.nx Γ' st'/\I xs Γ' st':=by
 have key:∀ (post pre:List α) (Γ:Gam) (st:Q0),xs=pre ++ post->I pre Γ st->∃ Γ' st',W1 ga body w (post.map g) Γ st=.nx Γ' st'/\I xs Γ' st':=by
  intro post
  induction post with
  | nil=>intro pre Γ st e i; exact ⟨Γ,st,by simp [W1,hw pre Γ st i],by rw [e,F9]; exact i⟩
  | cons x post ih=>
   intro pre Γ st e i;obtain ⟨Γ1,h1,Γ2,st2,e2,i2⟩:=h pre x post Γ st e i;obtain ⟨Γ',st',e3,i3⟩:=ih (pre ++ [x]) Γ2 st2 (by rw [e]; simp) i2;refine ⟨Γ',st',?_,i3⟩;rw [D9,W1,bN (hw pre Γ st i),h1];simp only [e2];exact e3
 exact key xs [] Γ st rfl h0
theorem Qba (f:α->PV) (g:β->PV) (xs:List α) (ys:List β):Xa (xs.map f) (ys.map g)=(xs.zip ys).map fun z=>.tup [f z.1,g z.2]:=by
 rw [jg,List.zip_map,F4]; rfl
theorem Q0a (f:α->PV) (xs:List α) (i:Int):atI (xs.map f) i=(atI xs i).map f:=by
 unfold atI;rw [O1];cases ixN xs.length i with
 | none=>rfl
 | some j=>simp [E8]
theorem atI_get {xs:List α} {i:Nat} {x:α} (h:xs[i]?=some x):atI xs (i:Int)=some x:=by
 have hl:=(O0.mp h).1;unfold atI ixN;rw [bN (by omega),bN (by omega)];simpa using h
theorem Qif (f:α->PV) (xs:List α) (l h:Option Int):cut (xs.map f) l h=(cut xs l h).map f:=by
 unfold cut;rw [O1,<- List.map_drop,<- List.map_take]
theorem Zq (n:Nat):Jc 0 n=(List.range n).map fun (k:Nat)=>PV.int (k:Int):=by
 unfold Jc;refine G8 fun k _=>?_
 rw [Int.zero_add]
@[simp] theorem Qu7 (st l:List α) (c:α):(st ++ c :: l)[st.length]?=some c:=by
 rw [D7 (O8 _),N4]; rfl
@[simp] theorem Qt5 (st l:List α) (c d:α):(st ++ c :: d :: l)[st.length + 1]?=some d:=by
 rw [D7 (by omega)];rw [show st.length + 1 - st.length=1 by omega]; rfl
@[simp] theorem Qu6 (st l:List α) (c d:α):(st ++ c :: l).set st.length d=st ++ d :: l:=by
 rw [List.set_append_right _ _ (O8 _),N4]; rfl
@[simp] theorem Qt4 (st l:List α) (c c' d:α):(st ++ c :: c' :: l).set (st.length + 1) d=st ++ c :: d :: l:=by
 rw [List.set_append_right _ _ (by omega),show st.length + 1 - st.length=1 by omega]; rfl
@[simp] theorem Qu1 (st:Q0) (i:Nat) (g:List PV->Option (PV × List PV)):chg st (.ref i) g=(match st[i]? with | some (.lst xs)=>(match g xs with | some (r,ys)=>.ok r (st.set i (.lst ys)) | none=>.stuck) | _=>.stuck):=rfl
@[simp] theorem Qts (st:Q0) (i:Nat):Wc st (.ref i)=(match st[i]? with | some (.lst xs)=>some xs | _=>none):=rfl
@[simp] theorem Q60 (st:Q0) (i:Nat):Ym st (.ref i)=(match st[i]? with | some (.lst xs)=>some xs | _=>none):=rfl
@[simp] theorem jm (st:Q0) (i:Nat):Ye st (.ref i)=(match st[i]? with | some (.lst xs)=>some xs | _=>none):=rfl
@[simp] theorem Qt6 (st:Q0) (i:Nat):Zv st (.ref i)=(match st[i]? with | some (.lst xs)=>some (xs,[(i,.lst xs)]) | _=>none):=rfl
@[simp] theorem Qj3 (st:Q0) (p y:PV):Qq st p [y]=chg st p fun xs=>if xs.length < lim then some (.non,xs ++ [y]) else none:=rfl
@[simp] theorem Qsx (st:Q0) (i:Nat):U7 st [.ref i]=(match st[i]? with | some (.lst xs)=>.ok (.tup xs) st | _=>.stuck):=by
 unfold U7; simp only [jm];cases st[i]? with
 | none=>rfl
 | some c=>cases c <;> rfl
@[simp] theorem Qu2 (st:Q0) (i:Nat):zq st [.ref i]=(match st[i]? with | some (.lst xs)=>.ok (.lst xs) st | _=>.stuck):=by
 unfold zq; simp only [jm];cases st[i]? with
 | none=>rfl
 | some c=>cases c <;> rfl
@[simp] theorem Qpd (st:Q0) (i:Nat):Y0 st [.ref i]=(match st[i]? with | some (.lst xs)=>.ok (.int xs.length) st | _=>.stuck):=by
 unfold Y0; simp only [jm];cases st[i]? with
 | none=>rfl
 | some c=>cases c <;> rfl
@[simp] theorem Q5m (st:Q0) (i:Nat) (j:Int):oIx st (.ref i) (.int j)=(match st[i]? with | some (.lst xs)=>okO st (atI xs j) | _=>.stuck):=by
 unfold oIx; simp only [jm];cases st[i]? with
 | none=>rfl
 | some c=>cases c <;> rfl
@[simp] theorem Q3q (st:Q0) (k:Nat) (j:Int) (p:PV):Wk st (.ref k) (.int j) p=(match st[k]? with | some (.lst xs)=>(ixN xs.length j).map fun n=>st.set k (.lst (xs.set n p)) | _=>none):=rfl
theorem yq (xs:List α) (k:Nat):cut xs none (some (k:Int))=xs.take k:=by
 unfold cut;rw [HT.sIx_none,HT.sIx_nat,List.drop_zero,Nat.sub_zero];rcases Nat.le_total k xs.length with h | h
 ·rw [Nat.min_eq_left h]
 ·rw [Nat.min_eq_right h,List.take_length,List.take_of_length_le h]
theorem Q6c (xs:List α) (k:Nat):cut xs (some (k:Int)) none=xs.drop k:=by
 unfold cut;rw [HT.sIx_none,HT.sIx_nat];rcases Nat.le_total k xs.length with h | h
 ·rw [Nat.min_eq_left h,List.take_of_length_le (by rw [List.length_drop]; omega)]
 ·rw [Nat.min_eq_right h,List.drop_length,List.drop_of_length_le h]; simp
theorem Vr {l:List α} {j:Nat} (h:j < l.length) (d:α):l[j]?=some (l.getD j d):=by
 rw [List.getD,O2 h]; rfl
def ListAt (st:Q0) (V:PV) (xs:List PV):Prop:=V=.lst xs\/V=.fro xs\/∃ i,V=.ref i/\st[i]?=some (.lst xs)
theorem ListAt.ix {V:PV} (h:ListAt st V xs) (j:Int):oIx st V (.int j)=okO st (atI xs j):=by
 rcases h with rfl | rfl | ⟨i,rfl,e⟩
 ·rfl
 ·rfl
 ·rw [Q5m,e]
theorem Q35 (g:α->PV) {xs:List α} (I:Nat->List PV->Q0->Prop) {ga:GA} {me:ME} {w:Wt} {Γ0:Gam} (hw:∀ i out st,I i out st->wOk w st)
  (h:∀ (i:Nat) x out st,xs[i]?=some x->I i out st->∃ Γ1,ga (g x) Γ0=some Γ1/\∃ v st2,me Γ1 st=.ok v st2/\I (i + 1) (out ++ [v]) st2) {st:Q0} (h0:I 0 [] st):∃ out st',Jg ga Jk me w Γ0 (xs.map g) st=.ok out st'/\I xs.length out st':=by
 have key:∀ (ys:List α) (k:Nat) (pre:List PV) (st:Q0),(∀ i,ys[i]?=xs[k + i]?)->k + ys.length=xs.length->I k pre st->∃ out st',Jg ga Jk me w Γ0 (ys.map g) st=.ok out st'/\I xs.length (pre ++ out) st':=by
  intro ys
  induction ys with
  | nil=>
   intro k pre st e e2 i;refine ⟨[],st,by simp [Jg,hw k pre st i],?_⟩;rw [F9,<- e2]; exact i
  | cons y ys ih=>
   intro k pre st e e2 i;have e0:xs[k]?=some y:=by have:=e 0; simpa using this.symm
   obtain ⟨Γ1,h1,v,st2,h2,i2⟩:=h k y pre st e0 i;obtain ⟨out,st',h3,i3⟩:=ih (k + 1) (pre ++ [v]) st2 (fun i=>by
    have:=e (i + 1);rw [List.getElem?_cons_succ] at this;rw [this]; congr 1; omega) (by rw [<- e2,E7]; omega) i2
   refine ⟨v :: out,st',?_,by simpa using i3⟩;rw [D9,Jg,bN (hw k pre st i),h1];simp [Jk,h2,h3]
 obtain ⟨out,st',h1,h2⟩:=key xs 0 [] st (fun i=>by simp) (by simp) h0;exact ⟨out,st',h1,by simpa using h2⟩
@[simp] theorem Qpw (ma:ME) (Γ:Gam) (st:Q0):j8 ma Γ st=(ma Γ st).bind fun p st1=>match Ye st1 p with | some xs=>.ok xs st1 | none=>.stuck:=rfl
theorem Q90 (h:k < n):ixN n (k:Int)=some k:=by
 unfold ixN;rw [bN (by omega),bN (by omega)];simp
theorem q9:∀ {xs:List PV},(∀ x∈xs,peq x x=true)->peqL xs xs=true
 | [],_=>rfl
 | x :: xs,h=>by
  rw [peqL,h x D1,q9 fun y hy=>h y (O7 _ hy)]; rfl
theorem jv:∀ {n:Nat} {p:PV},J0 n p=true->peq p p=true
 | n,.non,_=>rfl
 | n,.bl b,_=>by simp [peq]
 | n,.int b,_=>by simp [peq]
 | n,.str b,_=>by simp [peq]
 | n,.ref _,g=>by cases n <;> simp [J0] at g
 | n,.dic,g=>by cases n <;> simp [J0] at g
 | 0,.tup _,g=>by simp [J0] at g
 | 0,.lst _,g=>by simp [J0] at g
 | 0,.fro _,g=>by simp [J0] at g
 | n + 1,.tup xs,g=>by
  rw [peq]; refine q9 fun x hx=>jv (n:=n) ?_
  simp [J0] at g; exact g x hx
 | n + 1,.lst xs,g=>by
  rw [peq]; refine q9 fun x hx=>jv (n:=n) ?_
  simp [J0] at g; exact g x hx
 | n + 1,.fro xs,g=>by
  rw [peq]; refine q9 fun x hx=>jv (n:=n) ?_
  simp [J0] at g; exact g x hx
def X7 (body:MS) (nl:Nat):FN:=fun ps st=>match body (ps.map some ++ List.replicate (nl - ps.length) none) st with
 | .rt v st'=>.ok v st'
 | .nx _ st'=>.ok .non st'
 | .exc x st'=>.exc x st'
 | _=>.stuck
variable {P:aL} {K:PySem.W.Frag} {base:Heap}
section
variable {w:aJ}
theorem Qi8 {qual:Str} {st:aK} {f:aB} {ps:List Str} {k:Nat} {m:MS} (F:Fun K x qual st f fd) (S:FnScope N ps (Q9 st))
  (hb:∀ (cdv:aA) (A:aQ) (outer:List PySem.Env) (s:aC) (H:Hp) (E:XK),Room k (A.deeper (PyProof.Rows.envOfC qual (Q9 st) s.heap.objs.size f cdv))->SimB (cxD P w K mg base N qual (Q9 st) f cdv A outer s H E) E (Z2 st) m) :
  FnOk P w K mg base (CXD P w) (k + 1) f fd ps (spF mg ps.length (X7 m N.length)):=by
 refine Fun.okD F S (fun vs H Q E h=>h.1) fun cdv A outer s H vs Q E hr hsp=>⟨_,Q0v,?_⟩
 obtain ⟨hl,ρ,st0,pvs,R,rl,hA⟩:=hsp;refine (hb cdv A outer s H E hr).run _ (L2.start N vs) H ρ st0 _ R (Q2f rl) ?_;unfold X7 at hA;cases rr:m (pvs.map some ++ List.replicate (N.length - pvs.length) none) st0 with
 | rt v st1=>rw [rr] at hA; exact fun v H' ρ' x R' r=>hA H' ρ' x R' v r
 | nx Γ st1=>rw [rr] at hA; exact fun σ' H' ρ' x' R' G'=>hA H' ρ' x' R' .non rfl
 | bk Γ st1=>rw [rr] at hA; exact hA.elim
 | ct Γ st1=>rw [rr] at hA; exact hA.elim
 | stuck=>rw [rr] at hA; exact hA.elim
 | exc y st1=>rw [rr] at hA; exact hA
end
theorem Qec {P:aL} {w:aJ} {mg:Str->Option aA} {base:Heap} {qual:Str} {st:aK} {f:aB} {ps:List Str} {k nl:Nat} {m:MS} {FF:FN} (F:Fun K x qual st f fd) (S:FnScope N ps (Q9 st)) (hn:ps.length=n) (hnl:N.length=nl) (hF:FF=X7 m nl)
  (hb:∀ (cdv:aA) (A:aQ) (outer:List PySem.Env) (s:aC) (H:Hp) (E:XK),Room k (A.deeper (PyProof.Rows.envOfC qual (Q9 st) s.heap.objs.size f cdv))->SimB (cxD P w K mg base N qual (Q9 st) f cdv A outer s H E) E (Z2 st) m) :
  FnOk P w K mg base (CXD P w) (k + 1) f fd ps (spF mg n FF):=by
 subst hn; subst hnl; subst hF;exact Qi8 F S hb
theorem Qgc (r:Room k A):A.units + 9 < aO:=by have:=r.un; omega
def Qu4 (kvs:List (Key × PV)) (k:Key):Option PV:=(kvs.find? fun kv=>decide (kv.1=k)).map (·.2)
def Qj9 (st:Q0):PV->Option (List (Key × PV))
 | .ref i=>match st[i]? with
  | some (.dic kvs)=>some kvs
  | some (.frd kvs)=>some kvs
  | _=>none
 | _=>none
def Q1f:List PV->Option (List Int)
 | []=>some []
 | .int i :: xs=>(Q1f xs).map (i :: ·)
 | _ :: _=>none
def Q0h:List PV->Option (List (List Int))
 | []=>some []
 | .tup ys :: xs=>match Q1f ys with
  | some (n :: ns)=>(Q0h xs).map ((n :: ns) :: ·)
  | _=>none
 | _ :: _=>none
def Xx (ns:List Int):PV:=.tup (ns.map .int)
theorem Q64 {H:Hp} {ρ:Tk}:∀ {xs:List PV} {ns:List Int} {vs:List V},Q1f xs=some ns->RepL H ρ xs vs->vs=ns.map V.int/\xs=ns.map PV.int
 | [],_,_,e,r=>by cases e; exact ⟨r,rfl⟩
 | .int i :: xs,ns,_,e,⟨v,t,e1,r1,r2⟩=>by
  have e:(Q1f xs).map (i :: ·)=some ns:=e;cases z:Q1f xs with
  | none=>rw [z] at e; cases e
  | some ns'=>
   rw [z] at e;cases e;obtain ⟨h1,h2⟩:=Q64 z r2;have r1:v=.int i:=r1;exact ⟨by rw [e1,r1,h1]; rfl,by rw [h2]; rfl⟩
 | .non :: _,_,_,e,_=>by cases e
 | .bl _ :: _,_,_,e,_=>by cases e
 | .str _ :: _,_,_,e,_=>by cases e
 | .tup _ :: _,_,_,e,_=>by cases e
 | .lst _ :: _,_,_,e,_=>by cases e
 | .fro _ :: _,_,_,e,_=>by cases e
 | .ref _ :: _,_,_,e,_=>by cases e
 | .dic :: _,_,_,e,_=>by cases e
theorem Q4s {H:Hp} {ρ:Tk}:∀ {xs:List PV} {nss:List (List Int)} {vs:List V},Q0h xs=some nss->RepL H ρ xs vs->xs=nss.map Xx/\aq (fun (v:V) (ns:List Int)=>ns≠[]/\∃ a,v=.ref a/\H a=some (.tup (ns.map V.int))) vs nss
 | [],_,_,e,r=>by cases e; cases r; exact ⟨rfl,.nil⟩
 | .tup ys :: xs,nss,vs,e,⟨v,t,e1,r1,r2⟩=>by
  have e:(match Q1f ys with | some (n :: ns)=>(Q0h xs).map ((n :: ns) :: ·) | _=>none)=some nss:=e
  cases zi:Q1f ys with
  | none=>rw [zi] at e; cases e
  | some ms=>
   cases ms with
   | nil=>rw [zi] at e; cases e
   | cons n ns=>
    rw [zi] at e;cases z:Q0h xs with
    | none=>rw [z] at e; cases e
    | some nss'=>
     rw [z] at e;cases e;obtain ⟨h1,h2⟩:=Q4s z r2;obtain ⟨a,us,rfl,ha,_,ru⟩:=r1;obtain ⟨g1,g2⟩:=Q64 zi ru;subst e1;exact ⟨by rw [h1,g2]; rfl,.cons ⟨by simp,a,rfl,by rw [ha,g1]⟩ h2⟩
 | .int _ :: _,_,_,e,_=>by cases e
 | .non :: _,_,_,e,_=>by cases e
 | .bl _ :: _,_,_,e,_=>by cases e
 | .str _ :: _,_,_,e,_=>by cases e
 | .lst _ :: _,_,_,e,_=>by cases e
 | .fro _ :: _,_,_,e,_=>by cases e
 | .ref _ :: _,_,_,e,_=>by cases e
 | .dic :: _,_,_,e,_=>by cases e
theorem Q2j {H:Hp} {ρ:Tk} {nss:List (List Int)} {vs:List V} (r:RepL H ρ (nss.map Xx) vs):∀ (pp:List Nat),(∀ x∈pp,x < vs.length)->RepL H ρ ((pp.map fun i=>nss.getD i []).map Xx) (pp.map fun i=>vs.getD i .non)
 | [],_=>rfl
 | x :: pp,h=>by
  have hx:=h x (by simp);have hl:=r.length;rw [O1] at hl;have e1:(nss.map Xx)[x]?=some (Xx (nss.getD x [])):=by
   rw [E8,O2 (by omega),O3,O2 (by omega)]; rfl
  have e2:vs[x]?=some (vs.getD x .non):=by rw [O3,O2 hx]; rfl
  exact RepL.cons (r.i e1 e2) (Q2j r pp fun y hy=>h y (O7 _ hy))
def Q1q:CF:=fun st ps=>match ps with
 | [p]=>match Ym st p with
  | some xs=>match Q0h xs with
   | some nss=>if nss.length < 64 then .ok (.lst ((Vw nss).map Xx)) st else .stuck
   | none=>.stuck
  | none=>.stuck
 | _=>.stuck
theorem Q6e:CallS X E (.builtin "sorted") Q1q:=⟨fun H ρ st ps xs Q R rp h=>by
 unfold Q1q at h
 split at h
 ·rename_i p;obtain ⟨v,rfl,r⟩:=Zh rp
  split at h
  ·rename_i ys el
   split at h
   ·rename_i nss en
    split at h
    ·rename_i h64;obtain ⟨a,vs,rfl,hr,rl⟩:=Jb R r el;obtain ⟨g1,g2⟩:=Q4s en rl;subst g1;have hl:=rl.length;rw [O1] at hl;refine WC.of Q4c ⟨a,vs,nss,rfl,.inl hr,by omega,g2,fun d pp hd hp he=>?_⟩;have rr:=Q2j rl pp fun x hx=>by have:=hp.mem_iff.mp hx; simpa using this
     rw [he] at rr;exact qb R h rr d hd
    ·exact h.elim
   ·exact h.elim
  ·exact h.elim
 ·exact h.elim⟩
theorem yz:aW "sorted" = some (.builtin "sorted"):=by decide +kernel
def Qdk (f:PV->Option HK):List PV->Option (List HK)
 | []=>some []
 | p :: ps=>match f p,Qdk f ps with
  | some k,some l=>some (k :: l)
  | _,_=>none
def Qap:Nat->PV->Option HK
 | _,.int i=>some (.int i)
 | _,.str x=>some (.str x)
 | d + 1,.tup ps=>(Qdk (Qap d) ps).map .tup
 | _,_=>none
theorem Qe4 :∀ (d:Nat) {p:PV} {k:HK} {v:V},Qap d p=some k->Rep H ρ p v->KAt H k v/\Dp d k:=by
 intro d
 induction d with
 | zero=>
  intro p k v e r;cases p with
  | int i=>cases e; exact ⟨r,trivial⟩
  | str i=>cases e; exact ⟨r,trivial⟩
  | _=>cases e
 | succ d ih=>
  intro p k v e r;cases p with
  | int i=>cases e; exact ⟨r,trivial⟩
  | str i=>cases e; exact ⟨r,trivial⟩
  | tup ps=>
   obtain ⟨a,vs,rfl,ha,_,rl⟩:=r;have key:∀ {ps:List PV} {l:List HK} {vs:List V},Qdk (Qap d) ps=some l->RepL H ρ ps vs->KAtL H l vs/\∀ k∈l,Dp d k:=by
    intro ps
    induction ps with
    | nil=>intro l vs e r; cases e; exact ⟨r,fun k hk=>nomatch hk⟩
    | cons p ps ihp=>
     intro l vs e ⟨v,t,e1,r1,r2⟩;unfold Qdk at e
     split at e
     ·rename_i k l' e2 e3;cases e;obtain ⟨h1,h2⟩:=ih e2 r1;obtain ⟨h3,h4⟩:=ihp e3 r2;exact ⟨⟨v,t,e1,h1,h3⟩,fun x hx=>by rcases E2.mp hx with rfl | hx; exact h2; exact h4 x hx⟩
     ·cases e
   unfold Qap at e;cases z:Qdk (Qap d) ps with
   | none=>rw [z] at e; cases e
   | some l=>
    rw [z] at e;cases e;obtain ⟨h1,h2⟩:=key z rl;exact ⟨⟨a,vs,rfl,ha,h1⟩,h2⟩
  | _=>cases e
def Q45:PV->Option HK
 | .tup ps=>Qap 5 (.tup ps)
 | .str x=>some (.str x)
 | _=>none
theorem X1 {k:HK} (e:Q45 p=some k) (r:Rep H ρ p v):KR H k v:=by
 cases p with
 | tup ps=>exact Qe4 5 e r
 | str x=>cases e; exact ⟨r,trivial⟩
 | _=>cases e
def putT (kvs:List (HK × PV)) (k:HK) (v:PV):List (HK × PV):=
 if (kvs.any fun kv=>decide (kv.1=k))=true then kvs.map (fun kv=>if kv.1=k then (kv.1,v) else kv) else kvs ++ [(k,v)]
theorem Q57 {kvs:List (HK × PV)} {vs:List (HK × V)} (r:RepD H ρ kvs vs) (k:HK) (rp:Rep H ρ p v):RepD H ρ (putT kvs k p) (Uz vs k v):=by
 have ha:(kvs.any fun kv=>decide (kv.1=k))=vs.any fun kv=>decide (kv.1=k):=by
  have e1:(kvs.any fun kv=>decide (kv.1=k))=(kvs.map Prod.fst).any fun x=>decide (x=k):=by rw [List.any_map]; rfl
  have e2:(vs.any fun kv=>decide (kv.1=k))=(vs.map Prod.fst).any fun x=>decide (x=k):=by rw [List.any_map]; rfl
  rw [e1,e2,r.1]
 unfold putT Uz;rw [<- ha]
 by_cases q:(kvs.any fun kv=>decide (kv.1=k))=true
 ·rw [bN q,bN q];have key:∀ (kvs:List (HK × PV)) (vs:List (HK × V)),RepD H ρ kvs vs->RepD H ρ (kvs.map fun kv=>if kv.1=k then (kv.1,p) else kv) (vs.map fun kv=>if kv.1=k then (kv.1,v) else kv):=by
   intro kvs
   induction kvs with
   | nil=>
    intro vs r;cases vs with
    | nil=>exact r
    | cons _ _=>have:=r.length; cases this
   | cons a kvs ih=>
    intro vs r;cases vs with
    | nil=>have:=r.length; cases this
    | cons b vs=>
     obtain ⟨r1,x,t,e,r2,r3⟩:=r;obtain ⟨e1,e2⟩:=List.cons.inj (show b.1 :: vs.map Prod.fst=a.1 :: kvs.map Prod.fst from r1);obtain ⟨e3,e4⟩:=List.cons.inj (show b.2 :: vs.map Prod.snd=x :: t from e);subst e3; subst e4;obtain ⟨i1,i2⟩:=ih vs ⟨e2,r3⟩;rw [D9,D9]
     by_cases z:a.1=k
     ·have zb:b.1=k:=e1.trans z;rw [bN z,bN zb];exact ⟨by rw [D9,D9,i1]; show b.1 :: _=a.1 :: _; rw [e1],RepL.cons rp i2⟩
     ·have zb:¬ b.1=k:=fun h=>z (e1.symm.trans h)
      rw [bO z,bO zb];exact ⟨by rw [D9,D9,i1]; show b.1 :: _=a.1 :: _; rw [e1],RepL.cons r2 i2⟩
  exact key kvs vs r
 ·rw [bO q,bO q];refine ⟨?_,?_⟩
  ·rw [E3,E3,r.1]; rfl
  ·rw [E3,E3];exact r.2.append (RepL.cons rp RepL.nil)
variable {dpos tpos:Pos} {k:aH}
section
variable {pos:Pos} {i:aH} {mi mk:ME}
def Qdq:ME:=fun Γ st=>.ok (.ref st.length) (st ++ [.dtp []])
theorem Qc6:SimE X E (.Dict [] [] dpos) Qdq:=⟨fun Γ σ H ρ st Q R G h=>WE.of Qd2 fun d hd=>by
 have x:Ext H ρ (upd H d (.dT [])) (ρ.add d):=Ext.addT hd;refine h _ _ x (R.addC hd ⟨_,Qu,rfl,rfl⟩) _ ⟨d,?_,rfl⟩;show (ρ.tr ++ [d])[st.length]?=some d;rw [<- R.len,D7 (O8 _),N4]; rfl⟩
def Q31 (st:Q0):PV->Option (List (HK × PV))
 | .ref i=>match st[i]? with
  | some (.dtp kvs)=>some kvs
  | _=>none
 | _=>none
theorem Q69 {kvs:List (HK × PV)} (R:Rel H ρ st) (r:Rep H ρ p v) (e:Q31 st p=some kvs):∃ i a vs,p=.ref i/\v=.ref a/\ρ.tr[i]?=some a/\st[i]?=some (.dtp kvs)/\H a=some (.dT vs)/\RepD H ρ kvs vs:=by
 cases p with
 | ref i=>
  obtain ⟨a,ea,rfl⟩:=r;unfold Q31 at e;cases z:st[i]? with
  | none=>simp only [z] at e; cases e
  | some c=>
   simp only [z] at e;cases c with
   | dtp kvs'=>
    cases e;obtain ⟨b,vs,eb,hb,rd⟩:=R.dtp z;rw [ea] at eb;cases eb;exact ⟨i,a,vs,rfl,rfl,ea,z,hb,rd⟩
   | lst xs=>cases e
   | dic xs=>cases e
   | frd xs=>cases e
   | frt xs=>cases e
   | obj C xs=>cases e
 | _=>cases e
def Q1m (st:Q0) (p q v:PV):Option Q0:=match p with
 | .ref n=>match Q31 st (.ref n),Q45 q with
  | some kvs,some k=>if kvs.length < lim then some (st.set n (.dtp (putT kvs k v))) else none
  | _,_=>none
 | _=>none
def Q42 (mo mi m:ME):MS:=fun Γ st=>(m Γ st).sbind fun v st1=>(mo Γ st1).sbind fun p st2=>(mi Γ st2).sbind fun q st3=>match Q1m st3 p q v with
 | some st4=>.nx Γ st4
 | none=>.stuck
theorem Qbv (hu:X.A.units + 9 < aO) (he:SimE X E e m) (ho:SimE X E o mo) (hi:SimE X E i mi) (hs:swapsWith e (some (.Subscript o i tpos)) pos.line X.env=pure false:=by rfl):SimS X E (.Assign [.Subscript o i tpos] e pos) (Q42 mo mi m):=
 ⟨fun Γ σ H ρ st D R G h=>WS.of (Qgs hu Jj Jj Jj hs) (he.use R G h.bind fun v st1 H1 ρ1 z x1 R1 G1 r1 h1=>ho.use R1 G1 h1.bind fun p st2 H2 ρ2 x x2 R2 G2 r2 h2=>hi.use R2 G2 h2.bind fun q st3 H3 ρ3 y x3 R3 G3 r3 h3=>by
  cases es:Q1m st3 p q v with
  | none=>rw [es] at h3; exact h3.elim
  | some st4=>
   rw [es] at h3;unfold Q1m at es
   split at es
   ·rename_i n
    split at es
    ·rename_i kvs k e1 e2
     split at es
     ·rename_i hl;cases es;obtain ⟨n',a,vs,en,rfl,ea,hsx,hb,rd⟩:=Q69 R3 (r2.ext x3) e1;cases en;have hbt:=X1 e2 r3;have x4:Ext H3 ρ3 (upd H3 a (.dT (Uz vs k z))) ρ3:=Ext.put (F3 ea) hb;have rz:=(r1.ext (x2.trans x3)).ext x4;have R4:Rel (upd H3 a (.dT (Uz vs k z))) ρ3 (st3.set n (.dtp (putT kvs k v))):=R3.putC ea hb ⟨_,Qu,Q57 (rd.ext x4) k rz⟩;refine ⟨a,_,rfl,DPut.t hb hbt (by rw [<- rd.length]; exact E4 hl yd),h3 σ _ ρ3 x4 R4 (G3.ext x4)⟩
     ·cases es
    ·cases es
   ·cases es)⟩
def Uw (kvs:List (HK × PV)) (k:HK):Option PV:=(kvs.find? fun kv=>decide (kv.1=k)).map (·.2)
theorem K6 {H:Hp} {ρ:Tk} (k:HK):∀ {kvs:List (HK × PV)} {vs:List (HK × V)},RepD H ρ kvs vs->(Uw kvs k=none/\Ug vs k=none)\/∃ p v,Uw kvs k=some p/\Ug vs k=some v/\Rep H ρ p v
 | [],[],_=>.inl ⟨rfl,rfl⟩
 | [],b :: vs,r=>by have:=r.length; cases this
 | a :: kvs,[],r=>by have:=r.length; cases this
 | a :: kvs,b :: vs,r=>by
  obtain ⟨r1,x,t,e,r2,r3⟩:=r;obtain ⟨e1,e2⟩:=List.cons.inj (show b.1 :: vs.map Prod.fst=a.1 :: kvs.map Prod.fst from r1);obtain ⟨e3,e4⟩:=List.cons.inj (show b.2 :: vs.map Prod.snd=x :: t from e);subst e3; subst e4;unfold Uw Ug;rw [List.find?_cons,List.find?_cons]
  by_cases z:a.1=k
  ·have zb:b.1=k:=e1.trans z;rw [bQ z,bQ zb];exact .inr ⟨a.2,b.2,rfl,rfl,r2⟩
  ·have zb:¬ b.1=k:=fun h=>z (e1.symm.trans h)
   rw [bP z,bP zb];exact K6 k ⟨e2,r3⟩
theorem Qfs (R:Rel H ρ st) (b:aB) (xs:List V) (h:H b=some (.tup xs)):b∉ρ:=fun z=>by
 rcases z with z | z
 ·obtain ⟨i,hi,e⟩:=List.getElem_of_mem z;have hs:i < st.length:=by rw [<- R.len]; exact hi
  have q:=R.cell i b st[i] (by rw [O2 hi,e]) (O2 hs);cases hc:st[i] with
  | lst xs=>rw [hc] at q; obtain ⟨vs,h1,_⟩:=q; rw [h] at h1; cases h1
  | dic xs=>rw [hc] at q; obtain ⟨vs,h1,_⟩:=q; rw [h] at h1; cases h1
  | dtp xs=>rw [hc] at q; obtain ⟨vs,h1,_⟩:=q; rw [h] at h1; cases h1
  | frd xs=>rw [hc] at q; obtain ⟨vs,⟨_,h1⟩,_⟩:=q; rw [h] at h1; cases h1
  | frt xs=>rw [hc] at q; obtain ⟨vs,⟨_,h1⟩,_⟩:=q; rw [h] at h1; cases h1
  | obj C xs=>rw [hc] at q; obtain ⟨vs,⟨_,h1⟩,_⟩:=q; rw [h] at h1; cases h1
 ·obtain ⟨o,h1,h2⟩:=R.hd b z;rw [h] at h1;cases h1;exact h2 xs rfl
end
variable {H0:Hp} {ρ0:Tk} {st:Q0} {a:aB} {ps:List (HK × PV)} {vs:List (HK × V)}
theorem Qd5 (R0:Rel H0 ρ0 st) (x:Ext H0 ρ0 H ρ) {st1:Q0} (R:Rel H ρ st1) (hm:a∈ρ.hid) (hn:H0 a=none) (ha:H a=some (.dT vs)) (r:RepD H ρ ps vs) :
  Ext H0 ρ0 H ⟨ρ.tr ++ [a],ρ0.hid⟩/\Rel H ⟨ρ.tr ++ [a],ρ0.hid⟩ (st1 ++ [.dtp ps])/\Rep H ⟨ρ.tr ++ [a],ρ0.hid⟩ (.ref st1.length) (.ref a):=by
 have na0:a∉ρ0.hid:=fun z=>by
  obtain ⟨o,e,_⟩:=R0.hd a z;rw [hn] at e; cases e
 refine ⟨⟨x.pre.trans (List.prefix_append _ _),fun _ h=>h,fun _ h=>.inl h,x.keep,fun b hb=>?_,x.old,x.frz⟩,⟨?_,?_,fun b hb=>R.hd b (x.hidM b hb),fun b hb z=>?_,fun i b c h1 h2=>?_⟩,a,?_,rfl⟩
 ·rcases D0.mp hb with z | z
  ·exact x.new b z
  ·have:b=a:=by simpa using z
   subst this; exact .inr hn
 ·show (ρ.tr ++ [a]).length=_;rw [O4,O4,R.len]; rfl
 ·show (ρ.tr ++ [a]).Nodup;refine List.nodup_append.mpr ⟨R.nd,by simp,fun b hb c hc e=>?_⟩;have:c=a:=by simpa using hc
  subst this; subst e;exact R.ap b hm hb
 ·rcases D0.mp z with z | z
  ·exact R.ap b (x.hidM b hb) z
  ·have:b=a:=by simpa using z
   subst this; exact na0 hb
 ·have h1:(ρ.tr ++ [a])[i]?=some b:=h1
  by_cases hi:i < st1.length
  ·rw [O5 (by rw [R.len]; exact hi)] at h1;rw [O5 hi] at h2;have q:=R.cell i b c h1 h2;cases c with
   | lst qs=>
    obtain ⟨us,e1,e2⟩:=q;exact ⟨us,e1,e2.trk hm x.hidM⟩
   | dic qs=>
    obtain ⟨us,e1,e2⟩:=q;exact ⟨us,e1,e2.1,e2.2.trk hm x.hidM⟩
   | dtp qs=>
    obtain ⟨us,e1,e2⟩:=q;exact ⟨us,e1,e2.1,e2.2.trk hm x.hidM⟩
   | frd qs=>
    obtain ⟨us,e1,e2⟩:=q;exact ⟨us,e1,e2.1,e2.2.trk hm x.hidM⟩
   | frt qs=>
    obtain ⟨us,e1,e2⟩:=q;exact ⟨us,e1,e2.1,e2.2.trk hm x.hidM⟩
   | obj C qs=>
    obtain ⟨us,e1,e2⟩:=q;exact ⟨us,e1,e2.1,e2.2.trk hm x.hidM⟩
  ·rw [D7 (by rw [R.len]; omega)] at h1;rw [D7 (by omega)] at h2;have e0:i - st1.length=0:=by
    rcases Nat.eq_zero_or_pos (i - st1.length) with z | z
    ·exact z
    ·rw [L0 (by simp; omega)] at h2; cases h2
   rw [R.len,e0] at h1;rw [e0] at h2;simp at h1 h2;subst h1; subst h2;exact ⟨vs,ha,r.1,r.2.trk hm x.hidM⟩
 ·show (ρ.tr ++ [a])[st1.length]?=some a;rw [<- R.len,D7 (O8 _),N4]; rfl
section
variable {mk:ME}
def Qes (st:Q0) (pv pk:PV):Res PV:=match Q45 pk with
 | some ks=>.ok (.ref st.length) (st ++ [.dtp [(ks,pv)]])
 | none=>.stuck
def xz (mk m:ME):ME:=fun Γ st=>(mk Γ st).bind fun pk st1=>(m Γ st1).bind fun pv st2=>Qes st2 pv pk
theorem Q9x (hu:X.A.units + 9 < aO) (hk:SimE X E k mk) (he:SimE X E e m):SimE X E (.Dict [some k] [e] dpos) (xz mk m):=by
 refine ⟨fun Γ σ H ρ st Q R G h=>WE.of (Qa7 (by omega) Jj Jj) ?_⟩;intro p hp;have x0:Ext H ρ (upd H p (.dT [])) (ρ.hide p):=Ext.hide hp;refine hk.use' (R.hide hp) (G.hide hp) (h.bind.later x0) fun a1 st1 H1 ρ1 v1 f1 x1 R1 G1 r1 _=>?_
 have h:=h;unfold xz at h;rw [f1] at h;have h:Acc X.mg E H ρ (QV Q) ((m Γ st1).bind fun pv st2=>Qes st2 pv a1):=h
 refine he.use' R1 G1 (h.bind.later (x0.trans x1)) fun a2 st2 H2 ρ2 v2 f2 x2 R2 G2 r2 _=>?_
 rw [f2] at h;have h:Acc X.mg E H ρ (QV Q) (Qes st2 a2 a1):=h;unfold Qes at h
 split at h
 ·rename_i ks ek;have kr:=X1 ek (r1.ext x2);have xe:Ext (upd H p (.dT [])) (ρ.hide p) H2 ρ2:=x1.trans x2;have pt0:p∉(ρ.hide p).tr:=fun z=>R.fresh hp (.inl z)
  have hp3:H2 p=some (.dT []):=xe.keep p _ Qu pt0;have ph3:p∈ρ2.hid:=xe.hidM p D1;refine ⟨ks,_,v2,rfl,kr,hp3,?_⟩;have y:Ext H ρ (upd H2 p (.dT [(ks,v2)])) ρ2:=(x0.trans xe).put0 hp;have g2:=r2.rehide (o:=.dT [(ks,v2)]) ph3;obtain ⟨x5,R5,r5⟩:=Qd5 (ps:=[(ks,a2)]) R y (R2.rehide ph3) ph3 hp Qu ⟨rfl,RepL.cons g2 RepL.nil⟩;exact h _ _ x5 R5 _ r5
 ·exact h.elim
@[simp] theorem Qna (Γ:Gam) (st:Q0):xz mk m Γ st=(mk Γ st).bind fun pk st1=>(m Γ st1).bind fun pv st2=>Qes st2 pv pk:=rfl
end
mutual
def hkV:HK->PV
 | .int i=>.int i
 | .str x=>.str x
 | .tup l=>.tup (hkVL l)
def hkVL:List HK->List PV
 | []=>[]
 | k :: l=>hkV k :: hkVL l
end
mutual
theorem Q92 {H:Hp} {ρ:Tk} (o:∀ b xs,H b=some (.tup xs)->b∉ρ):∀ {k:HK} {v:V},KAt H k v->Rep H ρ (hkV k) v
 | .int _,_,r=>r
 | .str _,_,r=>r
 | .tup _,_,⟨a,vs,e,h,r⟩=>⟨a,vs,e,h,o a vs h,hkVL_rep o r⟩
theorem hkVL_rep {H:Hp} {ρ:Tk} (o:∀ b xs,H b=some (.tup xs)->b∉ρ):∀ {l:List HK} {vs:List V},KAtL H l vs->RepL H ρ (hkVL l) vs
 | [],_,r=>r
 | _ :: _,_,⟨v,r,e,h,t⟩=>⟨v,r,e,Q92 o h,hkVL_rep o t⟩
end
theorem DGet.tr {b:V} {kvs:List (HK × V)} {k:HK} (e:Rd H a (.dT kvs)) (eb:KR H k b):DGet H a b (Ug kvs k):=.inr ⟨kvs,k,b,e,rfl,eb,rfl⟩
def K8 (st:Q0):PV->Option (List (HK × PV))
 | .ref i=>match st[i]? with
  | some (.dtp kvs)=>some kvs
  | some (.frt kvs)=>some kvs
  | _=>none
 | _=>none
theorem jt {kvs:List (HK × PV)} (R:Rel H ρ st) (r:Rep H ρ p v) (e:K8 st p=some kvs):∃ i a vs,p=.ref i/\v=.ref a/\ρ.tr[i]?=some a/\Rd H a (.dT vs)/\RepD H ρ kvs vs:=by
 cases p with
 | ref i=>
  obtain ⟨a,ea,rfl⟩:=r;unfold K8 at e;cases z:st[i]? with
  | none=>simp only [z] at e; cases e
  | some c=>
   simp only [z] at e;cases c with
   | dtp kvs'=>
    cases e;obtain ⟨b,vs,eb,hb,rd⟩:=R.dtp z;rw [ea] at eb;cases eb;exact ⟨i,a,vs,rfl,rfl,ea,.inl hb,rd⟩
   | frt kvs'=>
    cases e;obtain ⟨b,vs,o,eb,hb,rd⟩:=R.frt z;rw [ea] at eb;cases eb;exact ⟨i,a,vs,rfl,rfl,ea,.inr ⟨o,hb⟩,rd⟩
   | lst xs=>cases e
   | dic xs=>cases e
   | frd xs=>cases e
   | obj C xs=>cases e
 | _=>cases e
variable {tp:Pos} {mf:ME} {elts:List aH} {kt:Nat}
section
variable {pos:Pos} {f i:aH} {mi mk:ME}
theorem Q8g {y:Str} {t:Tok} (hg:Gl X x) (hm:X.mg x=some (.str y t)) (hd:(x == ("__debug__" : Str))=false:=by decide):SimE X E (.Name x pos) (mC (.str y)):=
 ⟨fun Γ σ H ρ st Q R G h=>WE.of (Q8q hg hm (v:=.str y) ⟨t,rfl⟩ hd) (now R h rfl)⟩
def Q33 (st:Q0) (p q:PV):Res PV:=match K8 st p,Q45 q with
 | some kvs,some k=>match Uw kvs k with
  | some v=>.ok v st
  | none=>.stuck
 | _,_=>.stuck
def ja (mo mi:ME):ME:=fun Γ st=>(mo Γ st).bind fun p st1=>(mi Γ st1).bind fun q st2=>Q33 st2 p q
theorem Qc7 (hu:X.A.units + 9 < aO) (ho:SimE X E o mo) (hi:SimE X E i mi) (hs:Qpm i):SimE X E (.Subscript o i pos) (ja mo mi):=
 ⟨fun Γ σ H ρ st Q R G h=>WE.of (Qh5 hu Jj Jj hs) (ho.use R G h.bind fun p st1 H1 ρ1 v1 x1 R1 G1 r1 h1=>hi.use R1 G1 h1.bind fun q st2 H2 ρ2 v2 x2 R2 G2 r2 h2=>by
  unfold Q33 at h2
  split at h2
  ·rename_i kvs k e1 e2
   split at h2
   ·rename_i w e3;obtain ⟨n,a,vs,rfl,rfl,_,hb,rd⟩:=jt R2 (r1.ext x2) e1;have kr:=X1 e2 r2;rcases K6 k rd with ⟨a1,_⟩ | ⟨p,v,a1,a2,a3⟩
    ·rw [a1] at e3; cases e3
    ·rw [a1] at e3;cases e3;exact ⟨a,v,rfl,by have:=DGet.tr (k:=k) hb kr; rwa [a2] at this,now R2 h2 a3⟩
   ·exact h2.elim
  ·exact h2.elim)⟩
@[simp] theorem Qpx (Γ:Gam) (st:Q0):ja mo mi Γ st=(mo Γ st).bind fun p st1=>(mi Γ st1).bind fun q st2=>Q33 st2 p q:=rfl
def Qeu (st:Q0) (p k z:PV):Res PV:=match K8 st p,Q45 k with
 | some kvs,some k=>.ok ((Uw kvs k).getD z) st
 | _,_=>.stuck
def Qhx (mo m mf:ME):ME:=fun Γ st=>(mo Γ st).bind fun p st1=>match K8 st1 p with
 | some _=>(m Γ st1).bind fun k st2=>(mf Γ st2).bind fun z st3=>Qeu st3 p k z
 | none=>.stuck
@[simp] theorem Qnb (Γ:Gam) (st:Q0):Qhx mo m mf Γ st=(mo Γ st).bind fun p st1=>match K8 st1 p with
 | some _=>(m Γ st1).bind fun k st2=>(mf Γ st2).bind fun z st3=>Qeu st3 p k z
 | none=>.stuck:=rfl
def sdT (st:Q0) (p k z:PV):Res PV:=match p with
 | .ref n=>match Q31 st (.ref n),Q45 k with
  | some kvs,some k=>match Uw kvs k with
   | some v=>if kvs.length < lim then .ok v st else .stuck
   | none=>if kvs.length < lim then .ok z (st.set n (.dtp (putT kvs k z))) else .stuck
  | _,_=>.stuck
 | _=>.stuck
def Q2t (mo m mf:ME):ME:=fun Γ st=>(mo Γ st).bind fun p st1=>match K8 st1 p with
 | some _=>(m Γ st1).bind fun k st2=>(mf Γ st2).bind fun z st3=>sdT st3 p k z
 | none=>.stuck
theorem Qg8 (hu:X.A.units + 9 < aO) (ho:SimE X E o mo) (he:SimE X E e m) (hf:SimE X E f mf) (mm:M2 X o "setdefault" apos e f cpos):SimE X E (.Call (.Attribute o "setdefault" apos) [e,f] [] cpos) (Q2t mo m mf):=by
 refine ⟨fun Γ σ H ρ st Q R G h=>WE.of (Qa6 hu Jj Jj Jj mm) ?_⟩;refine ho.use' R G h.bind fun p st1 H1 ρ1 v1 f1 x1 R1 G1 r1 h1=>?_
 split at h1
 ·rename_i kvs1 e1;obtain ⟨n,a,vs1,rfl,rfl,_,hb1,_⟩:=jt R1 r1 e1;refine ⟨a,rfl,.inr ⟨vs1,hb1⟩,?_⟩;refine he.use R1 G1 h1.bind fun k st2 H2 ρ2 v2 x2 R2 G2 r2 h2=>hf.use R2 G2 h2.bind fun z st3 H3 ρ3 v3 x3 R3 G3 r3 h3=>?_
  unfold sdT at h3;have h3:Acc X.mg E H3 ρ3 (QV Q) (match Q31 st3 (.ref n),Q45 k with
   | some kvs,some k=>match Uw kvs k with
    | some v=>if kvs.length < lim then .ok v st3 else .stuck
    | none=>if kvs.length < lim then .ok z (st3.set n (.dtp (putT kvs k z))) else .stuck
   | _,_=>.stuck):=h3
  split at h3
  ·rename_i kvs k' e2 e3;obtain ⟨n',a',vs,en,ea,er,hsx,hb,rd⟩:=Q69 R3 ((r1.ext x2).ext x3) e2;cases en;cases ea;have kr:=X1 e3 (r2.ext x3);rcases K6 k' rd with ⟨a1,a2⟩ | ⟨p,v,a1,a2,a3⟩
   ·rw [a1] at h3;have h3:Acc X.mg E H3 ρ3 (QV Q) (if kvs.length < lim then Res.ok z (st3.set n (.dtp (putT kvs k' z))) else .stuck):=h3
    by_cases hl:kvs.length < lim
    ·rw [bN hl] at h3;refine ⟨vs,k',hb,kr,by rw [<- rd.length]; exact E4 hl yd,fun v ev=>(by rw [a2] at ev; cases ev),fun _=>?_⟩;have x4:Ext H3 ρ3 (upd H3 a (.dT (Uz vs k' v3))) ρ3:=Ext.put (F3 er) hb;have rz:=r3.ext x4;have R4:Rel (upd H3 a (.dT (Uz vs k' v3))) ρ3 (st3.set n (.dtp (putT kvs k' z))):=R3.putC er hb ⟨_,Qu,Q57 (rd.ext x4) k' rz⟩;exact h3 _ ρ3 x4 R4 _ rz
    ·rw [bO hl] at h3; exact h3.elim
   ·rw [a1] at h3;have h3:Acc X.mg E H3 ρ3 (QV Q) (if kvs.length < lim then Res.ok p st3 else .stuck):=h3
    by_cases hl:kvs.length < lim
    ·rw [bN hl] at h3;exact ⟨vs,k',hb,kr,by rw [<- rd.length]; exact E4 hl yd,fun w ew=>(by rw [a2] at ew; cases ew; exact now R3 h3 a3),fun ev=>(by rw [a2] at ev; cases ev)⟩
    ·rw [bO hl] at h3; exact h3.elim
  ·exact h3.elim
 ·exact h1.elim
@[simp] theorem Qdp (Γ:Gam) (st:Q0):Q2t mo m mf Γ st=(mo Γ st).bind fun p st1=>match K8 st1 p with
 | some _=>(m Γ st1).bind fun k st2=>(mf Γ st2).bind fun z st3=>sdT st3 p k z
 | none=>.stuck:=rfl
def Q5n (neg:Bool):OP:=fun st p q=>match K8 st q,Q45 p with
 | some kvs,some k=>.ok (.bl ((Uw kvs k).isSome != neg)) st
 | _,_=>.stuck
theorem Qmn (hu:X.A.units + 9 < aO):OpS X E (aS .In) (Q5n false):=⟨fun H ρ st p q x y Q R rp rq h=>by
 unfold Q5n at h
 split at h
 ·rename_i kvs k e1 e2;obtain ⟨n,a,vs,rfl,rfl,_,hb,rd⟩:=jt R rq e1;have kr:=X1 e2 rp;intro pins s σ v u I rv ru;cases ru;refine Qv9 hu I (DGet.tr hb kr) rv fun s' I'=>⟨.bl _,H,I',rfl,?_⟩
  have:(Ug vs k).isSome=(Uw kvs k).isSome:=by
   rcases K6 k rd with ⟨a1,a2⟩ | ⟨p,v,a1,a2,_⟩ <;> rw [a1,a2] <;> rfl
  rw [this];rw [Bool.bne_false] at h;exact now R h rfl
 ·exact h.elim⟩
theorem Qa8 (hu:X.A.units + 9 < aO):OpS X E (aS .NotIn) (Q5n true):=⟨fun H ρ st p q x y Q R rp rq h=>by
 unfold Q5n at h
 split at h
 ·rename_i kvs k e1 e2;obtain ⟨n,a,vs,rfl,rfl,_,hb,rd⟩:=jt R rq e1;have kr:=X1 e2 rp;intro pins s σ v u I rv ru;cases ru;refine Qie hu I (DGet.tr hb kr) rv fun s' I'=>⟨.bl _,H,I',rfl,?_⟩
  have:(Ug vs k).isSome=(Uw kvs k).isSome:=by
   rcases K6 k rd with ⟨a1,a2⟩ | ⟨p,v,a1,a2,_⟩ <;> rw [a1,a2] <;> rfl
  rw [this];have hh:((Uw kvs k).isSome != true)=!(Uw kvs k).isSome:=by cases (Uw kvs k).isSome <;> rfl
  rw [hh] at h;exact now R h rfl
 ·exact h.elim⟩
def Q2v (f:HK × PV->PV) (st:Q0):PV->Option (List PV × Nat × List (HK × PV))
 | .ref i=>match st[i]? with
  | some (.dtp kvs)=>some (kvs.map f,i,kvs)
  | _=>none
 | _=>none
theorem Qe2 {f:HK × PV->PV} {ks:List PV} {i:Nat} {kvs:List (HK × PV)} (e:Q2v f st p=some (ks,i,kvs)):p=.ref i/\ks=kvs.map f/\st[i]?=some (.dtp kvs):=by
 unfold Q2v at e
 split at e
 ·split at e
  ·rename_i q;cases e;exact ⟨rfl,rfl,q⟩
  ·cases e
 ·cases e
def j9 (m:ME):MI:=fun Γ st=>(m Γ st).bind fun p st1=>match Q2v (fun kv=>hkV kv.1) st1 p with
 | some (ks,i,kvs)=>if ks.length<=lim then .ok (ks,[(i,.frt kvs)]) (st1.set i (.frt kvs)) else .stuck
 | none=>.stuck
theorem Q50 (ha:SimE X E e m):SimI X E tg e (j9 m):=⟨fun Γ σ H ρ st P R' R G h k=>by
 have hb:Acc X.mg E H ρ _ (m Γ st):=Acc.bind h;refine WI.of (Qcu Jj) (ha.use' R G hb fun p st1 H1 ρ1 v eq x1 R1 G1 r1 _=>?_);have hm:j9 m Γ st=(match Q2v (fun kv=>hkV kv.1) st1 p with
  | some (ks,i,kvs)=>if ks.length<=lim then Res.ok (ks,[(i,.frt kvs)]) (st1.set i (.frt kvs)) else .stuck
  | none=>.stuck):=by unfold j9; rw [eq]; rfl
 rw [hm] at h;cases ek:Q2v (fun kv=>hkV kv.1) st1 p with
 | none=>rw [ek] at h; exact h.elim
 | some w=>
  obtain ⟨ks,i,kvs⟩:=w;rw [ek] at h hm;obtain ⟨rfl,rfl,ew⟩:=Qe2 ek;have h:Acc X.mg E H ρ P (if (kvs.map (fun kv=>hkV kv.1)).length<=lim then Res.ok (kvs.map (fun kv=>hkV kv.1),[(i,.frt kvs)]) (st1.set i (.frt kvs)) else .stuck):=h
  by_cases hl:(kvs.map (fun kv=>hkV kv.1)).length<=lim
  ·rw [bN hl] at h;have hm:j9 m Γ st=Res.ok (kvs.map (fun kv=>hkV kv.1),[(i,.frt kvs)]) (st1.set i (.frt kvs)):=hm.trans (bN hl);obtain ⟨a,ea,rfl⟩:=r1;obtain ⟨b,vs,eb,hb',rd⟩:=R1.dtp ew;rw [ea] at eb;cases eb;refine ⟨a,vs,rfl,hb',fun o hn=>?_⟩;have mem:=F3 ea;have x2:Ext H1 ρ1 (upd H1 a (.frz o (.dT vs))) ρ1:=Ext.put mem hb';have R2:Rel (upd H1 a (.frz o (.dT vs))) ρ1 (st1.set i (.frt kvs)):=R1.putC ea hb' ⟨vs,⟨o,Qu⟩,rd.ext x2⟩;have hi:i < st1.length:=(O0.mp ew).1;refine k (kvs.map (fun kv=>hkV kv.1),[(i,.frt kvs)]) (st1.set i (.frt kvs)) _ ρ1 _ hm (x1.trans x2) R2 (G1.ext x2) (fun y hy=>?_) (W0 hl) ?_ (h _ _ (x1.trans x2) R2)
   ·have:y=(i,.frt kvs):=by simpa using hy
    subst this;rw [D4 hi]
   ·have kl:vs.map Prod.fst=kvs.map Prod.fst:=rd.1;have len:kvs.length=vs.length:=rd.length;refine ⟨fun H2 ρ2 st2 x R ok=>⟨x.frz a o _ Qu,by simp [len]⟩,fun H2 ρ2 st2 x R ok j hj=>⟨x.frz a o _ Qu,by rw [<- len]; simpa using hj⟩,fun H2 ρ2 st2 x R ok j p hp y H3 hy=>?_⟩
    obtain ⟨rfl,kv,hkv,kr⟩:=hy;refine ⟨Same.refl _,?_⟩;rw [E8] at hp;have e1:(kvs.map Prod.fst)[j]?=some kv.1:=by rw [<- kl,E8,hkv]; rfl
    rw [E8] at e1;cases z:kvs[j]? with
    | none=>rw [z] at e1; cases e1
    | some q=>
     rw [z] at e1 hp;cases hp;have e1:q.1=kv.1:=Option.some.inj e1;rw [<- e1] at kr;exact Q92 (Qfs R) kr.1
  ·rw [bO hl] at h; exact h.elim⟩
end
end Sm
namespace Sm
open PySem PySem.Spec L2 SeqAt
def dEq (ks ls:List (Key × PV)):Bool:=decide (ks.length=ls.length) && ks.all fun kv=>match Qu4 ls kv.1 with
 | none=>false
 | some v=>peq kv.2 v
def Qcs (ks:List (Key × PV)):Bool:=ks.all fun kv=>J0 0 kv.2
section
variable {X:Cx} {E:XK}
def Qs8 (ks:List (Key × PV)):Bool:=ks.all fun kv=>match kv.1 with
 | .inl _=>true
 | .inr _=>false
def eqM (st:Q0) (x y:PV):Option Bool:=
 if J0 dep (der st x)=true/\J0 dep (der st y)=true then some (peq (der st x) (der st y))
 else match Qj9 st x,Qj9 st y with
  | some ks,some ls=>if Qcs ks=true/\Qcs ls=true/\Qs8 ks=true/\Qs8 ls=true then some (dEq ks ls) else none
  | _,_=>none
variable {e o i:aH} {m mo mi:ME} {pos tpos:Pos}
def Qdt (i:Nat) (f:Int->Int->Int) (m:ME):MS:=fun Γ st=>match Γ[i]? with
 | some (some (.int a))=>(m Γ st).sbind fun v st1=>match v with
  | .int b=>.nx (Γ.set i (some (.int (f a b)))) st1
  | _=>.stuck
 | _=>.stuck
theorem Qk5 (i:Nat) {x:Str} {pos':Pos} {op:Operator} {f:Int->Int->Int} (hp:PIp X op (ipI f)) (hN:X.N.Nodup) (he:SimE X E e m) (hi:X.N[i]?=some x:=by rfl) (hx:Loc X.env.scope x:=by first | exact Or.inl rfl | exact Or.inr rfl) (hf:X.fn x=true\/X.env.scope.names.lookup x=some .local:=by first | exact .inl rfl | exact .inr rfl) :
  SimS X E (.AugAssign (.Name x pos') op e pos) (Qdt i f m):=⟨fun Γ σ H ρ st D R G h=>by
 unfold Qdt at h
 split at h
 ·rename_i a ea;obtain ⟨v,ev,rv⟩:=G.2 i _ ea;cases rv;refine WS.of (Qm1 hN hi hx Jj hp hf) ⟨_,ev,he.use R G h.bind fun p st1 H1 ρ1 w x1 R1 G1 r1 h1=>?_⟩;cases p with
  | int b=>
   cases r1;exact ⟨a,b,rfl,rfl,h1 _ H1 ρ1 (Ext.refl _ _) R1 (G1.set (p:=.int (f a b)) (v:=.int (f a b)) rfl i)⟩
  | _=>exact h1.elim
 ·exact h.elim⟩
end
end Sm
namespace L2
open PySem PySem.Spec PyProof.Rows
theorem Qar {X:Cx}:Qt3 X (Qks X.K):=by
 intro pins s σ H x y v u Q I rx ry h;obtain ⟨p,xs,i,z,rfl,rfl,hq,he,q⟩:=h;cases rx;obtain ⟨t,rfl⟩:=ry;obtain ⟨its,r,pl,hz⟩:=I.list hq;obtain ⟨j,h1,h2,h3,h4,h5⟩:=atI_get he;obtain ⟨w,ew,rw'⟩:=r.get h2;have hl:=r.length;have hn:=jb;have fin:EP X pins σ Q w s:=⟨z,H,I,rw',q⟩
 by_cases h0:0<=i
 ·have hj:i.toNat=j:=by
   rw [seqIndex_of h0 h5] at h1;exact Option.some.inj h1
  exact wpAny_getItem_list pl.isList h0 (by omega) (by rw [hj]; simpa using ew) fin
 ·have hj:(i + (its.toArray.size:Int)).toNat=j:=by
   rw [seqIndex_neg (by omega) h4] at h1;have:=Option.some.inj h1;simp; omega
  exact wpAny_getItem_list_neg pl.isList (by omega) (by simp; omega) (by simp; omega) (by rw [hj]; simpa using ew) fin
end L2
namespace Sm
open PySem PySem.Spec PyProof.Rows L2
variable {X:Cx} {E:XK} {e:aH} {m:ME}
section
variable {pos:Pos}
def Q5y (mo mi:ME) (f:Int->Int->Int) (m:ME):MS:=fun Γ st=>(mo Γ st).sbind fun o st1=>(mi Γ st1).sbind fun i st2=>match Ym st2 o,i with
 | some xs,.int j=>match atI xs j with
  | some (.int a)=>(m Γ st2).sbind fun v st4=>match v with
   | .int b=>match Wk st4 o i (.int (f a b)) with
    | some st5=>.nx Γ st5
    | none=>.stuck
   | _=>.stuck
  | _=>.stuck
 | _,_=>.stuck
theorem Qfz {o i:aH} {mo mi:ME} {tpos:Pos} {op:Operator} {f:Int->Int->Int} (hp:PIp X op (ipI f)) (ho:SimE X E o mo) (hi:SimE X E i mi) (he:SimE X E e m)
  (ha:∀ ov iv new,augStore i ov iv new=(do av [new,ov,iv] (setItem ov iv new); release [new,ov,iv] []; pure .next):=by intros; rfl) :
  SimS X E (.AugAssign (.Subscript o i tpos) op e pos) (Q5y mo mi f m):=
 ⟨fun Γ σ H ρ st D R G h=>WS.of (Qgt Jj Jj Qar Jj hp Q51 ha) (ho.use R G h.bind fun ov st1 H1 ρ1 x x1 R1 G1 r1 h1=>hi.use R1 G1 h1.bind fun iv st2 H2 ρ2 y x2 R2 G2 r2 h2=>by
  split at h2
  ·rename_i xs j el
   split at h2
   ·rename_i a ea;obtain ⟨b,vs,rfl,hb,rb⟩:=Jb R2 (r1.ext x2) el;obtain ⟨z,ez,rz⟩:=rb.atI ea;cases rz;have ey:=r2;cases r2;refine ⟨b,vs,j,_,rfl,rfl,.inl hb,ez,he.use R2 G2 h2.bind fun p st4 H4 ρ4 w x4 R4 G4 r4 h4=>?_⟩;cases p with
    | int c=>
     cases r4;dsimp only at h4;cases es:Wk st4 ov (.int j) (.int (f a c)) with
     | none=>rw [es] at h4; exact h4.elim
     | some st5=>
      rw [es] at h4;obtain ⟨a',vs',k',j',e1,e2,f1,f2,x5,R5⟩:=Q8e (p:=.int (f a c)) (z:=.int (f a c)) R4 (r1.ext (x2.trans x4)) (ey.ext x4) rfl es;exact ⟨a,c,rfl,rfl,a',vs',k',j',e1,e2,f1,f2,h4 σ _ ρ4 x5 R5 (G4.ext x5)⟩
    | _=>exact h4.elim
   ·exact h2.elim
  ·exact h2.elim)⟩
@[simp] theorem Qs4 (mo mi:ME) (f:Int->Int->Int) (m:ME) (Γ:Gam) (st:Q0):Q5y mo mi f m Γ st=(mo Γ st).sbind fun o st1=>(mi Γ st1).sbind fun i st2=>(match Ym st2 o,i with
 | some xs,.int j=>(match atI xs j with
  | some (.int a)=>(m Γ st2).sbind fun v st4=>(match v with
   | .int b=>(match Wk st4 o i (.int (f a b)) with
    | some st5=>.nx Γ st5
    | none=>.stuck)
   | _=>.stuck)
  | _=>.stuck)
 | _,_=>.stuck):=rfl
end
end Sm
namespace Sm
open PySem PySem.Spec L2
variable {K:PySem.W.Frag} {mg:Str->Option aA} {h:Heap} {st s:aK} {ps:List Str} {f a:aB} {oc:aA} {P:aL} {fd:aP} {k n:Nat} {F:FN} {α:Type} {o:Obj}
def tgN:aH->List Str
 | .Name x _=>[x]
 | .Tuple es _ _=>es.flatMap fun e=>match e with
  | .Name x _=>[x]
  | _=>[]
 | _=>[]
def yy (N:List Str) (tg:aH) (cap:List (Option Nat)):List Str:=tgN tg ++ cap.filterMap fun o=>o.bind (N[·]?)
theorem Qry {l:List Str} (h:decide l.Nodup=true):l.Nodup:=of_decide_eq_true h
structure KR (b:Bool):Prop where
 h:b=true
variable {X:Cx} {E:XK} {tg iter elt:aH} {ifs:List aH} {sc:Scope} {ga:GA} {mi:MI} {mt:MT} {me:ME} {x:Str} {px cpos:Pos}
section
variable {pos:Pos} {cap:List (Option Nat)} {i:Nat}
theorem Qby (hcalm:X.calm=true) (hc:KR (compOkC X.N (yy X.N tg cap) sc X.env.scope cap)) (hs:∀ x,aw iter X.env x=pure x) (hf:zr cap ga) (hi:SimI X E tg iter mi) (hg:∀ cl C s0 H0 ex,SimG (Zm X (yy X.N tg cap) sc cl C s0 H0 ex) tg ga) (he:∀ cl C s0 H0 ex,SimE (Zm X (yy X.N tg cap) sc cl C s0 H0 ex) E0 elt me) (ht:∀ cl C s0 H0 ex,SimTs (Zm X (yy X.N tg cap) sc cl C s0 H0 ex) ifs mt):SimN X E (.ListComp elt [⟨tg,iter,ifs,0⟩] sc pos) (Qx cap ga mi mt me):=
 xw cap _ hcalm hi hg he ht hf rfl rfl hc.h hs
theorem Q9q (hsw:swapsWith (.ListComp elt [⟨tg,iter,ifs,0⟩] sc cpos) (some (.Name x px)) pos.line X.env=pure true) (hnd:X.N.Nodup) (hcalm:X.calm=true) (hix:X.N[i]?=some x) (hx:Loc X.env.scope x) (hc:KR (compOkC X.N (yy X.N tg cap) sc X.env.scope cap)) (hs:∀ x,aw iter X.env x=pure x) (hfn:X.fn x=true\/X.env.scope.names.lookup x=some .local) (hf:zr cap ga) (hi:SimI X E tg iter mi) (hg:∀ cl C s0 H0 ex,SimG (Zm X (yy X.N tg cap) sc cl C s0 H0 ex) tg ga) (he:∀ cl C s0 H0 ex,SimE (Zm X (yy X.N tg cap) sc cl C s0 H0 ex) E0 elt me) (ht:∀ cl C s0 H0 ex,SimTs (Zm X (yy X.N tg cap) sc cl C s0 H0 ex) ifs mt):SimS X E (.Assign [.Name x px] (.ListComp elt [⟨tg,iter,ifs,0⟩] sc cpos) pos) (Qr i (Yp (Qx cap ga mi mt me))):=
 Q4y cap _ i hnd hcalm hi hg he ht hf hix hx hsw rfl rfl hc.h hs hfn
end
structure AtS (K:PySem.W.Frag) (mg:Str->Option aA) (name:Str) (st:aK) (ps:List Str) (f:aB) (fd:aP):Prop where
 F:Fun K name name st f fd
 m:mg name=some (.ref f)
 b:Binds K fd ps []
theorem Qph {name:Str} {st:aK} {ps:List Str} {f:aB} {oc:aA} {od an:Option aB} {osl:Array (Option aA)} {kV doc pm cdv ct:aA} (X:K.In h) (G:h.Ns aR mg)
  (a:PySem.W.nsIn K aR name=some (some (.ref f))) (l:K.lookup f=some ⟨oc,od,.func (PySem.W.fnOf name name (Ya st) (Z2 st) (Q9 st) .none kV doc pm an cdv ct),osl⟩) (c:PySem.W.codeIn K cdv name=true) (k:PySem.W.keepIn K (.ref f)=true)
  (b:∀ (kV doc pm:aA) (an:Option aB) (cdv ct:aA) (us:List aA),us.length=ps.length->bindArgs (PySem.W.fnOf name name (Ya st) (Z2 st) (Q9 st) .none kV doc pm an cdv ct) ⟨us,[]⟩=pure (ps.zip us)) :
  AtS K mg name st ps f (PySem.W.fnOf name name (Ya st) (Z2 st) (Q9 st) .none kV doc pm an cdv ct):=
 have F:=Qed (st:=st) l c k
 ⟨F,PySem.W.mg_of X G a,F.binds b⟩
theorem AtS.def {w:aJ} {base:Heap} {name:Str} (a:AtS K mg name st ps f fd) (hn:ps.length=n) (G:FnOk P w K mg base (CXD P w) k f fd ps (spF mg n F)):DefS P w K mg base k name n F:=
 ⟨f,fd,ps,G,a.m,a.F.kp,a.b,hn⟩
def FL (K:PySem.W.Frag) (x ql:Str) (s:aK) (f:aB):Prop:=∃ (oc:aA) (od:Option aB) (kV dc pm:aA) (an:Option aB) (cd ct:aA) (sl:Array (Option aA)),K.lookup f=some ⟨oc,od,.func (PySem.W.fnOf x ql (Ya s) (Z2 s) (Q9 s) .none kV dc pm an cd ct),sl⟩/\PySem.W.codeIn K cd ql=true/\PySem.W.keepIn K (.ref f)=true
theorem FL.fn {ql:Str} (h:FL K x ql s f):∃ fd,Fun K x ql s f fd:=let ⟨_,_,_,_,_,_,_,_,_,l,c,k⟩:=h; ⟨_,Qed l c k⟩
def FA (K:PySem.W.Frag) (x:Str) (s:aK) (f:aB):Prop:=PySem.W.nsIn K aR x=some (some (.ref f))/\FL K x x s f
theorem FA.mk {od an:Option aB} {sl:Array (Option aA)} {kV dc pm cd ct:aA} (a:PySem.W.nsIn K aR x=some (some (.ref f))) (l:K.lookup f=some ⟨oc,od,.func (PySem.W.fnOf x x (Ya s) (Z2 s) (Q9 s) .none kV dc pm an cd ct),sl⟩) (c:PySem.W.codeIn K cd x=true) (k:PySem.W.keepIn K (.ref f)=true):FA K x s f:=⟨a,_,_,_,_,_,_,_,_,_,l,c,k⟩
theorem ln1 {l:List α} (h:l.length=1):∃ a,l=[a]:=match l,h with | [_],_=>⟨_,rfl⟩
theorem ln2 {l:List α} (h:l.length=2):∃ a b,l=[a,b]:=match l,h with | [_,_],_=>⟨_,_,rfl⟩
theorem ln3 {l:List α} (h:l.length=3):∃ a b c,l=[a,b,c]:=match l,h with | [_,_,_],_=>⟨_,_,_,rfl⟩
theorem ln4 {l:List α} (h:l.length=4):∃ a b c d,l=[a,b,c,d]:=match l,h with | [_,_,_,_],_=>⟨_,_,_,_,rfl⟩
theorem ln5 {l:List α} (h:l.length=5):∃ a b c d e,l=[a,b,c,d,e]:=match l,h with | [_,_,_,_,_],_=>⟨_,_,_,_,_,rfl⟩
theorem ln6 {l:List α} (h:l.length=6):∃ a b c d e f,l=[a,b,c,d,e,f]:=match l,h with | [_,_,_,_,_,_],_=>⟨_,_,_,_,_,_,rfl⟩
theorem ln7 {l:List α} (h:l.length=7):∃ a b c d e f g,l=[a,b,c,d,e,f,g]:=match l,h with | [_,_,_,_,_,_,_],_=>⟨_,_,_,_,_,_,_,rfl⟩
theorem FL.bd {ql:Str} {ps:List Str} (h:FL K x ql s f)
  (b:∀ (kV doc pm:aA) (an:Option aB) (cdv ct:aA) (us:List aA),us.length=ps.length->bindArgs (PySem.W.fnOf x ql (Ya s) (Z2 s) (Q9 s) .none kV doc pm an cdv ct) ⟨us,[]⟩=pure (ps.zip us)):∃ fd,Fun K x ql s f fd/\Binds K fd ps []:=
 let ⟨_,F⟩:=h.fn
 ⟨_,F,F.binds b⟩
theorem Yb {name:Str} (ps:List Str) (X:K.In h) (G:h.Ns aR mg) (a:FA K name st f)
  (b:∀ (kV doc pm:aA) (an:Option aB) (cdv ct:aA) (us:List aA),us.length=ps.length->bindArgs (PySem.W.fnOf name name (Ya st) (Z2 st) (Q9 st) .none kV doc pm an cdv ct) ⟨us,[]⟩=pure (ps.zip us):=by
   intro _ _ _ _ _ _ us hl
   first | (obtain ⟨_,rfl⟩:=ln1 hl; rfl) | (obtain ⟨_,_,rfl⟩:=ln2 hl; rfl) | (obtain ⟨_,_,_,rfl⟩:=ln3 hl; rfl) | (obtain ⟨_,_,_,_,rfl⟩:=ln4 hl; rfl) | (obtain ⟨_,_,_,_,_,rfl⟩:=ln5 hl; rfl) | (obtain ⟨_,_,_,_,_,_,rfl⟩:=ln6 hl; rfl) | (obtain ⟨_,_,_,_,_,_,_,rfl⟩:=ln7 hl; rfl)):∃ fd,AtS K mg name st ps f fd:=
 let ⟨a,l⟩:=a
 let ⟨_,F,B⟩:=l.bd b
 ⟨_,F,PySem.W.mg_of X G a,B⟩
theorem AtS.d {name:Str} (a:AtS K mg name st ps f fd) (P:aL) (w:aJ) (base:Heap) (hn:ps.length=n) (G:FnOk P w K mg base (CXD P w) k f fd ps (spF mg n F)):DefS P w K mg base k name n F:=a.def hn G
def noL (K:PySem.W.Frag):Bool:=K.all fun p=>match p.2.data with
 | .seq _ _=>(match p.2.cls with
  | .type n=>!(n == ("list" : Str))
  | _=>true)
 | _=>true
theorem Q7g (h:K.lookup a=some o):(a,o)∈K:=by
 induction K with
 | nil=>cases h
 | cons p K ih=>
  obtain ⟨b,u⟩:=p;rw [List.lookup_cons] at h;cases e:a == b with
  | true=>
   rw [e] at h;have:a=b:=by simpa using e
   subst this;cases h;exact D1
  | false=>
   rw [e] at h;exact O7 _ (ih h)
theorem Qn5 {its:Array aA} (hL:noL K=true) (h:K.lookup a=some o) (hc:o.cls=.type "list") (hd:o.data=.seq its n):False:=by
 have:=M5.mp hL _ (Q7g h);simp [hc,hd] at this
theorem Q2k {H:Hp} {ρ:Tk}:∀ ns:List Int,RepL H ρ (ns.map .int) (ns.map V.int)
 | []=>rfl
 | n :: ns=>⟨_,_,rfl,rfl,Q2k ns⟩
theorem Qgf (H:Hp):Rel H Tk.nil []:=⟨rfl,List.nodup_nil,fun a h=>(by cases h),fun a h=>(by cases h),fun i a c h=>(by simp [Tk.nil] at h)⟩
def Q3m (K:PySem.W.Frag):Sp:=fun vs H Q _=>∃ (a:aB) (ns:List Int),vs=[.ref a]/\SqL K H a (ns.map V.int)/\ns.length<=63/\∀ H',Q (.bl true) H'
theorem Qi0 {w:aJ} {base:Heap} {CX:CXT} {FL:FN} (hL:noL K=true) (F:FnOk P w K mg base CX k f fd ps (spF mg 1 FL)) (hlaw:∀ ns:List Int,ns.length<=63->∃ st',FL [.fro (ns.map .int)] []=.ok (.bl true) st'):FnOk P w K mg base CX k f fd ps (Q3m K):=F.imp fun vs H Q E ⟨a,ns,e,hS,hl,hQ⟩=>by
 subst e;obtain ⟨st',hF⟩:=hlaw ns hl;have hR:Rd H a (.lst (ns.map V.int)):=by
  rcases hS with h | ⟨o,its,n,h1,h2,h3,h4,_⟩
  ·exact h
  ·exact (Qn5 hL h1 h2 h4).elim
 refine ⟨rfl,Tk.nil,[],[.fro (ns.map .int)],Qgf H,⟨_,_,rfl,⟨a,_,rfl,hR,Tk.not_nil a,Q2k ns⟩,rfl⟩,?_⟩;rw [hF];intro H' ρ' x R v r;have e:v=.bl true:=r;subst e;exact hQ H'
theorem Qev {w:aJ} {H:Hp} {s:aC} {e:aA} {s':aC} (h:CXD P w [] H s (fun _ _ _=>False) e s'):False:=by
 obtain ⟨_,_,_,_,_,_,_,_,_,z⟩:=h;exact z
theorem walkS {l:PySem.W.OpenLaw} {q:aL} {loose:List Str} {XP:(Str->Option aA)->Heap->Prop} {YP:aJ->Heap->Prop} {d:DefRec} {K:Params->PySem.W.Frag} (hn:l.most=some 63) (hr:Room k callerA) (hdf:d.params.defaults=[])
  (hY:∀ (w:aJ) (h:Heap),YP w h->(K w.params).In h)
  (F:∀ (w:aJ) (mg:Str->Option aA) (fa:aB) (h:Heap),(K w.params).In h->h.Ns aR mg->mg d.name=some (.ref fa) ->
   ∃ fd:aP,(∀ (s:aC) (u:aA),BindsTo s fd ⟨[u],[]⟩ [("script",u)])/\∀ base:Heap,(K w.params).In base->base.Ns aR mg->FnOk l.prog w (K w.params) mg base (CXD l.prog w) k fa fd ["script"] (Q3m (K w.params))) :
  PySem.W.WalkO q loose XP YP l.row.toRowW d [] (fun f vs=>PySem.call f vs):=
 L2.walk_of (n:=63) (k:=k) (x := "script") (CX:=fun w=>CXD l.prog w) (sp:=fun w=>Q3m (K w.params)) hn (by decide) hdf hr hY F (fun _ _ a ns hl _ hS=>⟨a,ns,rfl,hS,hl,fun _=>rfl⟩) fun _ _ _ _ _ z=>Qev z
end Sm
namespace Lw
open PySem PySem.Spec L2 Sm
variable {f:aB} {fd:aP} {b:Bool} {n L R nl D k Ld C Hc W:Nat} {α:Type} {st S S1 S2 S3 A S0:Q0} {zs:List (PV × Bool)} {r:SR} {xs ls sv h:List Int} {Γ:Gam} {m me mo:ME} {v p q:PV} {mr:ML} {ps l:List PV} {ga:GA} {mi:MI} {c:List (Nat × Nat)} {mt:MT} {a:Int} {ss:List (Nat × Bool)}
def top (i:Nat):aK:=PySem.Challenge.pw_lendwharf_k49_whole_least_of_all_cuts.main.body.getD i (.Pass ⟨0,0,0,0⟩)
abbrev qz:aK:=top 4
abbrev Xe:aK:=top 5
abbrev K4:aK:=top 6
abbrev Wp:aK:=top 7
abbrev zy:aK:=top 9
abbrev j0:aK:=top 15
abbrev Yi:aK:=top 16
abbrev Z8:aK:=top 17
abbrev Yj:aK:=top 18
abbrev j1:aK:=top 19
abbrev K3:aK:=top 20
abbrev Uj:aK:=top 21
abbrev Ui:aK:=top 22
abbrev V9:aK:=top 23
abbrev zu:aK:=top 26
abbrev Uh:aK:=top 27
abbrev K2:aK:=top 28
abbrev zx:aK:=top 29
abbrev Xd:aK:=top 30
abbrev zw:aK:=top 31
abbrev Q3r:aK:=top 32
abbrev qy:aK:=top 33
abbrev Xf:aK:=top 34
abbrev Q6x:aK:=top 35
abbrev Vy:aK:=top 36
abbrev Xh:aK:=top 38
abbrev Xg:aK:=top 39
abbrev Uk:aK:=top 40
abbrev K5:aK:=top 41
abbrev Wq:aK:=top 42
abbrev Vz:aK:=top 43
abbrev Yw:aK:=top 44
abbrev Wr:aK:=top 45
abbrev Va:aK:=top 46
abbrev jp:aK:=top 47
structure Txt (mg:Str->Option aA):Prop where
 b_all:mg "all" = none
 b_bool:mg "bool" = none
 b_enumerate:mg "enumerate" = none
 b_int:mg "int" = none
 b_isinstance:mg "isinstance" = none
 b_len:mg "len" = none
 b_list:mg "list" = none
 b_max:mg "max" = none
 b_min:mg "min" = none
 b_range:mg "range" = none
 b_sorted:mg "sorted" = none
 b_sum:mg "sum" = none
 b_tuple:mg "tuple" = none
 b_zip:mg "zip" = none
 c_MOST_HOUSES_OF_PLAN:∃ t,mg "MOST_HOUSES_OF_PLAN" = some (.int 6 t)
 c_MOST_ROUNDS_OF_PLAN:∃ t,mg "MOST_ROUNDS_OF_PLAN" = some (.int 10 t)
 c_MOST_TAKINGS:∃ t,mg "MOST_TAKINGS" = some (.int 20 t)
 c_MOST_AT_ONCE:∃ t,mg "MOST_AT_ONCE" = some (.int 1000000 t)
 x_SPRING:∃ t,mg "SPRING" = some (.str "spring" t)
local macro_rules|`(tactic|fail "m")=>do let a:=(("Zg Ze K1 Q0r jn Qc9 Kz Qc5 Qbt Qqq Qbr Ky Qas Vs Qeg Qef Qkk Qkj Q9y Qqs Qc8 Qki Qc7 Q9x Qc6 Q9w Qg9 Q8g Qqr Qkh Qkg Qkf Qke Qkd Qkc Qg8 Qc4 Qkb Qc3 Qc2 Q6w Qk9 Qbz Qg7 Qg6 Q50 Q9u Q9t Q0q Qk8 Qg4 Qk7 Qg3 Qg2 Qk6 Qk5 Qfz Qbv Qfy Qk4 Qqp Qbu Qk3 Qbs Qk2 Qk1 jk Q8c Qjy Qfw Qqm Qjx".splitOn " ").map λn=>Lean.mkIdent (.mkSimple n)).toArray;`(tactic|with_reducible first $[|apply $a]* | refine Q52 (T := "list") (o:=zq) ?_ ?_ ?_ ?_ ?_ ?_ ?_ ?_ ?_ | refine Q52 (T := "tuple") (o:=U7) ?_ ?_ ?_ ?_ ?_ ?_ ?_ ?_ ?_ | apply Q53 | apply Qby | apply SimW.t)
local macro_rules|`(tactic|fail "o")=>do let a:=(("Qp8 Qp7 Qig Qp6 Qp5 Q6e Qp4 Qew Qnr Qmq Qmp Qri Qrh Qrg Qmn Qd8 Qrf Qre Qmm Qmk Qj1 Qd7 Qa8 Qmj Qmi".splitOn " ").map λn=>Lean.mkIdent (.mkSimple n)).toArray;`(tactic|first | (with_reducible first $[|apply $a]*))
local macro_rules | `(tactic| fail "r")=>`(tactic| first | rfl | assumption | decide | exact .inl rfl | exact .inr rfl | exact .inr (.inl rfl) | exact .inr (.inr rfl) | exact fun _=>rfl | exact fun _ _=>rfl | exact fun _ _ _=>rfl | exact ⟨rfl,rfl,rfl,rfl⟩ | exact ⟨by kernel_rfl⟩ | exact Q79 _ | exact Room.mono ‹_› (by decide) | exact jw | exact Q3u | exact PassesOwn.leaving | exact FnScope.nd ‹_› | exact Qry (by kernel_rfl) | exact Qgc ‹_› | exact Room.units ‹_› | exact Qcf | with_unfolding_all rfl)
local macro_rules | `(tactic| fail "s")=>`(tactic| first | (with_reducible first | exact PySem.boot_len | exact Qfc | exact Qb6 | exact Qfb | exact Q38 | exact Qfa | exact Qf9 | exact yz | exact Qf8 | exact Q7u) | rfl | (fail "m" <;> fail "s") | (fail "o" <;> fail "r") | ((first | apply ss_compVA | apply Q9q | apply Q0m) <;> fail "s") | fail "r" | (intro _ _ _ _ _; fail "s"))
local macro_rules | `(tactic| fail "k")=>`(tactic| (refine Q97 ‹_› ‹_› rfl rfl rfl ?_; fail "j"))
local macro_rules | `(tactic| fail "K")=>`(tactic| (refine Qec ‹_› ‹_› rfl rfl rfl ?_; fail "j"))
local macro_rules | `(tactic| fail "j")=>`(tactic| (intros; rcases ‹Txt _› with ⟨_,_,_,_,_,_,_,_,_,_,_,_,_,_,⟨_,_⟩,⟨_,_⟩,⟨_,_⟩,⟨_,_⟩,⟨_,_⟩⟩; show SimB _ _ (_ :: _) _; fail "s"))
local macro_rules | `(tactic| fail "c")=>`(tactic| exact ⟨rfl,rfl,rfl,by decide +kernel,rfl,by decide +kernel,by decide +kernel⟩)
variable {P:aL} {K:PySem.W.Frag} {mg:Str->Option aA} {base:Heap}
section
variable {w:aJ}
def j5:MS:=(Jh (yc (Q7f "int" (Q3 0)) (Qn8 (Q7f "bool" (Q3 0)))))
def V0:FN:=Qn j5 1
theorem Q5h (F:Fun K "is_whole" "is_whole" qz f fd) (T:Txt mg)   : FnOk P w K mg base (CXD P w) 1 f fd ["thing"] (spF mg 1 V0):=by
 have:FnScope ["thing"] ["thing"] (Q9 qz):=by fail "c"
 delta V0 j5
 fail "k"
def Xm:MS:=(Jh (yc (Qe 1 V0 (Q1 (Q3 0) Q6)) (y9 (oI fun a b=>.bl (decide (a<=b))) (oI fun a b=>.bl (decide (a<=b))) (Q3 1) (Q3 0) (Q3 2))))
def Qh:FN:=Qn Xm 3
theorem Q25 (F:Fun K "is_between" "is_between" Xe f fd) (T:Txt mg)  (D_is_whole:DefS P w K mg base 1 "is_whole" 1 V0):FnOk P w K mg base (CXD P w) 2 f fd ["thing", "least", "most"] (spF mg 3 Qh):=by
 have:FnScope ["thing", "least", "most"] ["thing", "least", "most"] (Q9 Xe):=by fail "c"
 delta Qh Xm
 fail "k"
def V4:ME:=(mOp oLt (Q3 0) (Q3 1))
def Kc:MS:=(Jh (Qm (xn fun ns=>.bl (ns.all id)) (Q1 (Ub (Qx [none,none] (Jr (Qf (Q5 0) (Qf (Q5 1) Js))) (Q2a (Q1 (Q3 0) (Q1 (mSl (Q3 0) (Yq (mC (.int 1))) Jq) Q6))) Jk V4)) Q6)))
def W8:FN:=Qn Kc 1
theorem Q3y (F:Fun K "is_rising" "is_rising" K4 f fd) (T:Txt mg)   : FnOk P w K mg base (CXD P w) 1 f fd ["things"] (spF mg 1 W8):=by
 have:FnScope ["things"] ["things"] (Q9 K4):=by fail "c"
 delta W8 Kc V4
 fail "k"
def Wv:MS:=(Jh (yc (Q7f "tuple" (Q3 0)) (y9 (oI fun a b=>.bl (decide (a<=b))) (oI fun a b=>.bl (decide (a<=b))) (Q3 1) (Qm Y0 (Q1 (Q3 0) Q6)) (Q3 2))))
def Qg:FN:=Qn Wv 3
theorem jy (F:Fun K "is_sized_tuple" "is_sized_tuple" Wp f fd) (T:Txt mg)   : FnOk P w K mg base (CXD P w) 1 f fd ["thing", "least", "most"] (spF mg 3 Qg):=by
 have:FnScope ["thing", "least", "most"] ["thing", "least", "most"] (Q9 Wp):=by fail "c"
 delta Qg Wv
 fail "k"
def W6:ME:=(Qe 3 Qh (Q1 (Q3 0) (Q1 (mC (.int 0)) (Q1 (mOp (oI fun a b=>.int (a - b)) (Q3 1) (mC (.int 1))) Q6))))
def qc : MS := (Qc (Yy (Q21 (Xw (toB (Q7f "tuple" (Q3 1)))) (toB (mOp oNe (Qm Y0 (Q1 (Q3 1) Q6)) (mC (.int 2))))) (Jh (mC (.bl false))) Zd)
  (Jh (yc (Qm (xn fun ns=>.bl (ns.all id)) (Q1 (Ub (Qx [none,some 0] (Q5 0) (Wj (Q3 1)) Jk W6)) Q6)) (mOp oNe (mOp oIx (Q3 1) (mC (.int 0))) (mOp oIx (Q3 1) (mC (.int 1)))))))
def Zx:FN:=Qn qc 2
theorem Q77 (F:Fun K "is_road" "is_road" zy f fd) (T:Txt mg)  (D_is_between:DefS P w K mg base 2 "is_between" 3 Qh):FnOk P w K mg base (CXD P w) 3 f fd ["n", "thing"] (spF mg 2 Zx):=by
 have:FnScope ["n", "thing"] ["n", "thing"] (Q9 zy):=by fail "c"
 delta Zx qc W6
 fail "k"
def Vm:ME:=(Qe 3 Qh (Q1 (Q3 0) (Q1 (mC (.int 0)) (Q1 (mC (.int 1000000)) Q6))))
def j6 : MS := (Qc (Yy (Xw (toB (Qe 3 Qg (Q1 (Q3 0) (Q1 (mC (.int 1)) (Q1 (mC (.int 6)) Q6)))))) (Jh (mC (.bl false))) Zd)
  (Jh (Qm (xn fun ns=>.bl (ns.all id)) (Q1 (Ub (Qx [none] (Q5 0) (Wj (Q3 0)) Jk Vm)) Q6))))
def Y4:FN:=Qn j6 1
theorem Q5i (F:Fun K "is_start" "is_start" j0 f fd) (T:Txt mg)  (D_is_sized_tuple:DefS P w K mg base 1 "is_sized_tuple" 3 Qg) (D_is_between:DefS P w K mg base 2 "is_between" 3 Qh):FnOk P w K mg base (CXD P w) 3 f fd ["thing"] (spF mg 1 Y4):=by
 have:FnScope ["thing"] ["thing"] (Q9 j0):=by fail "c"
 delta Y4 j6 Vm
 fail "k"
def Zf:MS:=(Jh (yc (Qe 3 Qg (Q1 (Q3 1) (Q1 (mC (.int 3)) (Q1 (mC (.int 3)) Q6)))) (yc (Qe 2 Zx (Q1 (Q3 0) (Q1 (mSl (Q3 1) Jq (Yq (mC (.int 2)))) Q6))) (Qe 3 Qh (Q1 (mOp oIx (Q3 1) (mC (.int 2))) (Q1 (mC (.int 1)) (Q1 (mC (.int 1000000)) Q6)))))))
def Qs:FN:=Qn Zf 2
theorem K9 (F:Fun K "is_road_with_most" "is_road_with_most" Yi f fd) (T:Txt mg)  (D_is_sized_tuple:DefS P w K mg base 1 "is_sized_tuple" 3 Qg) (D_is_road:DefS P w K mg base 3 "is_road" 2 Zx) (D_is_between:DefS P w K mg base 2 "is_between" 3 Qh):FnOk P w K mg base (CXD P w) 4 f fd ["n", "thing"] (spF mg 2 Qs):=by
 have:FnScope ["n", "thing"] ["n", "thing"] (Q9 Yi):=by fail "c"
 delta Qs Zf
 fail "k"
def J6:ME:=(Qe 2 Qs (Q1 (Q3 1) (Q1 (Q3 0) Q6)))
def J5:ME:=(mSl (Q3 0) Jq (Yq (mC (.int 2))))
def Z9 : MS := (Qc (Yy (Q21 (Xw (toB (Q7f "tuple" (Q3 1)))) (Xw (toB (Qm (xn fun ns => .bl (ns.all id)) (Q1 (Ub (Qx [none, some 0] (Q5 0) (Wj (Q3 1)) Jk J6)) Q6))))) (Jh (mC (.bl false))) Zd)
  (Jh (Qe 1 W8 (Q1 (Ub (Qx [none] (Q5 0) (Wj (Q3 1)) Jk J5)) Q6))))
def Qi:FN:=Qn Z9 2
theorem Ua (F:Fun K "are_roads_of_one_round" "are_roads_of_one_round" Z8 f fd) (T:Txt mg)  (D_is_road_with_most:DefS P w K mg base 4 "is_road_with_most" 2 Qs) (D_is_rising:DefS P w K mg base 1 "is_rising" 1 W8):FnOk P w K mg base (CXD P w) 5 f fd ["n", "thing"] (spF mg 2 Qi):=by
 have:FnScope ["n", "thing"] ["n", "thing"] (Q9 Z8):=by fail "c"
 delta Qi Z9 J5 J6
 fail "k"
def Z1:ME:=(Qe 2 Qi (Q1 (Q3 1) (Q1 (Q3 0) Q6)))
def Yk:MS:=(Jh (yc (Qe 3 Qg (Q1 (Q3 1) (Q1 (mC (.int 0)) (Q1 (mC (.int 10)) Q6)))) (Qm (xn fun ns=>.bl (ns.all id)) (Q1 (Ub (Qx [none,some 0] (Q5 0) (Wj (Q3 1)) Jk Z1)) Q6))))
def Qt:FN:=Qn Yk 2
theorem Ka (F:Fun K "are_roads_of_plan" "are_roads_of_plan" Yj f fd) (T:Txt mg)  (D_is_sized_tuple:DefS P w K mg base 1 "is_sized_tuple" 3 Qg) (D_are_roads_of_one_round:DefS P w K mg base 5 "are_roads_of_one_round" 2 Qi):FnOk P w K mg base (CXD P w) 6 f fd ["n", "thing"] (spF mg 2 Qt):=by
 have:FnScope ["n", "thing"] ["n", "thing"] (Q9 Yj):=by fail "c"
 delta Qt Yk Z1
 fail "k"
def j7:MS:=(Jh (yc (Qe 3 Qh (Q1 (Q3 2) (Q1 (mC (.int 0)) (Q1 (mOp (oI fun a b=>.int (a - b)) (Q3 0) (mC (.int 1))) Q6)))) (Qe 3 Qh (Q1 (Q3 3) (Q1 (mC (.int 0)) (Q1 (Q3 1) Q6))))))
def V3:FN:=Qn j7 4
theorem Q5j (F:Fun K "is_place" "is_place" j1 f fd) (T:Txt mg)  (D_is_between:DefS P w K mg base 2 "is_between" 3 Qh):FnOk P w K mg base (CXD P w) 3 f fd ["n", "rounds", "house", "moment"] (spF mg 4 V3):=by
 have:FnScope ["n", "rounds", "house", "moment"] ["n", "rounds", "house", "moment"] (Q9 j1):=by fail "c"
 delta V3 j7
 fail "k"
def Kb : MS := (Qc (Yy (Q21 (Xw (toB (Qe 3 Qg (Q1 (Q3 2) (Q1 (mC (.int 3)) (Q1 (mC (.int 3)) Q6)))))) (Xw (toB (Qe 4 V3 (Q1 (Q3 0) (Q1 (Q3 1) (Q1 (mOp oIx (Q3 2) (mC (.int 1))) (Q1 (mOp oIx (Q3 2) (mC (.int 0))) Q6)))))))) (Jh (mC (.bl false))) Zd)
  (Jh (Qe 3 Qh (Q1 (mOp oIx (Q3 2) (mC (.int 2))) (Q1 (mC (.int 1)) (Q1 (mC (.int 1000000)) Q6))))))
def Zp:FN:=Qn Kb 3
theorem Q3x (F:Fun K "is_taking" "is_taking" K3 f fd) (T:Txt mg)  (D_is_sized_tuple:DefS P w K mg base 1 "is_sized_tuple" 3 Qg) (D_is_place:DefS P w K mg base 3 "is_place" 4 V3) (D_is_between:DefS P w K mg base 2 "is_between" 3 Qh):FnOk P w K mg base (CXD P w) 4 f fd ["n", "rounds", "thing"] (spF mg 3 Zp):=by
 have:FnScope ["n", "rounds", "thing"] ["n", "rounds", "thing"] (Q9 K3):=by fail "c"
 delta Zp Kb
 fail "k"
def Yt:ME:=(Qe 3 Zp (Q1 (Q3 1) (Q1 (Q3 2) (Q1 (Q3 0) Q6))))
def Up:MS:=(Jh (yc (Qe 3 Qg (Q1 (Q3 2) (Q1 (mC (.int 0)) (Q1 (mC (.int 20)) Q6)))) (Qm (xn fun ns=>.bl (ns.all id)) (Q1 (Ub (Qx [none,some 0,some 1] (Q5 0) (Wj (Q3 2)) Jk Yt)) Q6))))
def Jt:FN:=Qn Up 3
theorem Q12 (F:Fun K "are_takings" "are_takings" Uj f fd) (T:Txt mg)  (D_is_sized_tuple:DefS P w K mg base 1 "is_sized_tuple" 3 Qg) (D_is_taking:DefS P w K mg base 4 "is_taking" 3 Zp):FnOk P w K mg base (CXD P w) 5 f fd ["n", "rounds", "thing"] (spF mg 3 Jt):=by
 have:FnScope ["n", "rounds", "thing"] ["n", "rounds", "thing"] (Q9 Uj):=by fail "c"
 delta Jt Up Yt
 fail "k"
def Um : MS := (Qc (Yy (Q21 (Xw (toB (Qe 3 Qg (Q1 (Q3 0) (Q1 (mC (.int 3)) (Q1 (mC (.int 3)) Q6)))))) (Xw (toB (Qe 1 Y4 (Q1 (mOp oIx (Q3 0) (mC (.int 0))) Q6))))) (Jh (mC (.bl false))) Zd)
  (Qc (Qr 1 (Qm Y0 (Q1 (mOp oIx (Q3 0) (mC (.int 0))) Q6)))
  (Jh (yc (Qe 2 Qt (Q1 (Q3 1) (Q1 (mOp oIx (Q3 0) (mC (.int 1))) Q6))) (Qe 3 Jt (Q1 (Q3 1) (Q1 (Qm Y0 (Q1 (mOp oIx (Q3 0) (mC (.int 1))) Q6)) (Q1 (mOp oIx (Q3 0) (mC (.int 2))) Q6))))))))
def Zc:FN:=Qn Um 2
theorem Q11 (F:Fun K "is_question" "is_question" Ui f fd) (T:Txt mg)  (D_is_sized_tuple:DefS P w K mg base 1 "is_sized_tuple" 3 Qg) (D_is_start:DefS P w K mg base 3 "is_start" 1 Y4) (D_are_roads_of_plan:DefS P w K mg base 6 "are_roads_of_plan" 2 Qt) (D_are_takings:DefS P w K mg base 5 "are_takings" 3 Jt):FnOk P w K mg base (CXD P w) 7 f fd ["thing"] (spF mg 1 Zc):=by
 have:FnScope ["thing", "n"] ["thing"] (Q9 Ui):=by fail "c"
 delta Zc Um
 fail "k"
def Vb:MS:=(Yy (Xw (toB (Qe 1 Zc (Q1 (Q3 0) Q6)))) (Q7d "NoPlan" (mC (.str "this is no question of a plan"))) Zd)
def Ji:FN:=Qn Vb 1
theorem y0 (F:Fun K "need_question" "need_question" V9 f fd) (T:Txt mg) (C_NoPlan:∃ C,mg "NoPlan" = some (.ref C)/\PySem.W.excIn K C Qfd "ValueError.__new__" = true) (D_is_question:DefS P w K mg base 7 "is_question" 1 Zc):FnOk P w K mg base (CXD P w) 8 f fd ["question"] (spF mg 1 Ji):=by
 obtain ⟨_,_,_⟩:=C_NoPlan;have:FnScope ["question"] ["question"] (Q9 V9):=by fail "c"
 delta Ji Vb
 fail "k"
def Kj:ME:=(Jd (Q1 (mC (.str "spring")) (Q1 (Jd (Q1 (Q3 0) (Q1 (mC (.int 0)) Q6))) (Q1 (Q3 1) Q6))))
def Ki:ME:=(Jd (Q1 (Jd (Q1 (Q3 0) (Q1 (Q3 1) Q6))) (Q1 (Jd (Q1 (Q3 0) (Q1 (mOp Qz (Q3 1) (mC (.int 1))) Q6))) (Q1 (Qm (Yg fun ns=>some (.int ns.sum)) (Q1 (Q3 2) Q6)) Q6))))
def Kh:ME:=(Jd (Q1 (Jd (Q1 (Q3 0) (Q1 (Q3 3) Q6))) (Q1 (Jd (Q1 (Q3 1) (Q1 (mOp Qz (Q3 3) (mC (.int 1))) Q6))) (Q1 (Q3 2) Q6))))
def Kt : MS := (Qc (Yf (mBM X0 (Q3 2) (Q1 (Ub (Qx [none, some 3, some 1] (Q5 0) (Ja (Q1 (Qm Y0 (Q1 (Q3 1) Q6)) Q6)) Jk Ki)) Q6)))
  (Yf (mBM X0 (Q3 2) (Q1 (Ub (Qx [none,none,none,some 3] (Jr (Qf (Q5 0) (Qf (Q5 1) (Qf (Q5 2) Js)))) (Wj (Q3 4)) Jk Kh)) Q6))))
def y8 : MS := (Qc (Qr 1 (mOp oIx (Q3 0) (mC (.int 0))))
  (Qc (Qr 2 (Yp (Qx [none,none] (Jr (Qf (Q5 0) (Qf (Q5 1) Js))) (qr (Q1 (Q3 1) Q6)) Jk Kj)))
  (Qc (Yz (Jr (Qf (Q5 3) (Qf (Q5 4) Js))) (qr (Q1 (mOp oIx (Q3 0) (mC (.int 1))) Q6)) Kt)
  (Jh (Q3 2)))))
def X8:FN:=Qn y8 5
theorem Q74 (F:Fun K "ways_of" "ways_of" zu f fd) (T:Txt mg)   : FnOk P w K mg base (CXD P w) 1 f fd ["question"] (spF mg 1 X8):=by
 have:FnScope ["question", "starts", "ways", "number", "roads"] ["question"] (Q9 zu):=by fail "c"
 delta X8 y8 Kt Kh Ki Kj
 fail "k"
def Vd : MS := (Qc (Yf (mBM Qq (Q2t (Q3 1) (mOp oIx (Q3 3) (mC (.int 0))) (Yp (Yr Q6))) (Q1 (Q3 2) Q6)))
  (Yf (mBM Qq (Q2t (Q3 1) (mOp oIx (Q3 3) (mC (.int 1))) (Yp (Yr Q6))) (Q1 (Q3 2) Q6))))
def qq : MS := (Qc (Qr 1 Qdq)
  (Qc (Yz (Jr (Qf (Q5 2) (Qf (Q5 3) Js))) (qr (Q1 (Q3 0) Q6)) Vd)
  (Jh (Q3 1))))
def Ys:FN:=X7 qq 4
theorem Q10 (F:Fun K "ways_by_end" "ways_by_end" Uh f fd) (T:Txt mg)   : FnOk P w K mg base (CXD P w) 1 f fd ["ways"] (spF mg 1 Ys):=by
 have:FnScope ["ways", "numbers", "number", "way"] ["ways"] (Q9 Uh):=by fail "c"
 delta Ys qq Vd
 fail "K"
def yt : MS := (Qc (Yy (Vf (toB (mOp oEq (mOp oIx (Q3 0) (mC (.int 0))) (Q3 2))) (toB (mOp oLt (Q3 1) (mOp oIx (Q3 0) (mC (.int 2)))))) (Jh (mOp oIx (Q3 0) (mC (.int 1)))) Zd)
  (Qc (Yy (Vf (toB (mOp oEq (mOp oIx (Q3 0) (mC (.int 1))) (Q3 2))) (toB (mOp (oI fun a b=>.bl (decide (b < a))) (Q3 1) (mC (.int 0))))) (Jh (mOp oIx (Q3 0) (mC (.int 0)))) Zd)
  (Jh (mC .non))))
def W7:FN:=Qn yt 3
theorem Q3w (F:Fun K "other_end" "other_end" K2 f fd) (T:Txt mg)   : FnOk P w K mg base (CXD P w) 1 f fd ["way", "load", "end"] (spF mg 3 W7):=by
 have:FnScope ["way", "load", "end"] ["way", "load", "end"] (Q9 K2):=by fail "c"
 delta W7 yt
 fail "k"
def V7 : MS := (Qc (Qr 8 (Qe 3 W7 (Q1 (mOp oIx (Q3 0) (Q3 7)) (Q1 (mOp oIx (Q3 1) (Q3 7)) (Q1 (Q3 6) Q6)))))
  (Yy (Vf (toB (mOp j3 (Q3 8) (mC .non))) (toB (mOp (Q5n true) (Q3 8) (Q3 3)))) (Qc (Q42 (Q3 3) (Q3 8) (Jd (Q1 (Q3 7) (Q1 (Q3 6) Q6))))
  (Yf (mBM Qq (Q3 5) (Q1 (Q3 8) Q6)))) Zd))
def Uf:MS:=(Yz (Q5 7) (Wj (ja (Q3 2) (Q3 6))) V7)
def V8 : MS := (Qc (Qr 5 (Yp (Yr Q6)))
  (Qc (Yz (Q5 6) (Wj (Q3 4)) Uf)
  (Qr 4 (Q3 5))))
def Y1:MT:=(toB (mOp (oI fun a b=>.bl (decide (b < a))) (Qm Y0 (Q1 (Q3 4) Q6)) (mC (.int 0))))
def Q2s : MS := (Qc (Qr 2 (Qe 1 Ys (Q1 (Q3 0) Q6)))
  (Qc (Qr 3 (xz (mC (.str "spring")) (mC .non)))
  (Qc (Qr 4 (Q7e (Q1 (mC (.str "spring")) Q6)))
  (Qc (Z7 Y1 V8 100000)
  (Jh (Q3 3))))))
def Yc:FN:=X7 Q2s 9
theorem Q76 (F:Fun K "reached" "reached" zx f fd) (T:Txt mg)  (D_ways_by_end:DefS P w K mg base 1 "ways_by_end" 1 Ys) (D_other_end:DefS P w K mg base 1 "other_end" 3 W7):FnOk P w K mg base (CXD P w) 2 f fd ["ways", "loads"] (spF mg 2 Yc):=by
 have:FnScope ["ways", "loads", "by_end", "found", "fresh", "further", "end", "number", "other"] ["ways", "loads"] (Q9 zx):=by fail "c"
 delta Yc Q2s Y1 V8 Uf V7
 fail "K"
def U8 : MS := (Qc (Qr 5 (ja (Q3 1) (Q3 4)))
  (Qc (Yf (mBM Qq (Q3 3) (Q1 (Jd (Q1 (mOp oIx (Q3 5) (mC (.int 0))) (Q1 (mOp oEq (mOp oIx (mOp oIx (Q3 0) (mOp oIx (Q3 5) (mC (.int 0)))) (mC (.int 1))) (Q3 4)) Q6))) Q6)))
  (Qr 4 (mOp oIx (Q3 5) (mC (.int 1))))))
def Vu:MT:=(toB (mOp j3 (ja (Q3 1) (Q3 4)) (mC .non)))
def Xk : MS := (Qc (Qr 3 (Yp (Yr Q6)))
  (Qc (Qr 4 (Q3 2))
  (Qc (Z7 Vu U8 100000)
  (Jh (Q3 3)))))
def Wi:FN:=Qn Xk 6
theorem Q24 (F:Fun K "steps_back" "steps_back" Xd f fd) (T:Txt mg)   : FnOk P w K mg base (CXD P w) 1 f fd ["ways", "found", "place"] (spF mg 3 Wi):=by
 have:FnScope ["ways", "found", "place", "steps", "at", "step"] ["ways", "found", "place"] (Q9 Xd):=by fail "c"
 delta Wi Xk Vu U8
 fail "k"
def Ue:ME:=(mIf (toB (Q3 1)) (mOp (oI fun a b=>.int (a - b)) (mOp oIx (mOp oIx (Q3 3) (Q3 0)) (mC (.int 2))) (mOp oIx (Q3 2) (Q3 0))) (mOp oIx (Q3 2) (Q3 0)))
def Q2r:MS:=(Jh (Qm Xy (Q1 (Ub (Qx [none,none,some 1,some 0] (Jr (Qf (Q5 0) (Qf (Q5 1) Js))) (Wj (Q3 2)) Jk Ue)) Q6)))
def X9:FN:=Qn Q2r 3
theorem Q75 (F:Fun K "room_by" "room_by" zw f fd) (T:Txt mg)   : FnOk P w K mg base (CXD P w) 1 f fd ["ways", "loads", "steps"] (spF mg 3 X9):=by
 have:FnScope ["ways", "loads", "steps"] ["ways", "loads", "steps"] (Q9 zw):=by fail "c"
 delta X9 Q2r Ue
 fail "k"
def qh:MS:=(Q5y (Q3 1) (Q3 8) (fun i j=>i + j) (mIf (toB (Q3 9)) (Q3 7) (Qhv (Q3 7))))
def qi : MS := (Qc (Qr 6 (Qe 3 Wi (Q1 (Q3 0) (Q1 (Q3 5) (Q1 (Q3 3) Q6)))))
  (Qc (Qr 7 (Qm Xy (Q1 (Qe 3 X9 (Q1 (Q3 0) (Q1 (Q3 1) (Q1 (Q3 6) Q6)))) (Q1 (mOp (oI fun a b=>.int (a - b)) (mOp oIx (Q3 2) (mC (.int 2))) (Q3 4)) Q6))))
  (Qc (Yz (Jr (Qf (Q5 8) (Qf (Q5 9) Js))) (Wj (Q3 6)) qh)
  (Qc (Qdt 4 (fun i j=>i + j) (Q3 7))
  (Qr 5 (Qe 2 Yc (Q1 (Q3 0) (Q1 (Q3 1) Q6))))))))
def Uv:MT:=(Vf (toB (mOp oLt (Q3 4) (mOp oIx (Q3 2) (mC (.int 2))))) (toB (mOp (Q5n false) (Q3 3) (Q3 5))))
def Q8t : MS := (Qc (Qr 3 (Jd (Q1 (mOp oIx (Q3 2) (mC (.int 1))) (Q1 (mOp oIx (Q3 2) (mC (.int 0))) Q6))))
  (Qc (Qr 4 (mC (.int 0)))
  (Qc (Qr 5 (Qe 2 Yc (Q1 (Q3 0) (Q1 (Q3 1) Q6))))
  (Qc (Z7 Uv qi 2000000)
  (Jh (Q3 4))))))
def zt:FN:=X7 Q8t 10
theorem Qdb (F:Fun K "serve" "serve" Q3r f fd) (T:Txt mg)  (D_reached:DefS P w K mg base 2 "reached" 2 Yc) (D_steps_back:DefS P w K mg base 1 "steps_back" 3 Wi) (D_room_by:DefS P w K mg base 1 "room_by" 3 X9):FnOk P w K mg base (CXD P w) 3 f fd ["ways", "loads", "taking"] (spF mg 3 zt):=by
 have:FnScope ["ways", "loads", "taking", "place", "served", "found", "steps", "amount", "number", "onward"] ["ways", "loads", "taking"] (Q9 Q3r):=by fail "c"
 delta zt Q8t Uv qi qh
 fail "K"
def Xu:MS:=(Yy (Vf (toB (mOp oNe (mOp oIx (Q3 3) (mC (.int 0))) (mC (.str "spring")))) (Vf (toB (mOp oNe (mOp oIx (mOp oIx (Q3 3) (mC (.int 0))) (mC (.int 0))) (mOp oIx (mOp oIx (Q3 3) (mC (.int 1))) (mC (.int 0))))) (toB (mOp (oI fun a b=>.bl (decide (b < a))) (Q3 4) (mC (.int 0)))))) (Yf (mBM Qq (Q3 2) (Q1 (Jd (Q1 (mOp oIx (mOp oIx (Q3 3) (mC (.int 0))) (mC (.int 1))) (Q1 (mOp oIx (mOp oIx (Q3 3) (mC (.int 0))) (mC (.int 0))) (Q1 (mOp oIx (mOp oIx (Q3 3) (mC (.int 1))) (mC (.int 0))) (Q1 (Q3 4) Q6))))) Q6))) Zd)
def j4 : MS := (Qc (Qr 2 (Yp (Yr Q6)))
  (Qc (Yz (Jr (Qf (Q5 3) (Qf (Q5 4) Js))) (Q2a (Q1 (Q3 0) (Q1 (Q3 1) Q6))) Xu)
  (Jh (Q3 2))))
def U9:FN:=Qn j4 5
theorem Q5g (F:Fun K "moves_by" "moves_by" qy f fd) (T:Txt mg)   : FnOk P w K mg base (CXD P w) 1 f fd ["ways", "loads"] (spF mg 2 U9):=by
 have:FnScope ["ways", "loads", "moves", "way", "load"] ["ways", "loads"] (Q9 qy):=by fail "c"
 delta U9 j4 Xu
 fail "k"
def Kn:ME:=(mC (.int 0))
def Km:ME:=(Qe 3 zt (Q1 (Q3 1) (Q1 (Q3 2) (Q1 (Q3 0) Q6))))
def Kk:ME:=(Q3 0)
def Xz:MT:=(toB (mOp oNe (Q3 0) (mC (.str "spring"))))
def Xn : MS := (Qc (Qr 1 (Qe 1 X8 (Q1 (Q3 0) Q6)))
  (Qc (Qr 2 (Yp (Qx [none] (Q5 0) (Wj (Q3 1)) Jk Kn)))
  (Qc (Qr 3 (Ub (Qx [none,some 1,some 2] (Q5 0) (Wj (mOp oIx (Q3 0) (mC (.int 2)))) Jk Km)))
  (Qc (Qr 4 (Qm Q1q (Q1 (Ub (Qx [none] (Q5 0) (j9 (Qe 2 Yc (Q1 (Q3 1) (Q1 (Q3 2) Q6)))) Xz Kk)) Q6)))
  (Jh (Jd (Q1 (Q3 3) (Q1 (Qe 2 U9 (Q1 (Q3 1) (Q1 (Q3 2) Q6))) (Q1 (Q3 4) Q6)))))))))
def Yd:FN:=Qn Xn 5
theorem sc_all_served:FnScope ["question", "ways", "loads", "served", "cut"] ["question"] (Q9 Xf):=⟨rfl,rfl,rfl,by decide +kernel,rfl,by decide +kernel,by decide +kernel⟩
theorem Q26 (F:Fun K "all_served" "all_served" Xf f fd) (T:Txt mg)  (D_ways_of:DefS P w K mg base 1 "ways_of" 1 X8) (D_serve:DefS P w K mg base 3 "serve" 3 zt) (D_reached:DefS P w K mg base 2 "reached" 2 Yc) (D_moves_by:DefS P w K mg base 1 "moves_by" 2 U9):FnOk P w K mg base (CXD P w) 4 f fd ["question"] (spF mg 1 Yd):=by
 refine Q97 (k:=3) (m:=Xn) F sc_all_served rfl rfl rfl fun cdv A outer s H E hr=>?_
 exact (jn (Q0m 1 sc_all_served.nd (Kz D_ways_of (hr.mono (by decide)) jw rfl (Ze (Zg 0) K1)))
  (jn (by first | exact Q4y [none] ["way"] 2 sc_all_served.nd rfl (Q0q (Zg 1)) (fun _ _ _ _ _=>(Ky (i:=0) (show (["way"]:List Str).Nodup by decide +kernel))) (fun _ _ _ _ _=>Q0r) (fun _ _ _ _ _=>jk) Vs | exact Q0m 2 sc_all_served.nd (Qc3 (xw [none] ["way"] rfl (Q0q (Zg 1)) (fun _ _ _ _ _=>(Ky (i:=0) (show (["way"]:List Str).Nodup by decide +kernel))) (fun _ _ _ _ _=>Q0r) (fun _ _ _ _ _=>jk) Vs)))
  (jn (by first | exact Qbw [none,some 1,some 2] ["taking", "ways", "loads"] 3 sc_all_served.nd rfl (Q0q (Qc5 (Zg 0) Q0r)) (fun _ _ _ _ _=>(Ky (i:=0) (show (["taking", "ways", "loads"]:List Str).Nodup by decide +kernel))) (fun _ _ _ _ _=>(Kz D_serve (hr.mono (by decide)) Q3u rfl (Ze (Zg 1) (Ze (Zg 2) (Ze (Zg 0) K1))))) (fun _ _ _ _ _=>jk) Vs | exact Q0m 3 sc_all_served.nd (Q6w (xw [none,some 1,some 2] ["taking", "ways", "loads"] rfl (Q0q (Qc5 (Zg 0) Q0r)) (fun _ _ _ _ _=>(Ky (i:=0) (show (["taking", "ways", "loads"]:List Str).Nodup by decide +kernel))) (fun _ _ _ _ _=>(Kz D_serve (hr.mono (by decide)) Q3u rfl (Ze (Zg 1) (Ze (Zg 2) (Ze (Zg 0) K1))))) (fun _ _ _ _ _=>jk) Vs)))
  (jn (Q0m 4 sc_all_served.nd (Q53 Q6e rfl T.b_sorted yz (Ze (Q6w (xw [none] ["end"] rfl (Q50 (Kz D_reached (hr.mono (by decide)) jw rfl (Ze (Zg 1) (Ze (Zg 2) K1)))) (fun _ _ _ _ _=>(Ky (i:=0) (show (["end"]:List Str).Nodup by decide +kernel))) (fun _ _ _ _ _=>(Zg 0)) (fun _ _ _ _ _=>(Q8c (Qbr (Qj1 hr.units) (Zg 0) (Q8g rfl T.x_SPRING.choose_spec)))) Vs)) K1)))
  (Qc9 (Qbt (Qc2 (Ze (Zg 3) (Ze (Kz D_moves_by (hr.mono (by decide)) jw rfl (Ze (Zg 1) (Ze (Zg 2) K1))) (Ze (Zg 4) K1))))))))))
def Q7b : MS := (Qc (Yf (Qe 1 Ji (Q1 (Q3 0) Q6)))
  (Qc (Qr 1 (Qe 1 Yd (Q1 (Q3 0) Q6)))
  (Jh (Jd (Q1 (Qm (Yg fun ns=>some (.int ns.sum)) (Q1 (mOp oIx (Q3 1) (mC (.int 0))) Q6)) (Q1 (Jd (Q1 (mOp oIx (Q3 1) (mC (.int 1))) (Q1 (mOp oIx (Q3 1) (mC (.int 0))) Q6))) (Q1 (mOp oIx (Q3 1) (mC (.int 2))) Q6)))))))
def Kv:FN:=Qn Q7b 2
theorem Qhi (F:Fun K "best" "best" Q6x f fd) (T:Txt mg)  (D_need_question:DefS P w K mg base 8 "need_question" 1 Ji) (D_all_served:DefS P w K mg base 4 "all_served" 1 Yd):FnOk P w K mg base (CXD P w) 9 f fd ["question"] (spF mg 1 Kv):=by
 have:FnScope ["question", "told"] ["question"] (Q9 Q6x):=by fail "c"
 delta Kv Q7b
 fail "k"
def Wb : MS := (Qc (Yf (Qe 1 Ji (Q1 (Q3 0) Q6)))
  (Qc (Qr 1 (Qe 1 Yd (Q1 (Q3 0) Q6)))
  (Jh (Jd (Q1 (mOp oIx (Q3 1) (mC (.int 0))) (Q1 (Jd (Q1 (mOp oIx (Q3 1) (mC (.int 1))) (Q1 (Qm zq (Q1 (mOp oIx (Q3 1) (mC (.int 0))) Q6)) Q6))) Q6))))))
def Y5:FN:=Qn Wb 2
theorem xh (F:Fun K "first_served" "first_served" Vy f fd) (T:Txt mg)  (D_need_question:DefS P w K mg base 8 "need_question" 1 Ji) (D_all_served:DefS P w K mg base 4 "all_served" 1 Yd):FnOk P w K mg base (CXD P w) 9 f fd ["question"] (spF mg 1 Y5):=by
 have:FnScope ["question", "told"] ["question"] (Q9 Vy):=by fail "c"
 delta Y5 Wb
 fail "k"
def Vj : MS := (Qc (Yy (toB (mOp oLt (Q3 1) (Qm Y0 (Q1 (Q3 0) Q6)))) (Jh (mOp oIx (Q3 0) (Q3 1))) Zd)
  (Jh (mC (.int 0))))
def Zu:FN:=Qn Vj 2
theorem Q28 (F:Fun K "_law_acell" "_law_acell" Xh f fd) (T:Txt mg)   : FnOk P w K mg base (CXD P w) 1 f fd ["script", "k"] (spF mg 2 Zu):=by
 have:FnScope ["script", "k"] ["script", "k"] (Q9 Xh):=by fail "c"
 delta Zu Vj
 fail "k"
def Wf : MS := (Qc (Qr 4 (mOp Qz (mOp Q40 (Q3 4) (Q3 3)) (Q3 5)))
  (Qr 5 (mOp Q5k (mOp Qz (mOp Qz (mOp Q40 (Q3 5) (Q3 5)) (mOp Q40 (mC (.int 40692)) (Q3 1))) (Q3 6)) (Q3 3))))
def Vi : MS := (Qc (Qr 2 (Qe 2 Zu (Q1 (Q3 0) (Q1 (Q3 1) Q6))))
  (Qc (Yy (toB (mOp oEq (mOp Q5k (Q3 2) (mC (.int 2))) (mC (.int 0)))) (Jh (Yp (Yr (Q1 (mOp Qdd (Q3 2) (mC (.int 2))) Q6)))) Zd)
  (Qc (Qr 3 (mC (.int 2305843009213693951)))
  (Qc (Qr 4 (mC (.int 0)))
  (Qc (Qr 5 (mOp Q5k (mOp Qz (mOp Qz (mOp Q40 (mOp Q5k (Q3 2) (Q3 3)) (mC (.int 48271))) (mOp Q40 (mC (.int 69621)) (Q3 1))) (mC (.int 11))) (Q3 3)))
  (Qc (Yz (Q5 6) (Ja (Q1 (mC (.int 5)) Q6)) Wf)
  (Jh (Yp (Yr (Q1 (Q3 4) Q6))))))))))
def Zt:FN:=X7 Vi 7
theorem Q27 (F:Fun K "_law_atape" "_law_atape" Xg f fd) (T:Txt mg)  (D__law_acell:DefS P w K mg base 1 "_law_acell" 2 Zu):FnOk P w K mg base (CXD P w) 2 f fd ["script", "k"] (spF mg 2 Zt):=by
 have:FnScope ["script", "k", "cell", "p", "number", "last", "turn"] ["script", "k"] (Q9 Xg):=by fail "c"
 delta Zt Vi Wf
 fail "K"
def Yn : MS := (Qc (Qr 2 (mOp Q5k (mOp oIx (Q3 0) (mC (.int 0))) (Q3 1)))
  (Qc (Ke (Q3 0) (mC (.int 0)) (mOp Qdd (mOp oIx (Q3 0) (mC (.int 0))) (Q3 1)))
  (Jh (Q3 2))))
def Qd:FN:=Qn Yn 3
theorem Q13 (F:Fun K "_law_adigit" "_law_adigit" Uk f fd) (T:Txt mg)   : FnOk P w K mg base (CXD P w) 1 f fd ["tape", "many"] (spF mg 2 Qd):=by
 have:FnScope ["tape", "many", "found"] ["tape", "many"] (Q9 Uk):=by fail "c"
 delta Qd Yn
 fail "k"
def Zn : MS := (Qc (Yy (toB (mOp oEq (Qe 2 Qd (Q1 (Q3 0) (Q1 (mC (.int 8)) Q6))) (mC (.int 7)))) (Jh (mOp (oI fun a b => .int (a - b)) (mOp Qaa (mC (.int 10)) (mC (.int 6))) (Qe 2 Qd (Q1 (Q3 0) (Q1 (mC (.int 9)) Q6))))) Zd)
  (Jh (mOp Qz (mC (.int 1)) (Qe 2 Qd (Q1 (Q3 0) (Q1 (Q3 1) Q6))))))
def Y7:FN:=Qn Zn 2
theorem Q3z (F:Fun K "_law_ahow" "_law_ahow" K5 f fd) (T:Txt mg)  (D__law_adigit:DefS P w K mg base 1 "_law_adigit" 2 Qd):FnOk P w K mg base (CXD P w) 2 f fd ["tape", "few"] (spF mg 2 Y7):=by
 have:FnScope ["tape", "few"] ["tape", "few"] (Q9 K5):=by fail "c"
 delta Y7 Zn
 fail "k"
def Zr:ME:=(mOp (oI fun a b=>.int (a - b)) (Qe 2 Y7 (Q1 (Q3 1) (Q1 (mC (.int 10)) Q6))) (mC (.int 1)))
def Qy:MS:=(Yy (Vf (toB (mOp oNe (Q3 9) (Q3 10))) (toB (mOp oLt (Qe 2 Qd (Q1 (Q3 0) (Q1 (mC (.int 4)) Q6))) (Q3 5)))) (Yf (mBM Qq (Q3 8) (Q1 (Jd (Q1 (Q3 9) (Q1 (Q3 10) (Q1 (Qe 2 Y7 (Q1 (Q3 0) (Q1 (mC (.int 5)) Q6))) Q6)))) Q6))) Zd)
def Jy:MS:=(Yz (Q5 10) (Ja (Q1 (Q3 2) Q6)) Qy)
def Jz : MS := (Qc (Qr 8 (Yp (Yr Q6)))
  (Qc (Yz (Q5 9) (Ja (Q1 (Q3 2) Q6)) Jy)
  (Yf (mBM Qq (Q3 6) (Q1 (Qm U7 (Q1 (Q3 8) Q6)) Q6)))))
def Jx:MS:=(Yf (mBM Qq (Q3 11) (Q1 (Jd (Q1 (Qe 2 Qd (Q1 (Q3 0) (Q1 (mOp Qz (Q3 4) (mC (.int 1))) Q6))) (Q1 (Qe 2 Qd (Q1 (Q3 0) (Q1 (Q3 2) Q6))) (Q1 (Qe 2 Y7 (Q1 (Q3 0) (Q1 (mC (.int 7)) Q6))) Q6)))) Q6)))
def Zi : MS := (Qc (Qr 2 (mOp Qz (mC (.int 1)) (Qe 2 Qd (Q1 (Q3 0) (Q1 (Q3 1) Q6)))))
  (Qc (Qr 3 (Qm U7 (Q1 (Ub (Qx [none,some 0] (Q5 0) (Ja (Q1 (Q3 2) Q6)) Jk Zr)) Q6)))
  (Qc (Qr 4 (Qe 2 Qd (Q1 (Q3 0) (Q1 (mOp Qz (Q3 1) (mC (.int 1))) Q6))))
  (Qc (Qr 5 (mOp Qz (mC (.int 1)) (Qe 2 Qd (Q1 (Q3 0) (Q1 (mC (.int 3)) Q6)))))
  (Qc (Qr 6 (Yp (Yr Q6)))
  (Qc (Yz (Q5 7) (Ja (Q1 (Q3 4) Q6)) Jz)
  (Qc (Qr 11 (Yp (Yr Q6)))
  (Qc (Yz (Q5 12) (Ja (Q1 (Qe 2 Qd (Q1 (Q3 0) (Q1 (mC (.int 6)) Q6))) Q6)) Jx)
  (Jh (Jd (Q1 (Q3 3) (Q1 (Qm U7 (Q1 (Q3 6) Q6)) (Q1 (Qm U7 (Q1 (Q3 11) Q6)) Q6)))))))))))))
def Ju:FN:=Qn Zi 13
theorem jz (F:Fun K "_law_aquestion" "_law_aquestion" Wq f fd) (T:Txt mg)  (D__law_adigit:DefS P w K mg base 1 "_law_adigit" 2 Qd) (D__law_ahow:DefS P w K mg base 2 "_law_ahow" 2 Y7):FnOk P w K mg base (CXD P w) 3 f fd ["tape", "most"] (spF mg 2 Ju):=by
 have:FnScope ["tape", "most", "size", "start", "rounds", "often", "roads", "turn", "told", "i", "j", "takings", "k"] ["tape", "most"] (Q9 Wq):=by fail "c"
 delta Ju Zi Jx Jz Jy Qy Zr
 fail "k"
def Wz:MS:=(Yy (toB (mOp (oIn true) (Jd (Q1 (Q3 6) (Q1 (mC (.int 0)) Q6))) (Q3 1))) (Qr 5 (mOp Qz (Q3 5) (mOp oIx (Q3 2) (Q3 6)))) Zd)
def Ww:MS:=(Yy (Vf (toB (mOp (oIn false) (Jd (Q1 (Q3 8) (Q1 (Q3 7) Q6))) (Q3 1))) (toB (mOp (oIn true) (Jd (Q1 (Q3 9) (Q1 (mOp Qz (Q3 7) (mC (.int 1))) Q6))) (Q3 1)))) (Qr 5 (mOp Qz (Q3 5) (Q3 10))) Zd)
def Wx:MS:=(Yz (Jr (Qf (Q5 8) (Qf (Q5 9) (Qf (Q5 10) Js)))) (Wj (mOp oIx (Q3 3) (Q3 7))) Ww)
def X5:ME:=(mOp oIx (Q3 0) (mC (.int 2)))
def Ux:MT:=(toB (mOp (oIn false) (Jd (Q1 (mOp oIx (Q3 0) (mC (.int 1))) (Q1 (mOp oIx (Q3 0) (mC (.int 0))) Q6))) (Q3 1)))
def U4 : MS := (Qc (Q5z (Jr (Qf (Q5 2) (Qf (Q5 3) (Qf (Q5 4) Js)))) (Q3 0))
  (Qc (Qr 5 (mC (.int 0)))
  (Qc (Yz (Q5 6) (Ja (Q1 (Qm Y0 (Q1 (Q3 2) Q6)) Q6)) Wz)
  (Qc (Yz (Q5 7) (Ja (Q1 (Qm Y0 (Q1 (Q3 3) Q6)) Q6)) Wx)
  (Jh (mOp Qz (Q3 5) (Qm (Yg fun ns=>some (.int ns.sum)) (Q1 (Ub (Qx [none,some 1] (Q5 0) (Wj (Q3 4)) Ux X5)) Q6))))))))
def Y6:FN:=Qn U4 11
theorem xk (F:Fun K "_law_aweight" "_law_aweight" Vz f fd) (T:Txt mg)   : FnOk P w K mg base (CXD P w) 1 f fd ["question", "cut"] (spF mg 2 Y6):=by
 have:FnScope ["question", "cut", "start", "roads", "takings", "total", "house", "turn", "i", "j", "most"] ["question", "cut"] (Q9 Vz):=by fail "c"
 delta Y6 U4 Ux X5 Wx Ww Wz
 fail "k"
def Z4:ME:=(mC (.int 0))
def Z5 : MS := (Yy (toB (mOp oEq (mOp oIx (mOp oIx (Q3 4) (Q3 9)) (mC (.int 0))) (Q3 8))) (Qc (Ke (Q3 7) (Q3 9) (Qe 2 Qd (Q1 (Q3 0) (Q1 (mOp Qz (Qm Xy (Q1 (mOp oIx (mOp oIx (Q3 4) (Q3 9)) (mC (.int 2))) (Q1 (mOp oIx (Q3 5) (mOp oIx (mOp oIx (Q3 4) (Q3 9)) (mC (.int 1)))) Q6))) (mC (.int 1))) Q6))))
  (Ke (Q3 5) (mOp oIx (mOp oIx (Q3 4) (Q3 9)) (mC (.int 1))) (mOp (oI fun a b=>.int (a - b)) (mOp oIx (Q3 5) (mOp oIx (mOp oIx (Q3 4) (Q3 9)) (mC (.int 1)))) (mOp oIx (Q3 7) (Q3 9))))) Zd)
def Y3:ME:=(mC (.int 0))
def Je : MS := (Qc (Qr 14 (Qe 2 Qd (Q1 (Q3 0) (Q1 (mOp Qz (Qm Xy (Q1 (Q3 13) (Q1 (mOp oIx (Q3 5) (Q3 11)) Q6))) (mC (.int 1))) Q6))))
  (Yy (toB (mOp (oI fun a b=>.bl (decide (b < a))) (Q3 14) (mC (.int 0)))) (Qc (Yf (mBM Qq (Q3 6) (Q1 (Jd (Q1 (Q3 8) (Q1 (Q3 11) (Q1 (Q3 12) (Q1 (Q3 14) Q6))))) Q6)))
  (Qc (Ke (Q3 5) (Q3 11) (mOp (oI fun a b=>.int (a - b)) (mOp oIx (Q3 5) (Q3 11)) (Q3 14)))
  (Ke (Q3 10) (Q3 12) (mOp Qz (mOp oIx (Q3 10) (Q3 12)) (Q3 14))))) Zd))
def Y2:ME:=(mOp Qz (Q3 0) (Q3 1))
def Z6 : MS := (Qc (Yz (Q5 9) (Ja (Q1 (Qm Y0 (Q1 (Q3 4) Q6)) Q6)) Z5)
  (Qc (Qr 10 (Yp (Qx [none] (Q5 0) (Wj (Q3 2)) Jk Y3)))
  (Qc (Yy (toB (mOp oLt (Q3 8) (Qm Y0 (Q1 (Q3 3) Q6)))) (Yz (Jr (Qf (Q5 11) (Qf (Q5 12) (Qf (Q5 13) Js)))) (Wj (mOp oIx (Q3 3) (Q3 8))) Je) Zd)
  (Qr 5 (Yp (Qx [none,none] (Jr (Qf (Q5 0) (Qf (Q5 1) Js))) (Q2a (Q1 (Q3 5) (Q1 (Q3 10) Q6))) Jk Y2))))))
def Yx : MS := (Qc (Q5z (Jr (Qf (Q5 2) (Qf (Q5 3) (Qf (Q5 4) Js)))) (Q3 1))
  (Qc (Qr 5 (Yp (j8 (Q3 2))))
  (Qc (Qr 6 (Yp (Yr Q6)))
  (Qc (Qr 7 (Yp (Qx [none] (Q5 0) (Wj (Q3 4)) Jk Z4)))
  (Qc (Yz (Q5 8) (Ja (Q1 (mOp Qz (Qm Y0 (Q1 (Q3 3) Q6)) (mC (.int 1))) Q6)) Z6)
  (Jh (Jd (Q1 (Q3 6) (Q1 (Q3 7) Q6)))))))))
def Z0:FN:=X7 Yx 15
theorem qk (F:Fun K "_law_adrawn_plan" "_law_adrawn_plan" Yw f fd) (T:Txt mg)  (D__law_adigit:DefS P w K mg base 1 "_law_adigit" 2 Qd):FnOk P w K mg base (CXD P w) 2 f fd ["tape", "question"] (spF mg 2 Z0):=by
 have:FnScope ["tape", "question", "start", "roads", "takings", "have", "moves", "served", "moment", "k", "coming", "i", "j", "most", "many"] ["tape", "question"] (Q9 Yw):=by fail "c"
 delta Z0 Yx Z6 Y2 Je Y3 Z5 Z4
 fail "K"
def U6:ME:=(Jd (Q1 (Q3 1) (Q1 (Q3 0) Q6)))
def W2:MS:=(Yf (mBM Qq (Q3 4) (Q1 (mOp Qz (Q3 5) (Ub (Qx [none,some 3] (Q5 0) (Xp (Q1 (Q3 6) (Q1 (mOp Qz (Q3 1) (mC (.int 1))) Q6))) Jk U6))) Q6)))
def Zs:MS:=(Yz (Q5 6) (Ja (Q1 (mOp Qz (Q3 1) (mC (.int 2))) Q6)) W2)
def W5 : MS := (Qc (Qr 4 (Yp (Yr Q6)))
  (Qc (Yz (Q5 5) (Wj (Q3 2)) Zs)
  (Qr 2 (Q3 4))))
def Y9 : MS := (Qc (Qr 1 (Qm Y0 (Q1 (mOp oIx (Q3 0) (mC (.int 1))) Q6)))
  (Qc (Qr 2 (Q7e (Q1 (Q7e Q6) Q6)))
  (Qc (Yz (Q5 3) (Ja (Q1 (Qm Y0 (Q1 (mOp oIx (Q3 0) (mC (.int 0))) Q6)) Q6)) W5)
  (Jh (Q3 2)))))
def Jv:FN:=Qn Y9 7
theorem z8 (F:Fun K "_law_aall_cuts" "_law_aall_cuts" Wr f fd) (T:Txt mg)   : FnOk P w K mg base (CXD P w) 1 f fd ["question"] (spF mg 1 Jv):=by
 have:FnScope ["question", "rounds", "found", "house", "longer", "cut", "first"] ["question"] (Q9 Wr):=by fail "c"
 delta Jv Y9 W5 Zs W2 U6
 fail "k"
def Zz : MS := (Yy (toB (mOp oNe (mOp oIx (Q3 3) (Q3 7)) (Jd Q6))) (Qc (Qr 8 (Qe 2 Qd (Q1 (Q3 0) (Q1 (Qm Y0 (Q1 (mOp oIx (Q3 3) (Q3 7)) Q6)) Q6))))
  (Qc (Q5z (Jr (Qf (Q5 9) (Qf (Q5 10) (Qf (Q5 11) Js)))) (mOp oIx (mOp oIx (Q3 3) (Q3 7)) (Q3 8)))
  (Qc (Qr 12 (mOp Qz (mOp Qz (mSl (mOp oIx (Q3 3) (Q3 7)) Jq (Yq (Q3 8))) (Jd (Q1 (Jd (Q1 (Q3 9) (Q1 (Q3 10) (Q1 (Qm Xy (Q1 (mOp Qaa (mC (.int 10)) (mC (.int 6))) (Q1 (mOp Qz (Q3 11) (mC (.int 1))) Q6))) Q6)))) Q6))) (mSl (mOp oIx (Q3 3) (Q3 7)) (Yq (mOp Qz (Q3 8) (mC (.int 1)))) Jq)))
  (Yf (mBM Qq (Q3 6) (Q1 (Jd (Q1 (Q3 2) (Q1 (mOp Qz (mOp Qz (mSl (Q3 3) Jq (Yq (Q3 7))) (Jd (Q1 (Q3 12) Q6))) (mSl (Q3 3) (Yq (mOp Qz (Q3 7) (mC (.int 1)))) Jq)) (Q1 (Q3 4) Q6)))) Q6)))))) (Yy (toB (mOp (oI fun a b=>.bl (decide (b < a))) (Qm Y0 (Q1 (Q3 2) Q6)) (mC (.int 1)))) (Yf (mBM Qq (Q3 6) (Q1 (Jd (Q1 (Q3 2) (Q1 (mOp Qz (mOp Qz (mSl (Q3 3) Jq (Yq (Q3 7))) (Jd (Q1 (Jd (Q1 (Jd (Q1 (mC (.int 0)) (Q1 (mC (.int 1)) (Q1 (mC (.int 2)) Q6)))) Q6)) Q6))) (mSl (Q3 3) (Yq (mOp Qz (Q3 7) (mC (.int 1)))) Jq)) (Q1 (Q3 4) Q6)))) Q6))) Zd))
def Vc : MS := (Qc (Q5z (Jr (Qf (Q5 2) (Qf (Q5 3) (Qf (Q5 4) Js)))) (Q3 1))
  (Qc (Qr 5 (Qe 2 Qd (Q1 (Q3 0) (Q1 (Qm Y0 (Q1 (Q3 2) Q6)) Q6))))
  (Qc (Qr 6 (Yp (Yr (Q1 (Jd (Q1 (mOp Qz (mOp Qz (mSl (Q3 2) Jq (Yq (Q3 5))) (Jd (Q1 (mOp Qz (mOp oIx (Q3 2) (Q3 5)) (mC (.int 1))) Q6))) (mSl (Q3 2) (Yq (mOp Qz (Q3 5) (mC (.int 1)))) Jq)) (Q1 (Q3 3) (Q1 (Q3 4) Q6)))) Q6))))
  (Qc (Yz (Q5 7) (Ja (Q1 (Qm Y0 (Q1 (Q3 3) Q6)) Q6)) Zz)
  (Jh (Q3 6))))))
def Zw:FN:=X7 Vc 13
theorem y3 (F:Fun K "_law_agreater" "_law_agreater" Va f fd) (T:Txt mg)  (D__law_adigit:DefS P w K mg base 1 "_law_adigit" 2 Qd):FnOk P w K mg base (CXD P w) 2 f fd ["tape", "question"] (spF mg 2 Zw):=by
 have:FnScope ["tape", "question", "start", "roads", "takings", "at", "found", "turn", "k", "i", "j", "most", "told"] ["tape", "question"] (Q9 Va):=by fail "c"
 delta Zw Vc Zz
 fail "K"
def Q4h:MS:=(Yf (mBM Qq (Q3 7) (Q1 (Qe 2 Y6 (Q1 (Q3 3) (Q1 (Q3 8) Q6))) Q6)))
def Q08:MS:=(Yy (toB (mOp (oI fun a b=>.bl (decide (b < a))) (Qm (Yg fun ns=>some (.int ns.sum)) (Q1 (mOp oIx (Qe 2 Z0 (Q1 (Q3 2) (Q1 (Q3 3) Q6))) (mC (.int 1))) Q6)) (Qm Xy (Q1 (Q3 7) Q6)))) (Jh (mC (.bl false))) Zd)
def Q4g:MS:=(Yy (toB (mOp oLt (mOp oIx (Qe 1 Kv (Q1 (Q3 10) Q6)) (mC (.int 0))) (Q3 4))) (Jh (mC (.bl false))) Zd)
def Q09 : MS := (Qc (Qr 2 (Qe 2 Zt (Q1 (Q3 0) (Q1 (Q3 1) Q6))))
  (Qc (Qr 3 (Qe 2 Ju (Q1 (Q3 2) (Q1 (mC (.int 3)) Q6))))
  (Qc (Q5z (Jr (Qf (Q5 4) (Qf (Q5 5) (Qf (Q5 6) Js)))) (Qe 1 Kv (Q1 (Q3 3) Q6)))
  (Qc (Qr 7 (Yp (Yr Q6)))
  (Qc (Yz (Q5 8) (Wj (Qe 1 Jv (Q1 (Q3 3) Q6))) Q4h)
  (Qc (Yy (Q21 (toB (mOp oNe (Qm Xy (Q1 (Q3 7) Q6)) (Q3 4))) (toB (mOp (oIn true) (Q3 6) (Qe 1 Jv (Q1 (Q3 3) Q6))))) (Jh (mC (.bl false))) Zd)
  (Qc (Yz (Q5 9) (Ja (Q1 (mC (.int 3)) Q6)) Q08)
  (Qc (Yz (Q5 10) (Wj (Qe 2 Zw (Q1 (Q3 2) (Q1 (Q3 3) Q6)))) Q4g)
  (Qc (Qr 11 (Jd (Q1 (Qe 2 Qd (Q1 (Q3 2) (Q1 (mOp Qz (Qm Y0 (Q1 (mOp oIx (Q3 3) (mC (.int 1))) Q6)) (mC (.int 1))) Q6))) (Q1 (Qe 2 Qd (Q1 (Q3 2) (Q1 (Qm Y0 (Q1 (mOp oIx (Q3 3) (mC (.int 0))) Q6)) Q6))) (Q1 (mOp Qz (mC (.int 1)) (Qe 2 Qd (Q1 (Q3 2) (Q1 (mC (.int 5)) Q6)))) Q6)))))
  (Qc (Qr 12 (mOp oIx (Qe 1 Kv (Q1 (Jd (Q1 (mOp oIx (Q3 3) (mC (.int 0))) (Q1 (mOp oIx (Q3 3) (mC (.int 1))) (Q1 (mOp Qz (mOp oIx (Q3 3) (mC (.int 2))) (Jd (Q1 (Q3 11) Q6))) Q6)))) Q6)) (mC (.int 0))))
  (Yy (Q21 (toB (mOp oLt (Q3 12) (Q3 4))) (Q21 (toB (mOp (oI fun a b=>.bl (decide (b < a))) (Q3 12) (mOp Qz (Q3 4) (mOp oIx (Q3 11) (mC (.int 2)))))) (toB (mOp oNe (Qm (Yg fun ns=>some (.int ns.sum)) (Q1 (mOp oIx (Qe 1 Y5 (Q1 (Q3 3) Q6)) (mC (.int 0))) Q6)) (Q3 4))))) (Jh (mC (.bl false))) Zd)))))))))))
def Qdm : MS := (Qc (Yz (Q5 1) (Xp (Q1 (mC (.int 0)) (Q1 (Qm Qb3 (Q1 (mC (.int 1)) (Q1 (Qm Xy (Q1 (mC (.int 4)) (Q1 (Qm Y0 (Q1 (Q3 0) Q6)) Q6))) Q6))) Q6))) Q09)
  (Jh (mC (.bl true))))
def Q9i:FN:=Qn Qdm 13
theorem Qn2 (F:Fun K "law" "law" jp f fd) (T:Txt mg)  (D__law_atape:DefS P w K mg base 2 "_law_atape" 2 Zt) (D__law_aquestion:DefS P w K mg base 3 "_law_aquestion" 2 Ju) (D_best:DefS P w K mg base 9 "best" 1 Kv) (D__law_aall_cuts:DefS P w K mg base 1 "_law_aall_cuts" 1 Jv) (D__law_aweight:DefS P w K mg base 1 "_law_aweight" 2 Y6) (D__law_adrawn_plan:DefS P w K mg base 2 "_law_adrawn_plan" 2 Z0) (D__law_agreater:DefS P w K mg base 2 "_law_agreater" 2 Zw) (D__law_adigit:DefS P w K mg base 1 "_law_adigit" 2 Qd) (D_first_served:DefS P w K mg base 9 "first_served" 1 Y5):FnOk P w K mg base (CXD P w) 10 f fd ["script"] (spF mg 1 Q9i):=by
 have:FnScope ["script", "place", "tape", "question", "most", "plan", "cut", "weights", "one", "turn", "greater", "more", "longer"] ["script"] (Q9 jp):=by fail "c"
 delta Q9i Qdm Q09 Q4g Q08 Q4h
 fail "k"
end
theorem Q4b (a:Int) {b:Int} (h:0 < b):0<=a % b/\a % b < b:=⟨Int.emod_nonneg a (by omega),Int.emod_lt_of_pos a h⟩
theorem Quz (x:Int) (h:1<=n):∃ k:Nat,k < n/\x % (n:Int)=(k:Int):=by
 have:=Q4b x (b:=(n:Int)) (by omega);exact ⟨(x % (n:Int)).toNat,by omega,by omega⟩
def Yh (n:Nat) (f:Nat->Int):Int:=((List.range n).map f).sum
theorem Jf (n:Nat) (f:Nat->Int):Yh (n + 1) f=Yh n f + f n:=by
 unfold Yh;rw [List.range_succ,E3,List.sum_append];simp
theorem Jw {f g:Nat->Int} (h:∀ i,i < n->f i=g i):Yh n f=Yh n g:=by
 induction n with
 | zero=>rfl
 | succ n ih=>rw [Jf,Jf,ih fun i hi=>h i (by omega),h n (by omega)]
theorem Q0g (n:Nat) (f g:Nat->Int):Yh n (fun i=>f i + g i)=Yh n f + Yh n g:=by
 induction n with
 | zero=>rfl
 | succ n ih=>rw [Jf,Jf,Jf,ih]; omega
theorem Vn (n:Nat):Yh n (fun _=>0)=0:=by
 induction n with
 | zero=>rfl
 | succ n ih=>rw [Jf,ih]; rfl
theorem Q4r {f:Nat->Int} (h:∀ i,i < n->0<=f i):0<=Yh n f:=by
 induction n with
 | zero=>exact Int.le_refl _
 | succ n ih=>rw [Jf]; have:=ih fun i hi=>h i (by omega); have:=h n (by omega); omega
theorem zd {β:Type} (l:List α) (d:α) (f:α->β):l.map f=(List.range l.length).map fun i=>f (l.getD i d):=by
 refine List.ext_getElem? fun i=>?_
 rw [E8,E8]
 by_cases hi:i < l.length
 ·rw [List.getElem?_range hi,Vr hi d]; rfl
 ·rw [L0 (by omega),L0 (by rw [E5]; omega)]; rfl
theorem Q4w (r:List Int):r.sum=Yh r.length fun j=>r.getD j 0:=by
 have:=zd r 0 id;rw [List.map_id] at this;rw [Yh]
 conv=>lhs; rw [this]
 rfl
theorem Q7p {st':Q0} (h:st'.length=st.length) (d:Int):fin st (.int d) st'=.ok (.int d) st':=by
 unfold fin
 by_cases q:st <+: st'
 ·rw [bN q];have:st=st':=q.eq_of_length h.symm;rw [<- this,fz]; rfl
 ·rw [bO q]
structure Mv (L:Nat) (S S':Q0):Prop where
 len:S'.length=S.length
 keep:∀ t,t≠L->S'[t]?=S[t]?
theorem Mv.refl (L:Nat) (S:Q0):Mv L S S:=⟨rfl,fun _ _=>rfl⟩
theorem Mv.trans (a:Mv L S S1) (b:Mv L S1 S2):Mv L S S2:=⟨b.len.trans a.len,fun t ht=>(b.keep t ht).trans (a.keep t ht)⟩
def Tp (S:Q0) (L:Nat):Prop:=∃ c:Int,S[L]?=some (.lst [.int c])
theorem Tp.lt (h:Tp S L):L < S.length:=let ⟨_,e⟩:=h; (O0.mp e).1
theorem Tp.of {S':Q0} (h:Tp S L) (e:S'[L]?=S[L]?):Tp S' L:=let ⟨c,q⟩:=h; ⟨c,by rw [e]; exact q⟩
theorem J7 (T:Tp S L) (m:Nat) (h1:1<=m) (hm:m < 1000000000):∃ (d:Nat) (S':Q0),d < m/\Tp S' L/\Mv L S S'/\Qd [.ref L,.int m] S=.ok (.int d) S':=by
 obtain ⟨c,hS⟩:=T;have hL:=(O0.mp hS).1;have hV:ListAt S (.ref L) [.int c]:=.inr (.inr ⟨L,rfl,hS⟩);have i0:oIx S (.ref L) (.int 0)=.ok (.int c) S:=by rw [hV.ix]; rfl
 obtain ⟨d,hd,ed⟩:=Quz c h1;have t0:Wk S (.ref L) (.int 0) (.int (c / (m:Int)))=some (S.set L (.lst [.int (c / (m:Int))])):=by
  unfold Wk;simp only [hS];rfl
 obtain ⟨S1,hS1⟩:∃ S1,S.set L (.lst [.int (c / (m:Int))])=S1:=⟨_,rfl⟩;rw [hS1] at t0;have M:Mv L S S1:=⟨by rw [<- hS1,D5],fun t ht=>by rw [<- hS1,O9 (fun u=>ht u.symm)]⟩;refine ⟨d,S1,hd,⟨_,by rw [<- hS1,D4 hL]⟩,M,?_⟩;have hm0:0 < m:=h1;have hm1:(m:Int) < 1073741824:=by omega
 have step:Yn [some (.ref L),some (.int m),none] S=.rt (.int d) S1:=by
  simp -implicitDefEqProofs [Yn,i0,hm0,hm1,ed,t0,-Q5m,-Q3q]
 show Qn Yn 3 _ S=_;unfold Qn;rw [show (([PV.ref L,.int m]:List PV).map some ++ List.replicate (3 - [PV.ref L,.int m].length) none)=[some (.ref L),some (.int m),none] from rfl,step];exact Q7p M.len d
theorem Q7j (T:Tp S L) (few:Nat) (h1:1<=few) (h2:few<=100):∃ (v:Int) (S':Q0),(1<=v/\v<=1000000)/\Tp S' L/\Mv L S S'/\Y7 [.ref L,.int few] S=.ok (.int v) S':=by
 obtain ⟨d,S1,hd,T1,M1,e1⟩:=J7 T 8 (by decide) (by decide);rw [show ((8:Nat):Int)=8 from rfl] at e1
 by_cases q:d=7
 ·obtain ⟨x,S2,hx,T2,M2,e2⟩:=J7 T1 9 (by decide) (by decide);rw [show ((9:Nat):Int)=9 from rfl] at e2;have q':(d:Int)=7:=by omega
  have M:=M1.trans M2;refine ⟨1000000 - (x:Int),S2,by omega,T2,M,?_⟩;have step:Zn [some (.ref L),some (.int few)] S=.rt (.int (1000000 - (x:Int))) S2:=by
   simp -implicitDefEqProofs [Zn,e1,q',e2]
  show Qn Zn 2 _ S=_;unfold Qn;rw [show (([PV.ref L,.int few]:List PV).map some ++ List.replicate (2 - [PV.ref L,.int few].length) none)=[some (.ref L),some (.int few)] from rfl,step];exact Q7p M.len _
 ·obtain ⟨x,S2,hx,T2,M2,e2⟩:=J7 T1 few h1 (by omega);have q':¬ (d:Int)=7:=by omega
  have M:=M1.trans M2;refine ⟨1 + (x:Int),S2,by omega,T2,M,?_⟩;have step:Zn [some (.ref L),some (.int few)] S=.rt (.int (1 + (x:Int))) S2:=by
   simp -implicitDefEqProofs [Zn,e1,q,q',e2]
  show Qn Zn 2 _ S=_;unfold Qn;rw [show (([PV.ref L,.int few]:List PV).map some ++ List.replicate (2 - [PV.ref L,.int few].length) none)=[some (.ref L),some (.int few)] from rfl,step];exact Q7p M.len _
theorem Qfh (ns:List Int) (k:Nat) (S:Q0):∃ c:Int,Zt [.fro (ns.map .int),.int k] S=.ok (.ref S.length) (S ++ [.lst [.int c]]):=by
 obtain ⟨c,hc⟩:∃ c:Int,Zu [.fro (ns.map .int),.int k] S=.ok (.int c) S:=by
  by_cases q:k < ns.length
  ·have e:atI (ns.map PV.int) (k:Int)=some (.int (ns.getD k 0)):=by rw [Q0a,Sm.atI_get (Vr q 0)]; rfl
   have hl:(ns.map PV.int).length=ns.length:=O1 _;refine ⟨ns.getD k 0,?_⟩;generalize ns.getD k 0=x at *;generalize ns.length=nl at *;generalize ns.map PV.int=nv at *;simp -implicitDefEqProofs [Zu,Qn,Vj,hl,q,e]
  ·have hl:(ns.map PV.int).length=ns.length:=O1 _;have q':¬ (k:Int) < (ns.length:Int):=by omega
   refine ⟨0,?_⟩;generalize ns.length=nl at *;generalize ns.map PV.int=nv at *;simp -implicitDefEqProofs [Zu,Qn,Vj,hl,q,q']
 by_cases q:c % 2=0
 ·refine ⟨c / 2,?_⟩;generalize ns.map PV.int=nv at *;simp -implicitDefEqProofs [Zt,X7,Vi,hc,q,Za]
 ·obtain ⟨l0,hl0⟩:∃ l0:Int,(c % 2305843009213693951 * 48271 + 69621 * k + 11) % 2305843009213693951=l0:=⟨_,rfl⟩;have b0:=Q4b (c % 2305843009213693951 * 48271 + 69621 * k + 11) (b:=2305843009213693951) (by decide);rw [hl0] at b0;obtain ⟨Γ',S1,e,x,y,z,rfl,rfl,_⟩:=Jm (g:=fun k:Nat=>PV.int (k:Int)) (xs:=List.range 5) (ga:=Q5 6) (body:=Wf) (w:=[]) (Γ:=[some (.fro (ns.map .int)),some (.int k),some (.int c),some (.int 2305843009213693951),some (.int 0),some (.int l0),none]) (st:=S)
   (fun _ Γ st'=>∃ (x y:Int) (z:Option PV),Γ=[some (.fro (ns.map .int)),some (.int k),some (.int c),some (.int 2305843009213693951),some (.int x),some (.int y),z]/\st'=S/\0<=y/\y < 2305843009213693951)
   (fun _ _ _ _=>by simp)
   (fun i t Γ st' hx ⟨x,y,z,e1,e2,y1,y2⟩=>by
    subst e1; subst e2;obtain ⟨w,hw⟩:∃ w:Int,(y * y + 40692 * k + t) % 2305843009213693951=w:=⟨_,rfl⟩;have bw:=Q4b (y * y + 40692 * k + t) (b:=2305843009213693951) (by decide);rw [hw] at bw;have yb:-18446744073709551616 < y/\y < 18446744073709551616:=by omega
    refine ⟨_,rfl,[some (.fro (ns.map .int)),some (.int k),some (.int c),some (.int 2305843009213693951),some (.int (x * 2305843009213693951 + y)),some (.int w),some (.int t)],st',?_,_,_,_,rfl,rfl,bw.1,bw.2⟩;generalize ns.map PV.int=nv at *;simp -implicitDefEqProofs [Wf,yb,hw])
   ⟨_,_,_,rfl,rfl,b0.1,b0.2⟩
  rw [<- Zq] at e;refine ⟨x,?_⟩;generalize ns.map PV.int=nv at *;simp -implicitDefEqProofs [Zt,X7,Vi,hc,q,Za,hl0,e]
theorem Q46 (i:Int) (st:Q0):V0 [.int i] st=.ok (.bl true) st:=by
 simp [V0,Qn,j5,isI,tyN]
theorem Xt (x a b:Int) (st:Q0):Qh [.int x,.int a,.int b] st=.ok (.bl (decide (a<=x) && decide (x<=b))) st:=by
 have:=Q46 x st
 by_cases q:a<=x <;> simp [Qh,Qn,Xm,this,q]
theorem Qqv {n:Int} {a b:PV} {u v:Bool} (ha:Qh [a,.int 0,.int (n - 1)] st=.ok (.bl u) st) (hb:Qh [b,.int 0,.int (n - 1)] st=.ok (.bl v) st):((u && v)=false->Zx [.int n,.tup [a,b]] st=.ok (.bl false) st)/\((u && v)=true->∀ w,oNe st a b=.ok (.bl w) st->Zx [.int n,.tup [a,b]] st=.ok (.bl w) st):=by
 have hc:Jg (Q5 0) Jk W6 [] (Zb [none,some 0] [some (.int n),some (.tup [a,b])]) [a,b] st=.ok [.bl u,.bl v] st:=by
  have:=Jn (ga:=Q5 0) (me:=W6) (w:=[]) (Γ0:=Zb [none,some 0] [some (.int n),some (.tup [a,b])]) (st:=st) (fun z:PV × Bool=>z.1) (fun z=>PV.bl z.2) (by simp) (ys:=[(a,u),(b,v)]) (fun z hz=>⟨_,rfl,by
   rcases E2.mp hz with rfl | hz
   ·simp [Zb,W6,ha]
   ·rw [G7.mp hz];simp [Zb,W6,hb]⟩)
  exact this
 have hal:xn (fun ns=>.bl (ns.all id)) st [.lst [.bl u,.bl v]]=.ok (.bl (u && v)) st:=by cases u <;> cases v <;> rfl
 refine ⟨fun q=>?_,fun q w hw=>?_⟩
 ·rw [q] at hal;simp -implicitDefEqProofs [Zx,Qn,qc,isI,tyN,hc,hal,Za]
 ·rw [q] at hal;simp -implicitDefEqProofs [Zx,Qn,qc,isI,tyN,hc,hal,Za,atI,ixN,hw]
def rdV (r:Nat × Nat):PV:=.tup [.int r.1,.int r.2]
def Qt2 (n:Nat) (r:Nat × Nat):Prop:=r.1 < n/\r.2 < n/\r.1≠r.2
theorem Qge {r:Nat × Nat} (h:Qt2 n r) (st:Q0):Zx [.int n,rdV r] st=.ok (.bl true) st:=by
 obtain ⟨h1,h2,h3⟩:=h;have h3':¬ ((r.1:Int)=r.2):=by omega
 refine (Qqv (Xt _ _ _ st) (Xt _ _ _ st)).2 ?_ true ?_
 ·simp; omega
 ·simp [h3']
def lx (a b:Nat × Nat):Bool:=HT.lexLt [(a.1:Int),a.2] [(b.1:Int),b.2]
def LxP (a b:Nat × Nat):Prop:=a.1 < b.1\/(a.1=b.1/\a.2 < b.2)
theorem Qs6 (a b:Nat × Nat) (st:Q0):oLt st (rdV a) (rdV b)=.ok (.bl (lx a b)) st:=rfl
def yr (rs:List (Nat × Nat)):Bool:=(rs.zip (rs.drop 1)).all fun z=>lx z.1 z.2
theorem Qnd (a b:Nat × Nat):lx a b=true <-> LxP a b:=by
 unfold lx LxP;rw [HT.lexLt_cons,HT.lexLt_cons,HT.lexLt_nil_nil]
 by_cases h1:(a.1:Int)=b.1
 ·rw [bN h1]
  by_cases h2:(a.2:Int)=b.2
  ·rw [bN h2];constructor
   ·intro z; cases z
   ·intro z; omega
  ·rw [bO h2,decide_eq_true_iff]; omega
 ·rw [bO h1,decide_eq_true_iff]; omega
theorem Qa0 (x y:Nat × Nat) (t:List (Nat × Nat)):yr (x :: y :: t)=(lx x y && yr (y :: t)):=rfl
theorem Q8h:∀ {rs:List (Nat × Nat)},rs.Pairwise LxP->yr rs=true
 | [],_=>rfl
 | [_],_=>rfl
 | x :: y :: t,h=>by
  rw [Qa0,Q8h (List.pairwise_cons.mp h).2,(Qnd x y).mpr ((List.pairwise_cons.mp h).1 y (by simp))]; rfl
theorem Vp (xs:List PV) (a b:Int) (st:Q0):Qg [.tup xs,.int a,.int b] st=.ok (.bl (decide (a<=(xs.length:Int)) && decide ((xs.length:Int)<=b))) st:=by
 by_cases q:a<=(xs.length:Int) <;> simp -implicitDefEqProofs [Qg,Qn,Wv,isI,tyN,q]
theorem Qbq (h1:1<=zs.length) (h6:zs.length<=6) (h:∀ z∈zs,Qh [z.1,.int 0,.int 1000000] st=.ok (.bl z.2) st):Y4 [.tup (zs.map Prod.fst)] st=.ok (.bl ((zs.map Prod.snd).all id)) st:=by
 have hs:=Vp (zs.map Prod.fst) 1 6 st;rw [O1] at hs;have hb:(decide ((1:Int)<=zs.length) && decide ((zs.length:Int)<=6))=true:=by simp; omega
 rw [hb] at hs;have hc:Jg (Q5 0) Jk Vm [] (Zb [none] [some (.tup (zs.map Prod.fst))]) (zs.map Prod.fst) st=.ok ((zs.map Prod.snd).map .bl) st:=by
  rw [F4];refine Jn _ _ (by simp) fun z hz=>⟨_,rfl,?_⟩
  have:=h z hz;show _=Res.ok (PV.bl z.2) st;generalize zs.map Prod.fst=zv at *;simp [Zb,Vm,this]
 have hl':(zs.map Prod.fst).length<=1000000:=by rw [O1]; omega
 generalize zs.map Prod.fst=zv at *;generalize zs.map Prod.snd=bs at *;simp -implicitDefEqProofs [Y4,Qn,j6,hs,hl',Za,hc]
theorem Quj {a b c:PV} {u w:Bool} (h1:Zx [.int n,.tup [a,b]] st=.ok (.bl u) st) (h2:Qh [c,.int 1,.int 1000000] st=.ok (.bl w) st):Qs [.int n,.tup [a,b,c]] st=.ok (.bl (u && w)) st:=by
 have hs:=Vp [a,b,c] 3 3 st;have hs:Qg [.tup [a,b,c],.int 3,.int 3] st=.ok (.bl true) st:=hs;have hcut:cut [a,b,c] none (some 2)=[a,b]:=yq [a,b,c] 2;cases u
 ·simp -implicitDefEqProofs [Qs,Qn,Zf,hs,hcut,h1]
 ·simp -implicitDefEqProofs [Qs,Qn,Zf,hs,hcut,h1,atI,ixN,h2]
abbrev Tr:=(Nat × Nat) × Int
variable {ts ks:List Tr} {rs:List (List Tr)} {z:Tr}
def trV (t:Tr):PV:=.tup [.int t.1.1,.int t.1.2,.int t.2]
def Q81 (n:Nat) (t:Tr):Prop:=Qt2 n t.1/\1<=t.2/\t.2<=1000000
theorem Qkp {t:Tr} (h:Q81 n t) (st:Q0):Qs [.int n,trV t] st=.ok (.bl true) st:=by
 have h1:=Qge h.1 st;have h2:=Xt t.2 1 1000000 st;have hb:(decide ((1:Int)<=t.2) && decide (t.2<=1000000))=true:=by have:=h.2; simp; omega
 rw [hb] at h2;exact Quj h1 h2
theorem Qcb (rs:List (Nat × Nat)) (hl:rs.length<=1000) (st:Q0):W8 [.lst (rs.map rdV)] st=.ok (.bl (yr rs)) st:=by
 have hsl:cut (rs.map rdV) (some 1) none=(rs.drop 1).map rdV:=by
  rw [Qif];exact congrArg _ (Q6c rs 1)
 have hc:Jg (Jr (Qf (Q5 0) (Qf (Q5 1) Js))) Jk V4 [] (Zb [none,none] [some (.lst (rs.map rdV))]) ((rs.zip (rs.drop 1)).map fun z=>.tup [rdV z.1,rdV z.2]) st=.ok (((rs.zip (rs.drop 1)).map fun z=>lx z.1 z.2).map .bl) st:=by
  rw [F4];refine Jn _ _ (by simp) fun z hz=>⟨_,rfl,?_⟩
  have:=Qs6 z.1 z.2 st;show _=Res.ok (PV.bl (lx z.1 z.2)) st;generalize rdV z.1=v1 at *;generalize rdV z.2=v2 at *;simp [Zb,V4,this]
 have ha:yr rs=((rs.zip (rs.drop 1)).map fun z=>lx z.1 z.2).all id:=by unfold yr; rw [List.all_map]; rfl
 have hl':(rs.map rdV).length<=1000000:=by rw [O1]; omega
 rw [ha];rw [<- Qba] at hc;generalize ((rs.zip (rs.drop 1)).map fun z=>lx z.1 z.2)=bs at *
 generalize (rs.drop 1).map rdV=ds at *;generalize rs.map rdV=rv at *;simp -implicitDefEqProofs [W8,Qn,Kc,hsl,hl',Za,hc]
theorem Qn1 (h:∀ t∈ts,Q81 n t) (hl:ts.length<=900) (st:Q0):Qi [.int n,.tup (ts.map trV)] st=.ok (.bl (yr (ts.map Prod.fst))) st:=by
 have hc:Jg (Q5 0) Jk J6 [] (Zb [none,some 0] [some (.int n),some (.tup (ts.map trV))]) (ts.map trV) st=.ok ((ts.map fun _=>true).map .bl) st:=by
  rw [F4];refine Jn _ _ (by simp) fun t ht=>⟨_,rfl,?_⟩
  have:=Qkp (h t ht) st;show _=Res.ok (PV.bl true) st;generalize ts.map trV=zv at *;generalize trV t=x at *;simp [Zb,J6,this]
 have hc2:Jg (Q5 0) Jk J5 [] (Zb [none] [some (.int n),some (.tup (ts.map trV))]) (ts.map trV) st=.ok ((ts.map Prod.fst).map rdV) st:=by
  rw [F4];refine Jn _ _ (by simp) fun t ht=>⟨_,rfl,?_⟩
  have hcut:cut [PV.int t.1.1,.int t.1.2,.int t.2] none (some 2)=[.int t.1.1,.int t.1.2]:=yq [PV.int t.1.1,.int t.1.2,.int t.2] 2;show _=Res.ok (PV.tup [.int t.1.1,.int t.1.2]) st;generalize ts.map trV=zv at *;unfold trV;simp [Zb,J5,hcut]
 have ha:(ts.map fun _=>true).all id=true:=by rw [List.all_map,M5]; intro r _; rfl
 have hr:=Qcb (ts.map Prod.fst) (by rw [O1]; omega) st;have hl':(ts.map trV).length<=1000000:=by rw [O1]; omega
 generalize yr (ts.map Prod.fst)=b at *;generalize (ts.map Prod.fst).map rdV=pv at *;generalize (ts.map fun _=>true)=bs at *;generalize ts.map trV=zv at *;simp -implicitDefEqProofs [Qi,Qn,Z9,isI,tyN,hl',Za,hc,ha,hc2,hr]
theorem Qgy (hl:zs.length<=10) (h:∀ z∈zs,Qi [.int n,z.1] st=.ok (.bl z.2) st):Qt [.int n,.tup (zs.map Prod.fst)] st=.ok (.bl ((zs.map Prod.snd).all id)) st:=by
 have hs:=Vp (zs.map Prod.fst) 0 10 st;rw [O1] at hs;have hb:(decide ((0:Int)<=zs.length) && decide ((zs.length:Int)<=10))=true:=by simp; omega
 rw [hb] at hs;have hc:Jg (Q5 0) Jk Z1 [] (Zb [none,some 0] [some (.int n),some (.tup (zs.map Prod.fst))]) (zs.map Prod.fst) st=.ok ((zs.map Prod.snd).map .bl) st:=by
  rw [F4];refine Jn _ _ (by simp) fun z hz=>⟨_,rfl,?_⟩
  have:=h z hz;show _=Res.ok (PV.bl z.2) st;generalize zs.map Prod.fst=zv at *;simp [Zb,Z1,this]
 have hl':(zs.map Prod.fst).length<=1000000:=by rw [O1]; omega
 generalize zs.map Prod.fst=zv at *;generalize zs.map Prod.snd=bs at *;simp -implicitDefEqProofs [Qt,Qn,Yk,hs,hl',Za,hc]
theorem Qft {r:Nat} {a b c:PV} {u v w:Bool} (h1:Qh [b,.int 0,.int ((n:Int) - 1)] st=.ok (.bl u) st) (h2:Qh [a,.int 0,.int r] st=.ok (.bl v) st) (h3:Qh [c,.int 1,.int 1000000] st=.ok (.bl w) st):Zp [.int n,.int r,.tup [a,b,c]] st=.ok (.bl (u && v && w)) st:=by
 have hs:Qg [.tup [a,b,c],.int 3,.int 3] st=.ok (.bl true) st:=Vp [a,b,c] 3 3 st;have hp:V3 [.int n,.int r,b,a] st=.ok (.bl (u && v)) st:=by
  cases u <;> simp -implicitDefEqProofs [V3,Qn,j7,h1,h2]
 generalize (u && v)=uv at *;cases uv <;> simp -implicitDefEqProofs [Zp,Qn,Kb,hs,atI,ixN,hp,h3]
theorem Q6s {r:Nat} (hl:zs.length<=20) (h:∀ z∈zs,Zp [.int n,.int r,z.1] st=.ok (.bl z.2) st):Jt [.int n,.int r,.tup (zs.map Prod.fst)] st=.ok (.bl ((zs.map Prod.snd).all id)) st:=by
 have hs:=Vp (zs.map Prod.fst) 0 20 st;rw [O1] at hs;have hb:(decide ((0:Int)<=zs.length) && decide ((zs.length:Int)<=20))=true:=by simp; omega
 rw [hb] at hs;have hc:Jg (Q5 0) Jk Yt [] (Zb [none,some 0,some 1] [some (.int n),some (.int r),some (.tup (zs.map Prod.fst))]) (zs.map Prod.fst) st=.ok ((zs.map Prod.snd).map .bl) st:=by
  rw [F4];refine Jn _ _ (by simp) fun z hz=>⟨_,rfl,?_⟩
  have:=h z hz;show _=Res.ok (PV.bl z.2) st;generalize zs.map Prod.fst=zv at *;simp [Zb,Yt,this]
 have hl':(zs.map Prod.fst).length<=1000000:=by rw [O1]; omega
 generalize zs.map Prod.fst=zv at *;generalize zs.map Prod.snd=bs at *;simp -implicitDefEqProofs [Jt,Qn,Up,hs,hl',Za,hc]
theorem Qkt {xs ys:List PV} {C:PV} (h:Y4 [.tup xs] st=.ok (.bl true) st) (h2:Qt [.int xs.length,.tup ys] st=.ok (.bl true) st) (h3:Jt [.int xs.length,.int ys.length,C] st=.ok (.bl b) st):Zc [.tup [.tup xs,.tup ys,C]] st=.ok (.bl b) st:=by
 have hs:Qg [.tup [.tup xs,.tup ys,C],.int 3,.int 3] st=.ok (.bl true) st:=Vp [.tup xs,.tup ys,C] 3 3 st;simp -implicitDefEqProofs [Zc,Qn,Um,hs,atI,ixN,h,h2,h3]
structure Mv2 (L M:Nat) (S S':Q0):Prop where
 len:S'.length=S.length
 keep:∀ t,t≠L->t≠M->S'[t]?=S[t]?
abbrev qΓ (L n:Nat) (st:PV) (r:Nat) (often:Int) (R:Nat) (a7 a8 a9 a10 a11 a12:Option PV):Gam:=[some (.ref L),some (.int 3),some (.int n),some st,some (.int r),some (.int often),some (.ref R),a7,a8,a9,a10,a11,a12]
theorem Qpa {M:Nat} (T:Tp S L) (hLM:L≠M) {i j:Nat} (hi:i < n) (hj:j < n) (hl:ts.length<=500) (hM:S[M]?=some (.lst (ts.map trV))) (V:PV) (r:Nat) (often:Int) (R:Nat) (a7 a11 a12:Option PV) :
  ∃ (ts':List Tr) (S':Q0),(ts'=ts\/∃ v,ts'=ts ++ [((i,j),v)]/\i≠j/\1<=v/\v<=1000000)/\Tp S' L/\S'[M]?=some (.lst (ts'.map trV))/\Mv2 L M S S'/\Qy (qΓ L n V r often R a7 (some (.ref M)) (some (.int i)) (some (.int j)) a11 a12) S=.nx (qΓ L n V r often R a7 (some (.ref M)) (some (.int i)) (some (.int j)) a11 a12) S':=by
 by_cases q:i=j
 ·refine ⟨ts,S,.inl rfl,T,hM,⟨rfl,fun _ _ _=>rfl⟩,?_⟩;unfold qΓ;simp -implicitDefEqProofs [Qy,q]
 ·have q':¬ ((i:Int)=j):=by omega
  obtain ⟨d,S1,hd,T1,M1,e1⟩:=J7 T 4 (by decide) (by decide);rw [show ((4:Nat):Int)=4 from rfl] at e1;have hM1:S1[M]?=some (.lst (ts.map trV)):=by rw [M1.keep M (fun z=>hLM z.symm)]; exact hM
  by_cases q2:(d:Int) < often
  ·obtain ⟨v,S2,hv,T2,M2,e2⟩:=Q7j T1 5 (by decide) (by decide);rw [show ((5:Nat):Int)=5 from rfl] at e2;have hM2:S2[M]?=some (.lst (ts.map trV)):=by rw [M2.keep M (fun z=>hLM z.symm)]; exact hM1
   have hML:M < S2.length:=(O0.mp hM2).1;refine ⟨ts ++ [((i,j),v)],S2.set M (.lst ((ts ++ [((i,j),v)]).map trV)),.inr ⟨v,rfl,q,hv⟩,T2.of (by rw [O9 (fun z=>hLM z.symm)]),by rw [D4 hML],⟨by rw [D5,M2.len,M1.len],fun t h1 h2=>by rw [O9 (fun z=>h2 z.symm),M2.keep t h1,M1.keep t h1]⟩,?_⟩;have hmm:(ts ++ [((i,j),v)]).map trV=ts.map trV ++ [.tup [.int i,.int j,.int v]]:=by rw [E3]; rfl
   have hlo:Ym S1 (.ref M)=some (ts.map trV):=by simp [hM1]
   have hll:(ts.map trV).length < 1000000:=by rw [O1]; omega
   rw [hmm];unfold qΓ;generalize ts.map trV=tv at *;simp -implicitDefEqProofs [Qy,q,q',e1,q2,hlo,e2,Za,Qq,chg,hM2,hll,-Q60]
  ·refine ⟨ts,S1,.inl rfl,T1,hM1,⟨M1.len,fun t h1 _=>M1.keep t h1⟩,?_⟩;unfold qΓ;simp -implicitDefEqProofs [Qy,q,q',e1,q2]
theorem Qqu {M:Nat} (T:Tp S L) (hLM:L≠M) {i:Nat} (hn:n<=8) (hi:i < n) (hts:∀ t∈ts,Q81 n t/\t.1.1 < i) (hp:(ts.map Prod.fst).Pairwise LxP) (hl:ts.length<=100) (hM:S[M]?=some (.lst (ts.map trV))) (V:PV) (r:Nat) (often:Int) (R:Nat) (a7 a10 a11 a12:Option PV) :
  ∃ (b10:Option PV) (ts':List Tr) (S':Q0),(∀ t∈ts',Q81 n t/\t.1.1 < i + 1)/\(ts'.map Prod.fst).Pairwise LxP/\ts'.length<=ts.length + n/\Tp S' L/\S'[M]?=some (.lst (ts'.map trV))/\Mv2 L M S S'/\Jy (qΓ L n V r often R a7 (some (.ref M)) (some (.int i)) a10 a11 a12) S=.nx (qΓ L n V r often R a7 (some (.ref M)) (some (.int i)) b10 a11 a12) S':=by
 have hn1:-1000000<=(n:Int)/\(n:Int)<=1000000:=by omega
 obtain ⟨Γ',S',e,b10,ts',rfl,h1,h2,h3,T',hM',m⟩:=Jm (g:=fun k:Nat=>PV.int (k:Int)) (xs:=List.range n) (ga:=Q5 10) (body:=Qy) (w:=[]) (Γ:=qΓ L n V r often R a7 (some (.ref M)) (some (.int i)) a10 a11 a12) (st:=S)
  (fun j Γ st'=>∃ (b10:Option PV) (ts':List Tr),Γ=qΓ L n V r often R a7 (some (.ref M)) (some (.int i)) b10 a11 a12/\(∀ t∈ts',Q81 n t/\(t.1.1 < i\/(t.1.1=i/\t.1.2 < j)))/\(ts'.map Prod.fst).Pairwise LxP/\ts'.length<=ts.length + j/\Tp st' L/\st'[M]?=some (.lst (ts'.map trV))/\Mv2 L M S st')
  (fun _ _ _ _=>by simp)
  (fun j k Γ st' hx ⟨b10,ts',e1,h1,h2,h3,T',hM',m⟩=>by
   subst e1;have hjn:j < n:=by simpa using (O0.mp hx).1
   have hkj:k=j:=by
    rw [List.getElem?_range hjn] at hx;exact (Option.some.inj hx).symm
   subst hkj;obtain ⟨ts2,S2,hc,T2,hM2,m2,e2⟩:=Qpa T' hLM hi hjn (by omega) hM' V r often R a7 a11 a12;refine ⟨_,rfl,_,S2,e2,_,ts2,rfl,?_,?_,?_,T2,hM2,⟨m2.len.trans m.len,fun t u1 u2=>(m2.keep t u1 u2).trans (m.keep t u1 u2)⟩⟩
   ·rcases hc with rfl | ⟨v,rfl,hne,hv⟩
    ·intro t ht;have:=h1 t ht;exact ⟨this.1,by omega⟩
    ·intro t ht;rcases D0.mp ht with ht | ht
     ·have:=h1 t ht;exact ⟨this.1,by omega⟩
     ·rw [G7.mp ht];exact ⟨⟨⟨hi,hjn,hne⟩,hv⟩,.inr ⟨rfl,by simp⟩⟩
   ·rcases hc with rfl | ⟨v,rfl,hne,hv⟩
    ·exact h2
    ·rw [E3,List.pairwise_append];refine ⟨h2,by simp,fun a ha b hb=>?_⟩;obtain ⟨t,ht,rfl⟩:=D8.mp ha;have hb:b=(i,k):=by simpa using hb
     rw [hb];exact (h1 t ht).2
   ·rcases hc with rfl | ⟨v,rfl,_⟩
    ·omega
    ·rw [O4]; simp; omega)
  ⟨_,ts,rfl,fun t ht=>⟨(hts t ht).1,.inl (hts t ht).2⟩,hp,by omega,T,hM,⟨rfl,fun _ _ _=>rfl⟩⟩
 rw [<- Zq] at e;rw [E5] at h1 h3;refine ⟨b10,ts',S',fun t ht=>⟨(h1 t ht).1,by have:=(h1 t ht).2; omega⟩,h2,h3,T',hM',m,?_⟩
 unfold qΓ at e ⊢;simp -implicitDefEqProofs [Jy,Za,hn1,e]
structure TsOk (n:Nat) (ts:List Tr):Prop where
 ok:∀ t∈ts,Q81 n t
 inc:(ts.map Prod.fst).Pairwise LxP
 len:ts.length<=100
def tsV (ts:List Tr):PV:=.tup (ts.map trV)
theorem Qgb (T:Tp S L) (hLR:L < R) (hn:n<=8) (hrl:rs.length<=50) (hR:S[R]?=some (.lst (rs.map tsV))) (V:PV) (r:Nat) (often:Int) (a7 a8 a9 a10 a11 a12:Option PV) :
  ∃ b8 b9 b10 ts S',TsOk n ts/\Tp S' L/\S'[R]?=some (.lst ((rs ++ [ts]).map tsV))/\Jz (qΓ L n V r often R a7 a8 a9 a10 a11 a12) S=.nx (qΓ L n V r often R a7 b8 b9 b10 a11 a12) S':=by
 have hn1:-1000000<=(n:Int)/\(n:Int)<=1000000:=by omega
 have hRl:R < S.length:=(O0.mp hR).1;have T1:Tp (S ++ [.lst []]) L:=T.of (by rw [O5 (by omega)]);obtain ⟨Γ',S2,e,b9,b10,ts,rfl,h1,h2,h3,T2,hM,m⟩:=Jm (g:=fun k:Nat=>PV.int (k:Int)) (xs:=List.range n) (ga:=Q5 9) (body:=Jy) (w:=[]) (Γ:=qΓ L n V r often R a7 (some (.ref S.length)) a9 a10 a11 a12) (st:=S ++ [.lst []])
  (fun i Γ st'=>∃ (b9 b10:Option PV) (ts:List Tr),Γ=qΓ L n V r often R a7 (some (.ref S.length)) b9 b10 a11 a12/\(∀ t∈ts,Q81 n t/\t.1.1 < i)/\(ts.map Prod.fst).Pairwise LxP/\ts.length<=i * n/\Tp st' L/\st'[S.length]?=some (.lst (ts.map trV))/\Mv2 L S.length (S ++ [.lst []]) st')
  (fun _ _ _ _=>by simp)
  (fun i k Γ st' hx ⟨b9,b10,ts,g1,h1,h2,h3,T',hM,m⟩=>by
   subst g1;have hin:i < n:=by simpa using (O0.mp hx).1
   have hki:k=i:=by
    rw [List.getElem?_range hin] at hx;exact (Option.some.inj hx).symm
   subst hki;have hnn:k * n<=64:=F6 (Nat.mul_le_mul (show k<=8 by omega) hn) (by decide);obtain ⟨c10,ts2,S3,g2,g3,g4,T3,hM3,m3,e3⟩:=Qqu T' (by omega) hn hin h1 h2 (by omega) hM V r often R a7 b10 a11 a12;exact ⟨_,rfl,_,S3,e3,_,_,ts2,rfl,g2,g3,by rw [Nat.succ_mul]; omega,T3,hM3,⟨m3.len.trans m.len,fun t u1 u2=>(m3.keep t u1 u2).trans (m.keep t u1 u2)⟩⟩)
  ⟨_,_,[],rfl,fun t ht=>(by cases ht),List.Pairwise.nil,by simp,T1,by simp,⟨rfl,fun _ _ _=>rfl⟩⟩
 rw [<- Zq] at e;rw [E5] at h3;have hnn:n * n<=64:=F6 (Nat.mul_le_mul hn hn) (by decide);have hR2:S2[R]?=some (.lst (rs.map tsV)):=by rw [m.keep R (by omega) (by omega),O5 hRl]; exact hR
 have hR2l:R < S2.length:=(O0.mp hR2).1;refine ⟨some (.ref S.length),b9,b10,ts,S2.set R (.lst ((rs ++ [ts]).map tsV)),⟨fun t ht=>(h1 t ht).1,h2,by omega⟩,T2.of (by rw [O9 (by omega)]),by rw [D4 hR2l],?_⟩;have hmm:(rs ++ [ts]).map tsV=rs.map tsV ++ [tsV ts]:=by rw [E3]; rfl
 have hT:PV.tup (ts.map trV)=tsV ts:=rfl;have hll:(rs.map tsV).length < 1000000:=by rw [O1]; omega
 rw [hmm];unfold qΓ at e ⊢;generalize rs.map tsV=rv at *;generalize ts.map trV=ov at *;generalize tsV ts=o at *;simp -implicitDefEqProofs [Jz,Za,hn1,e,hR2,hM,hT,Qq,chg,hll]
def Qis (n r:Nat) (t:Tr):Prop:=t.1.1<=r/\t.1.2 < n/\1<=t.2/\t.2<=1000000
structure Qok (xs:List Int) (rs:List (List Tr)) (ks:List Tr):Prop where
 x1:1<=xs.length
 x4:xs.length<=4
 xb:∀ x∈xs,0<=x/\x<=1000000
 r4:rs.length<=4
 rb:∀ ts∈rs,TsOk xs.length ts
 k5:ks.length<=6
 kb:∀ t∈ks,Qis xs.length rs.length t
def qV (xs:List Int) (rs:List (List Tr)) (ks:List Tr):PV:=.tup [.tup (xs.map .int),.tup (rs.map tsV),.tup (ks.map trV)]
theorem Qnu (xs:List Int) (rs:List (List Tr)) (ks:List Tr):J0 12 (qV xs rs ks)=true:=by simp [J0,qV,tsV,trV]
theorem Qch (T:Tp S L):∃ xs rs ks S',Qok xs rs ks/\(∀ x∈xs,x<=999999)/\ks.length<=5/\Tp S' L/\Ju [.ref L,.int 3] S=.ok (qV xs rs ks) S':=by
 obtain ⟨d1,S1,hd1,T1,M1,e1⟩:=J7 T 3 (by decide) (by decide);rw [show ((3:Nat):Int)=3 from rfl] at e1;obtain ⟨n,hn⟩:∃ n:Nat,1 + (d1:Int)=n:=⟨1 + d1,by push_cast; rfl⟩;have hnn:1<=n/\n<=4:=by omega
 have hn1:-1000000<=(n:Int)/\(n:Int)<=1000000:=by omega
 obtain ⟨out,S2,e2,xs,rfl,hxl,hxb,T2,M2⟩:=Q35 (g:=fun k:Nat=>PV.int (k:Int)) (xs:=List.range n) (ga:=Q5 0) (me:=Zr) (w:=[]) (Γ0:=Zb [none,some 0] [some (.ref L),some (.int 3),some (.int n),none,none,none,none,none,none,none,none,none,none]) (st:=S1)
  (fun i out st'=>∃ xs:List Int,out=xs.map .int/\xs.length=i/\(∀ x∈xs,0<=x/\x<=999999)/\Tp st' L/\Mv L S1 st')
  (fun _ _ _ _=>by simp)
  (fun i k out st' hx ⟨xs,g1,g2,g3,T',M'⟩=>by
   subst g1;obtain ⟨v,S3,hv,T3,M3,e3⟩:=Q7j T' 10 (by decide) (by decide);rw [show ((10:Nat):Int)=10 from rfl] at e3;refine ⟨_,rfl,.int (v - 1),S3,?_,xs ++ [v - 1],by rw [E3]; rfl,by rw [O4,g2]; rfl,fun x hx=>?_,T3,M'.trans M3⟩
   ·simp -implicitDefEqProofs [Zb,Zr,e3]
   ·rcases D0.mp hx with hx | hx
    ·exact g3 x hx
    ·rw [G7.mp hx]; omega)
  ⟨[],rfl,rfl,fun x hx=>(by cases hx),T1,Mv.refl L S1⟩
 rw [E5] at hxl;rw [<- Zq] at e2;obtain ⟨r,S3,hr,T3,M3,e3⟩:=J7 T2 4 (by decide) (by decide);rw [show ((4:Nat):Int)=4 from rfl] at e3;obtain ⟨d4,S4,hd4,T4,M4,e4⟩:=J7 T3 3 (by decide) (by decide);rw [show ((3:Nat):Int)=3 from rfl] at e4;have T5:Tp (S4 ++ [.lst []]) L:=T4.of (by rw [O5 T4.lt]);have hrb:-1000000<=(r:Int)/\(r:Int)<=1000000:=by omega
 obtain ⟨Γ',S6,e6,b7,b8,b9,b10,rs,rfl,h1,h2,T6,hR6⟩:=Jm (g:=fun k:Nat=>PV.int (k:Int)) (xs:=List.range r) (ga:=Q5 7) (body:=Jz) (w:=[]) (Γ:=qΓ L n (.tup (xs.map .int)) r (1 + (d4:Int)) S4.length none none none none none none) (st:=S4 ++ [.lst []])
  (fun i Γ st'=>∃ (b7 b8 b9 b10:Option PV) (rs:List (List Tr)),Γ=qΓ L n (.tup (xs.map .int)) r (1 + (d4:Int)) S4.length b7 b8 b9 b10 none none/\(∀ ts∈rs,TsOk n ts)/\rs.length=i/\Tp st' L/\st'[S4.length]?=some (.lst (rs.map tsV)))
  (fun _ _ _ _=>by simp)
  (fun i k Γ st' hx ⟨b7,b8,b9,b10,rs,g1,h1,h2,T',hR⟩=>by
   subst g1;have hi:i < r:=by simpa using (O0.mp hx).1
   obtain ⟨c8,c9,c10,ts,S',ok,T8,hR8,e8⟩:=Qgb (n:=n) T' T4.lt (by omega) (by omega) hR (.tup (xs.map .int)) r (1 + (d4:Int)) (some (.int k)) b8 b9 b10 none none;refine ⟨_,rfl,_,S',e8,_,_,_,_,rs ++ [ts],rfl,fun u hu=>?_,by rw [O4,h2]; rfl,T8,hR8⟩;rcases D0.mp hu with hu | hu
   ·exact h1 u hu
   ·rw [G7.mp hu]; exact ok)
  ⟨_,_,_,_,[],rfl,fun u hu=>(by cases hu),rfl,T5,by simp⟩
 rw [<- Zq] at e6;rw [E5] at h2;have hR6l:S4.length < S6.length:=(O0.mp hR6).1;have T7:Tp (S6 ++ [.lst []]) L:=T6.of (by rw [O5 T6.lt]);obtain ⟨c,S8,hc,T8,M8,e8⟩:=J7 T7 6 (by decide) (by decide);rw [show ((6:Nat):Int)=6 from rfl] at e8;have hK8:S8[S6.length]?=some (.lst []):=by rw [M8.keep _ (by have:=T6.lt; omega)]; simp
 have hR8:S8[S4.length]?=some (.lst (rs.map tsV)):=by rw [M8.keep _ (by have:=T4.lt; omega),O5 hR6l]; exact hR6
 have hcb:-1000000<=(c:Int)/\(c:Int)<=1000000:=by omega
 obtain ⟨Γ',S9,e9,b12,ks,rfl,g1,g2,T9,hK9,hR9⟩:=Jm (g:=fun k:Nat=>PV.int (k:Int)) (xs:=List.range c) (ga:=Q5 12) (body:=Jx) (w:=[]) (Γ:=qΓ L n (.tup (xs.map .int)) r (1 + (d4:Int)) S4.length b7 b8 b9 b10 (some (.ref S6.length)) none) (st:=S8)
  (fun i Γ st'=>∃ (b12:Option PV) (ks:List Tr),Γ=qΓ L n (.tup (xs.map .int)) r (1 + (d4:Int)) S4.length b7 b8 b9 b10 (some (.ref S6.length)) b12/\(∀ t∈ks,Qis n r t)/\ks.length=i/\Tp st' L/\st'[S6.length]?=some (.lst (ks.map trV))/\st'[S4.length]?=some (.lst (rs.map tsV)))
  (fun _ _ _ _=>by simp)
  (fun i k Γ st' hx ⟨b12,ks,u1,g1,g2,T',hK,hR⟩=>by
   subst u1;have hi:i < c:=by simpa using (O0.mp hx).1
   obtain ⟨t1,U1,ht1,T1',N1,f1⟩:=J7 T' (r + 1) (by omega) (by omega);rw [show ((r + 1:Nat):Int)=(r:Int) + 1 by push_cast; rfl] at f1;obtain ⟨t2,U2,ht2,T2',N2,f2⟩:=J7 T1' n (by omega) (by omega);obtain ⟨v,U3,hv,T3',N3,f3⟩:=Q7j T2' 7 (by decide) (by decide);rw [show ((7:Nat):Int)=7 from rfl] at f3;have N:=(N1.trans N2).trans N3;have hLt:=T6.lt;have hLt4:=T4.lt;have hK3:U3[S6.length]?=some (.lst (ks.map trV)):=by rw [N.keep _ (by omega)]; exact hK
   have hR3:U3[S4.length]?=some (.lst (rs.map tsV)):=by rw [N.keep _ (by omega)]; exact hR
   have hKl:S6.length < U3.length:=(O0.mp hK3).1;refine ⟨_,rfl,qΓ L n (.tup (xs.map .int)) r (1 + (d4:Int)) S4.length b7 b8 b9 b10 (some (.ref S6.length)) (some (.int k)),U3.set S6.length (.lst ((ks ++ [((t1,t2),v)]).map trV)),?_,_,ks ++ [((t1,t2),v)],rfl,fun t ht=>?_,by rw [O4,g2]; rfl,T3'.of (by rw [O9 (by omega)]),by rw [D4 hKl],by rw [O9 (by omega)]; exact hR3⟩
   ·have hmm:(ks ++ [((t1,t2),v)]).map trV=ks.map trV ++ [.tup [.int t1,.int t2,.int v]]:=by rw [E3]; rfl
    have hlo:Ym st' (.ref S6.length)=some (ks.map trV):=by simp [hK]
    have hll:(ks.map trV).length < 1000000:=by rw [O1]; omega
    rw [hmm];unfold qΓ;generalize ks.map trV=kv at *;generalize xs.map PV.int=xv at *;show Jx [some (.ref L),some (.int 3),some (.int n),some (.tup xv),some (.int r),some (.int (1 + (d4:Int))),some (.ref S4.length),b7,b8,b9,b10,some (.ref S6.length),some (.int k)] st'=_;simp -implicitDefEqProofs [Jx,hlo,f1,f2,f3,Za,Qq,chg,hK3,hll,-Q60]
   ·rcases D0.mp ht with ht | ht
    ·exact g1 t ht
    ·rw [G7.mp ht];exact ⟨by show t1<=r; omega,ht2,hv⟩)
  ⟨_,[],rfl,fun t ht=>(by cases ht),rfl,T8,hK8,hR8⟩
 rw [<- Zq] at e9;rw [E5] at g2;have Q:Qok xs rs ks:=⟨by omega,by omega,fun x hx=>(by have:=hxb x hx; omega),by omega,fun ts hts=>by rw [hxl]; exact h1 ts hts,by omega,fun t ht=>by rw [hxl,h2]; exact g1 t ht⟩;have step:Zi [some (.ref L),some (.int 3),none,none,none,none,none,none,none,none,none,none,none] S=.rt (qV xs rs ks) S9:=by
  have hxl':(xs.map PV.int).length=n:=by rw [O1,hxl]
  unfold qV;unfold qΓ at e6 e9;generalize xs.map PV.int=xv at *;generalize rs.map tsV=rv at *;generalize ks.map trV=kv at *;simp -implicitDefEqProofs [Zi,e1,hn,hn1,Za,e2,e3,e4,hrb,e6,e8,hcb,e9,hR9,hK9]
 have hF:Ju [.ref L,.int 3] S=fin S (qV xs rs ks) S9:=by
  show Qn Zi 13 _ S=_;unfold Qn;rw [show (([PV.ref L,.int 3]:List PV).map some ++ List.replicate (13 - [PV.ref L,.int 3].length) none)=[some (.ref L),some (.int 3),none,none,none,none,none,none,none,none,none,none,none] from rfl,step]
 by_cases hp:S <+: S9
 ·refine ⟨xs,rs,ks,S,Q,fun x hx=>(hxb x hx).2,by omega,T,?_⟩;rw [hF];unfold fin;rw [bN hp,Q04 (Qnu xs rs ks) (by decide)]; rfl
 ·refine ⟨xs,rs,ks,S9,Q,fun x hx=>(hxb x hx).2,by omega,T9,?_⟩;rw [hF];unfold fin;rw [bO hp]
theorem Qb {a b:MS} {Γ1:Gam} (h1:a Γ S=.nx Γ1 S1) (h2:b Γ1 S1=r):Qc a b Γ S=r:=by rw [Q5w,h1]; exact h2
theorem Qj {i:Nat} (h:m Γ S=.ok v S1):Qr i m Γ S=.nx (Γ.set i (some v)) S1:=by rw [Qhs,h]; rfl
theorem Qp {F:FN} (h1:mr Γ S=.ok ps S1) (h2:ps.length=n) (h3:F ps S1=.ok v S2):Qe n F mr Γ S=.ok v S2:=by rw [Qai,h1,Qk,bN h2,h3]
theorem Q7 {o:OP} {a b:ME} {x y:PV} (h1:a Γ S=.ok x S1) (h2:b Γ S1=.ok y S2) (h3:o S2 x y=.ok v S3):mOp o a b Γ S=.ok v S3:=by rw [Qn7,h1,Qk,h2,Qk,h3]
theorem Q4 (h1:m Γ S=.ok p S1) (h2:mr Γ S1=.ok ps S2):Q1 m mr Γ S=.ok (p :: ps) S2:=by rw [Qdr,h1,Qk,h2,Qk]
theorem Jp {o:CF} (h1:mr Γ S=.ok ps S1) (h2:o S1 ps=.ok v S2):Qm o mr Γ S=.ok v S2:=by rw [Qds,h1,Qk,h2]
theorem Zj {b:MS} {xs:List PV} {w:Wt} (h1:mi Γ S=.ok (xs,w) S1) (h2:W1 ga b w xs Γ S1=r):Yz ga mi b Γ S=r:=by rw [Qhw,h1]; exact h2
theorem Q1h {c:MT} {a b:MS} (h1:c Γ S=.ok true S1) (h2:a Γ S1=r):Yy c a b Γ S=r:=by rw [Q8v,h1]; exact h2
theorem X2 {c:MT} {a b:MS} (h1:c Γ S=.ok false S1) (h2:b Γ S1=r):Yy c a b Γ S=r:=by rw [Q8v,h1]; exact h2
theorem Q1t {Γ1:Gam} (h1:m Γ S=.ok p S1) (h2:ga p Γ=some Γ1):Q5z ga m Γ S=.nx Γ1 S1:=by rw [Qhy,h1]; show (match ga p Γ with | some Γ1=>SR.nx Γ1 S1 | none=>.stuck)=_; rw [h2]
theorem Vv {xs:List PV} {w:Wt} (h1:m Γ S=.ok p S1) (h2:Zv S1 p=some (xs,w)) (h3:xs.length<=1000000):Wj m Γ S=.ok (xs,w) S1:=by rw [Qht,h1,Qk,h2]; exact bN h3
theorem qx {m:ML} (h:m Γ S=.ok ps S1):Ub m Γ S=.ok (.lst ps) S1:=by rw [Qhp,h,Qk]
theorem Yu {cap:List (Option Nat)} {xs ys:List PV} {w:Wt} (h1:mi Γ S=.ok (xs,w) S1) (h2:Jg ga mt me w (Zb cap Γ) xs S1=.ok ys S2):Qx cap ga mi mt me Γ S=.ok ys S2:=by rw [Qah,h1,Qk,h2]; rfl
theorem Yv {m:ML} (h:m Γ S=.ok ps S1):Yp m Γ S=.ok (.ref S1.length) (S1 ++ [.lst ps]):=by rw [Qhr,h,Qk]
theorem Qn3 {t:MT} (h:t Γ S=.ok b S1):Xw t Γ S=.ok (!b) S1:=by rw [Qbm,h,Qk]
theorem J9 (h:m Γ S=.ok (.bl b) S1):toB m Γ S=.ok b S1:=by rw [Qjp,h]; rfl
theorem Q3p {mi:ME} {S4:Q0} {o i:PV} (h1:m Γ S=.ok p S1) (h2:mo Γ S1=.ok o S2) (h3:mi Γ S2=.ok i S3) (h4:Wk S3 o i p=some S4):Ke mo mi m Γ S=.nx Γ S4:=by
 rw [Qaf,h1,Vx,h2,Vx,h3,Vx,h4]
theorem Ve {f:MF} {xs:List PV} (h1:mo Γ S=.ok p S1) (h2:Ym S1 p=some xs) (h3:mr Γ S1=.ok ps S2) (h4:f S2 p ps=.ok v S3):Yf (mBM f mo mr) Γ S=.nx Γ S3:=by
 rw [Q5x,Qnc,h1,Qk];simp only [h2];rw [h3,Qk,h4,Vx]
theorem Qej (h:m Γ S=.ok v S1):Yf m Γ S=.nx Γ S1:=by rw [Q5x,h]; rfl
theorem Qmr {a b:MT} {r:Res Bool} (h:a Γ S=.ok false S1) (h2:b Γ S1=r):Q21 a b Γ S=r:=by rw [Qfu,h]; exact h2
theorem Qc1 {a b:MS} (h:a Γ S=.rt v S1):Qc a b Γ S=.rt v S1:=by rw [Q5w,h]
theorem Qw (h1:mr Γ S=.ok ps S1) (h2:ps.length<=1000000):Jd mr Γ S=.ok (.tup ps) S1:=by rw [Qhq,h1,Qk]; exact bN h2
theorem Kq {m:MS} {S':Q0} (h:m (ps.map some ++ List.replicate (nl - ps.length) none) S=.rt v S'):X7 m nl ps S=.ok v S':=by unfold X7; rw [h]
theorem Zk {m:MS} {S':Q0} (h:m (ps.map some ++ List.replicate (nl - ps.length) none) S=.rt v S'):Qn m nl ps S=fin S v S':=by unfold Qn; rw [h]
theorem V6 {xs:List PV} (h:S[L]?=some (.lst xs)) (hl:xs.length < 1000000) (y:PV):Qq S (.ref L) [y]=.ok .non (S.set L (.lst (xs ++ [y]))):=by
 simp only [Qq,chg,h];rw [bN (show xs.length < lim from hl)]
theorem Q1u {a b:MT} {r:Res Bool} (h:a Γ S=.ok true S1) (h2:b Γ S1=r):Vf a b Γ S=r:=by rw [Q4v,h]; exact h2
theorem Q9e {a b:MT} (h:a Γ S=.ok false S1):Vf a b Γ S=.ok false S1:=by rw [Q4v,h]; rfl
theorem Zy (h:m Γ S=.ok v S1):Jh m Γ S=.rt v S1:=by rw [Qhu,h]; rfl
theorem Qs5 (S:Q0) {b:Int} (h:a < b):oLt S (.int a) (.int b)=.ok (.bl true) S:=by simp [h]
theorem Qdv (S:Q0) {b:Int} (h:¬ a < b):oLt S (.int a) (.int b)=.ok (.bl false) S:=by
 have:oLt S (.int a) (.int b)=.ok (.bl (decide (a < b))) S:=by simp
 rw [this,bP h]
theorem Qj8 (S:Q0) {b:Int} (h:b < a):(oI fun a b=>.bl (decide (b < a))) S (.int a) (.int b)=.ok (.bl true) S:=by
 show Res.ok (PV.bl (decide (b < a))) S=_; rw [bQ h]
theorem Q93 (S:Q0) {b:Int} (h:¬ b < a):(oI fun a b=>.bl (decide (b < a))) S (.int a) (.int b)=.ok (.bl false) S:=by
 show Res.ok (PV.bl (decide (b < a))) S=_; rw [bP h]
theorem Xv (S:Q0) (a b:Int):Qz S (.int a) (.int b)=.ok (.int (a + b)) S:=by simp
theorem Q7v (h:mr Γ S=.ok ps S1) (hl:ps.length<=1000000:=by decide):Q7e mr Γ S=.ok (.lst ps) S1:=by
 unfold Q7e;rw [h,Qk];exact bN hl
theorem Qj2 (S:Q0) (a:Int):oNe S (.int a) (.int a)=.ok (.bl false) S:=by simp
theorem jq (hn:n<=1000) (h:m Γ S=.ok (.int n) S):Ja (Q1 m Q6) Γ S=.ok (Jc 0 n,[]) S:=by
 rw [Q7c,Q4 h (show Q6 Γ S=.ok [] S from rfl),Qk];show (if -(lim:Int)<=(n:Int)/\(n:Int)<=lim then _ else _)=_;rw [bN (by rw [Za]; omega),Int.toNat_natCast]
def LA (S:Q0) (V:PV) (xs:List PV):Prop:=V=.lst xs\/∃ i,V=.ref i/\S[i]?=some (.lst xs)
theorem Qpi {V W:PV} {xs ys:List PV} (h:LA S V xs) (k:LA S W ys) (hl:xs.length + ys.length<=1000000):Qz S V W=.ok (.lst (xs ++ ys)) S:=by
 have hl:xs.length + ys.length<=lim:=hl;rcases h with rfl | ⟨i,rfl,e⟩ <;> rcases k with rfl | ⟨j,rfl,f⟩
 ·exact bN hl
 ·show (match Wc S (.lst xs),Wc S (.ref j) with | some xs,some ys=>if xs.length + ys.length<=lim then Res.ok (PV.lst (xs ++ ys)) S else .stuck | _,_=>.stuck)=_
  rw [qd f]; exact bN hl
 ·show (match Wc S (.ref i),Wc S (.lst ys) with | some xs,some ys=>if xs.length + ys.length<=lim then Res.ok (PV.lst (xs ++ ys)) S else .stuck | _,_=>.stuck)=_
  rw [qd e]; exact bN hl
 ·show (match Wc S (.ref i),Wc S (.ref j) with | some xs,some ys=>if xs.length + ys.length<=lim then Res.ok (PV.lst (xs ++ ys)) S else .stuck | _,_=>.stuck)=_
  rw [qd e,qd f]; exact bN hl
theorem Q99 {xs ys:List PV} (h:S[L]?=some (.lst xs)) (hl:xs.length + ys.length<=1000000):X0 S (.ref L) [.lst ys]=.ok .non (S.set L (.lst (xs ++ ys))):=by
 show (match Wc S (.lst ys) with | some ys=>chg S (.ref L) fun xs=>if xs.length + ys.length<=lim then some (PV.non,xs ++ ys) else none | none=>.stuck)=_
 rw [show Wc S (.lst ys)=some ys from rfl];simp only [chg,h];rw [bN (show xs.length + ys.length<=lim from hl)]
structure Gw (P:Nat->Prop) (S A:Q0):Prop where
 len:S.length<=A.length
 keep:∀ t,t < S.length->¬ P t->A[t]?=S[t]?
theorem Gw.refl (P:Nat->Prop) (S:Q0):Gw P S S:=⟨O8 _,fun _ _ _=>rfl⟩
theorem Gw.trans {P:Nat->Prop} {B:Q0} (a:Gw P S A) (b:Gw P A B):Gw P S B:=⟨F6 a.len b.len,fun t h1 h2=>(b.keep t (E4 h1 a.len) h2).trans (a.keep t h1 h2)⟩
theorem Gw.add (P:Nat->Prop) (S T:Q0):Gw P S (S ++ T):=⟨by rw [O4]; omega,fun t h _=>O5 h⟩
theorem Gw.put {P:Nat->Prop} (S:Q0) (h:P n) (c:Cell):Gw P S (S.set n c):=⟨by rw [D5]; exact O8 _,fun t _ h2=>O9 fun e=>h2 (by rw [<- e]; exact h)⟩
theorem Gw.mono {P Q:Nat->Prop} (a:Gw P S A) (h:∀ t,t < S.length->P t->Q t):Gw Q S A:=⟨a.len,fun t h1 h2=>a.keep t h1 fun z=>h2 (h t h1 z)⟩
theorem Gw.at {P:Nat->Prop} (a:Gw P S A) {t:Nat} {c:Cell} (h:S[t]?=some c) (hp:¬ P t):A[t]?=some c:=by rw [a.keep t (O0.mp h).1 hp]; exact h
theorem Gw.w {P:Nat->Prop} {S A:Q0} (a:Gw P S A) {w:Wt} (h:wOk w S) (hp:∀ x∈w,¬ P x.1):wOk w A:=fun x hx=>a.at (h x hx) (hp x hx)
theorem Q48 {mi:ME} {r:Res PV} (h1:mo Γ S=.ok p S1) (h2:mi Γ S1=.ok q S2) (h3:Q33 S2 p q=r):ja mo mi Γ S=r:=by
 unfold ja;rw [h1,Qk,h2,Qk,h3]
theorem Kx {xs:List PV} (h:S[D]?=some (.lst xs)):Zv S (.ref D)=some (xs,[(D,.lst xs)]):=by
 show (match S[D]? with | some (.lst xs)=>some (xs,[(D,Cell.lst xs)]) | _=>none)=_
 rw [h]
theorem xr {xs:List PV} (h:S[D]?=some (.lst xs)):wOk [(D,.lst xs)] S:=fun x hx=>by
 have:x=(D,.lst xs):=by simpa using hx
 rw [this]; exact h
theorem Jb {xs:List PV} (h:S[D]?=some (.lst xs)):Ym S (.ref D)=some xs:=by
 show (match S[D]? with | some (.lst xs)=>some xs | _=>none)=_; rw [h]
theorem Ud {body:MS} {w:Wt} {x:PV} {xs:List PV} {Γ1 Γ2:Gam} (hw:wOk w S) (h1:ga x Γ=some Γ1) (h2:body Γ1 S=.nx Γ2 S2) (h3:W1 ga body w xs Γ2 S2=r):W1 ga body w (x :: xs) Γ S=r:=by
 rw [W1,bN hw,h1];show (match body Γ1 S with | .nx Γ2 st2=>W1 ga body w xs Γ2 st2 | .ct Γ2 st2=>W1 ga body w xs Γ2 st2 | .bk Γ2 st2=>.nx Γ2 st2 | .rt v st2=>.rt v st2 | .exc x st2=>.exc x st2 | .stuck=>.stuck)=_;rw [h2];exact h3
theorem U5 {body:MS} {w:Wt} (hw:wOk w S):W1 ga body w [] Γ S=.nx Γ S:=by rw [W1,bN hw]
theorem Uu {body:MS} {Γ2:Gam} (h1:mt Γ S=.ok true S1) (h2:body Γ S1=.nx Γ2 S2) (h3:Z7 mt body n Γ2 S2=r):Z7 mt body (n + 1) Γ S=r:=by
 unfold Z7;rw [h1];show (match body Γ S1 with | .nx Γ2 st2=>Z7 mt body n Γ2 st2 | .ct Γ2 st2=>Z7 mt body n Γ2 st2 | .bk Γ2 st2=>.nx Γ2 st2 | .rt v st2=>.rt v st2 | .exc x st2=>.exc x st2 | .stuck=>.stuck)=_;rw [h2];exact h3
theorem qw {body:MS} (h1:mt Γ S=.ok false S1):Z7 mt body (n + 1) Γ S=.nx Γ S1:=by
 unfold Z7;rw [h1];rfl
abbrev Nd:=Option (Nat × Nat)
variable {fr ns:List Nd}
def ndV:Nd->PV
 | none=>.str "spring"
 | some z=>.tup [.int z.1,.int z.2]
def ndK:Nd->HK
 | none=>.str "spring"
 | some z=>.tup [.int z.1,.int z.2]
theorem Q15 (v:Nd):Q45 (ndV v)=some (ndK v):=by cases v <;> rfl
theorem Q41:∀ {a b:Nd},ndK a=ndK b->a=b
 | none,none,_=>rfl
 | none,some _,h=>by cases h
 | some _,none,h=>by cases h
 | some (a,b),some (c,d),h=>by
  unfold ndK at h;simp at h;rw [Int.ofNat.inj h.1,Int.ofNat.inj h.2]
theorem Qcx (a b:Nd):peq (ndV a) (ndV b)=decide (a=b):=by
 cases a with
 | none=>cases b with
  | none=>simp [ndV,peq]
  | some z=>simp [ndV,peq]
 | some y=>cases b with
  | none=>simp [ndV,peq]
  | some z=>
   have e:(some y=some z) <-> ((y.1:Int)=z.1/\(y.2:Int)=z.2):=by
    rw [Option.some.injEq,Prod.ext_iff]; omega
   have e2:decide (some y=some z)=(decide ((y.1:Int)=z.1) && decide ((y.2:Int)=z.2)):=by rw [<- Bool.decide_and]; exact decide_eq_decide.mpr e
   rw [e2];simp only [ndV,peq,peqL,Bool.and_true];rfl
theorem Qek (S:Q0) (a b:Nd):oEq S (ndV a) (ndV b)=.ok (.bl (decide (a=b))) S:=by
 rw [<- Qcx];cases a <;> cases b <;> rfl
def J8 {α:Type} (f:α->PV) (G:List (Nd × α)):List (HK × PV):=G.map fun e=>(ndK e.1,f e.2)
theorem Q87 (f:α->PV) (G:List (Nd × α)) (t:Nd):(Uw (J8 f G) (ndK t)).isSome=decide (t∈G.map (·.1)):=by
 unfold Uw J8;rw [Option.isSome_map]
 by_cases q:t∈G.map (·.1)
 ·rw [bQ q,List.find?_isSome];obtain ⟨e,he,rfl⟩:=D8.mp q;exact ⟨_,D8.mpr ⟨e,he,rfl⟩,by simp⟩
 ·rw [bP q];cases z:List.find? (fun kv=>decide (kv.1=ndK t)) (G.map fun e=>(ndK e.1,f e.2)) with
  | none=>rfl
  | some x=>
   have h1:=List.mem_of_find?_eq_some z;have h2:=List.find?_some z;obtain ⟨y,hy,rfl⟩:=D8.mp h1;have h2:ndK y.1=ndK t:=by simpa using h2
   exact absurd (D8.mpr ⟨y,hy,Q41 h2⟩) q
theorem Q6m {α:Type} (f:α->PV):∀ {G:List (Nd × α)} {t:Nd} {a:α},(G.map (·.1)).Nodup->(t,a)∈G->Uw (J8 f G) (ndK t)=some (f a)
 | e :: G,t,a,hn,hm=>by
  unfold Uw J8;rw [D9,List.find?_cons];rw [D9] at hn;obtain ⟨h1,h2⟩:=L7.mp hn;rcases E2.mp hm with rfl | hm
  ·simp
  ·have hne:¬ e.1=t:=fun z=>h1 (by rw [z]; exact D8.mpr ⟨_,hm,rfl⟩)
   have:decide (ndK e.1=ndK t)=false:=bP fun z=>hne (Q41 z)
   simp only [this];exact Q6m f h2 hm
theorem Q8k (f:α->PV) {G:List (Nd × α)} {t:Nd} {a:α} (h:t∉G.map (·.1)):Sm.putT (J8 f G) (ndK t) (f a)=J8 f (G ++ [(t,a)]):=by
 unfold Sm.putT;rw [bO]
 ·unfold J8; rw [E3]; rfl
 ·unfold J8;rw [List.any_map,List.any_eq_true];rintro ⟨x,hx,e⟩;have e:ndK x.1=ndK t:=by simpa using e
  exact h (D8.mpr ⟨x,hx,Q41 e⟩)
theorem Qeq (f:α->PV) {G:List (Nd × α)} (h:S[D]?=some (.dtp (J8 f G))):Q31 S (.ref D)=some (J8 f G):=by show (match S[D]? with | some (.dtp kvs)=>some kvs | _=>none)=_; rw [h]
theorem Kp (f:α->PV) {G:List (Nd × α)} (h:S[D]?=some (.dtp (J8 f G))):K8 S (.ref D)=some (J8 f G):=by show (match S[D]? with | some (.dtp kvs)=>some kvs | some (.frt kvs)=>some kvs | _=>none)=_; rw [h]
theorem Qep (f:α->PV) {G:List (Nd × α)} (h:S[D]?=some (.dtp (J8 f G))) (t:Nd) (neg:Bool):Q5n neg S (ndV t) (.ref D)=.ok (.bl (decide (t∈G.map (·.1)) != neg)) S:=by
 unfold Q5n;rw [Kp f h,Q15];show Res.ok (PV.bl ((Uw (J8 f G) (ndK t)).isSome != neg)) S=_;rw [Q87]
theorem Q7q (f:α->PV) {G:List (Nd × α)} (h:S[D]?=some (.dtp (J8 f G))) (hn:(G.map (·.1)).Nodup) {t:Nd} {a:α} (ht:(t,a)∈G):Q33 S (.ref D) (ndV t)=.ok (f a) S:=by
 unfold Q33;rw [Kp f h,Q15];show (match Uw (J8 f G) (ndK t) with | some v=>Res.ok v S | none=>.stuck)=_
 rw [Q6m f hn ht]
theorem Qny (f:α->PV) {G:List (Nd × α)} (h:S[D]?=some (.dtp (J8 f G))) (hl:G.length < 1000000) {t:Nd} (ht:t∉G.map (·.1)) (a:α):Q1m S (.ref D) (ndV t) (f a)=some (S.set D (.dtp (J8 f (G ++ [(t,a)])))):=by
 unfold Q1m;simp only [Qeq f h,Q15];rw [bN (by unfold J8; rw [O1]; exact hl),Q8k f ht]
abbrev Wy:=Nd × Nd × Int
variable {ws:List Wy}
def wyV (w:Wy):PV:=.tup [ndV w.1,ndV w.2.1,.int w.2.2]
def oth (w:Wy) (l:Int) (u:Nd):Option Nd:=if w.1=u/\l < w.2.2 then some w.2.1 else if w.2.1=u/\0 < l then some w.1 else none
def otV:Option Nd->PV
 | none=>.non
 | some v=>ndV v
theorem Q95 (v:Nd):J0 12 (ndV v)=true:=by cases v <;> rfl
theorem ym (g:J0 12 v=true):fin S v S=.ok v S:=by
 unfold fin;rw [bN List.prefix_rfl,Q04 g (by decide)];rfl
theorem Qdw (S:Q0) (a b:Int):oLt S (.int a) (.int b)=.ok (.bl (decide (a < b))) S:=by
 by_cases h:a < b
 ·rw [Qs5 S h,bQ h]
 ·rw [Qdv S h,bP h]
theorem Q4i {a b:MT} {x y:Bool} (h:a Γ S=.ok x S) (h2:b Γ S=.ok y S):Vf a b Γ S=.ok (x && y) S:=by
 cases x with
 | true=>exact Q1u h h2
 | false=>exact Q9e h
theorem Qd6 (w:Wy) (l:Int) (u:Nd) (S:Q0):W7 [wyV w,.int l,ndV u] S=.ok (otV (oth w l u)) S:=by
 have c1:Vf (toB (mOp oEq (mOp oIx (Q3 0) (mC (.int 0))) (Q3 2))) (toB (mOp oLt (Q3 1) (mOp oIx (Q3 0) (mC (.int 2))))) [some (wyV w),some (.int l),some (ndV u)] S=.ok (decide (w.1=u) && decide (l < w.2.2)) S:=
  Q4i (J9 (Q7 (Q7 rfl rfl rfl) rfl (Qek S w.1 u))) (J9 (Q7 rfl (Q7 rfl rfl rfl) (Qdw S l w.2.2)))
 have c2:Vf (toB (mOp oEq (mOp oIx (Q3 0) (mC (.int 1))) (Q3 2))) (toB (mOp (oI fun a b=>.bl (decide (b < a))) (Q3 1) (mC (.int 0)))) [some (wyV w),some (.int l),some (ndV u)] S=.ok (decide (w.2.1=u) && decide (0 < l)) S:=
  Q4i (J9 (Q7 (Q7 rfl rfl rfl) rfl (Qek S w.2.1 u))) (J9 (Q7 rfl rfl rfl))
 unfold oth
 by_cases h:w.1=u/\l < w.2.2
 ·rw [bN h];rw [bQ h.1,bQ h.2] at c1;exact (Zk (Qc1 (Q1h c1 (Zy (Q7 rfl rfl rfl))))).trans (ym (Q95 _))
 ·rw [bO h];have h':(decide (w.1=u) && decide (l < w.2.2))=false:=by rw [<- Bool.decide_and]; exact bP h
  rw [h'] at c1
  by_cases g:w.2.1=u/\0 < l
  ·rw [bN g];rw [bQ g.1,bQ g.2] at c2;exact (Zk (Qb (X2 c1 rfl) (Qc1 (Q1h c2 (Zy (Q7 rfl rfl rfl)))))).trans (ym (Q95 _))
  ·rw [bO g];have g':(decide (w.2.1=u) && decide (0 < l))=false:=by rw [<- Bool.decide_and]; exact bP g
   rw [g'] at c2;exact (Zk (Qb (X2 c1 rfl) (Qb (X2 c2 rfl) (Zy rfl)))).trans (ym rfl)
theorem Q4a (g:α->PV) (d:α) (l:List α):Wm 0 (l.map g)=(List.range l.length).map fun i:Nat=>PV.tup [.int (i:Int),g (l.getD i d)]:=by
 refine List.ext_getElem? fun i=>?_
 by_cases h:i < l.length
 ·rw [E8,List.getElem?_range h];obtain ⟨p,hp⟩:∃ p,(Wm 0 (l.map g))[i]?=some p:=⟨_,O2 (by rw [Vt,O1]; exact h)⟩;obtain ⟨x,e1,e2⟩:=yn hp;rw [E8,Vr h d] at e2;cases e2;rw [hp,e1];simp
 ·rw [L0 (by rw [Vt,O1]; omega),L0 (by rw [O1,E5]; omega)]
abbrev Be:=Nd × Nat × List Nat
def beV (b:Nat × List Nat):PV:=.ref b.1
def nuV (n:Nat):PV:=.int (n:Int)
structure BE (S:Q0) (D:Nat) (bs:List Be):Prop where
 d:S[D]?=some (.dtp (J8 beV bs))
 c:∀ b∈bs,S[b.2.1]?=some (.lst (b.2.2.map nuV))
 n:(bs.map (·.2.1)).Nodup
 k:(bs.map (·.1)).Nodup
 g:∀ b∈bs,D<=b.2.1
def adB (v:Nd) (n i:Nat) (bs:List Be):List Be:=if v∈bs.map (·.1) then bs.map (fun b=>if b.1=v then (b.1,b.2.1,b.2.2 ++ [n]) else b) else bs ++ [(v,i,[n])]
theorem Q8f {mf:ME} {k z:PV} {kvs:List (HK × PV)} {r:Res PV} (h1:mo Γ S=.ok p S) (h2:K8 S p=some kvs) (h3:m Γ S=.ok k S) (h4:mf Γ S=.ok z S3) (h5:sdT S3 p k z=r):Q2t mo m mf Γ S=r:=by
 rw [Qdp,h1,Qk,h2];show ((m Γ S).bind fun k st2=>(mf Γ st2).bind fun z st3=>sdT st3 p k z)=_
 rw [h3,Qk,h4,Qk,h5]
theorem xy {α β:Type} (f:α->β):∀ {l:List α} {x y:α},(l.map f).Nodup->x∈l->y∈l->f x=f y->x=y
 | z :: l,x,y,hn,hx,hy,e=>by
  rw [D9] at hn;obtain ⟨h1,h2⟩:=L7.mp hn;rcases E2.mp hx with a | a
  ·rcases E2.mp hy with b | b
   ·rw [a,b]
   ·exact absurd (D8.mpr ⟨y,b,by rw [<- e,a]⟩) h1
  ·rcases E2.mp hy with b | b
   ·exact absurd (D8.mpr ⟨x,a,by rw [e,b]⟩) h1
   ·exact xy f h2 a b e
theorem Qfk {bs:List Be} (B:BE S D bs) (hl:bs.length<=1000) (hn:∀ b∈bs,b.2.2.length<=1000) {mk:ME} {v:Nd} (h1:Q3 1 Γ S=.ok (.ref D) S) (h2:∀ A,Q3 2 Γ A=.ok (nuV n) A) (h3:mk Γ S=.ok (ndV v) S) :
  ∃ S',Yf (mBM Qq (Q2t (Q3 1) mk (Yp (Yr Q6))) (Q1 (Q3 2) Q6)) Γ S=.nx Γ S'/\BE S' D (adB v n S.length bs)/\Gw (fun t=>D<=t) S S':=by
 have hD:D < S.length:=(O0.mp B.d).1;have lt:∀ b∈bs,b.2.1 < S.length:=fun b hb=>(O0.mp (B.c b hb)).1
 have nD:∀ b∈bs,b.2.1≠D:=fun b hb e=>by have:=B.c b hb; rw [e,B.d] at this; cases this
 have d1:(S ++ [.lst []])[D]?=some (.dtp (J8 beV bs)):=by rw [O5 hD]; exact B.d
 have len:(J8 beV bs).length < lim:=by unfold J8; rw [O1,Za]; omega
 unfold adB
 by_cases q:v∈bs.map (·.1)
 ·rw [bN q];obtain ⟨b,hb,rfl⟩:=D8.mp q;have c1:(S ++ [.lst []])[b.2.1]?=some (.lst (b.2.2.map nuV)):=by rw [O5 (lt b hb)]; exact B.c b hb
  have sd:sdT (S ++ [.lst []]) (.ref D) (ndV b.1) (.ref S.length)=.ok (.ref b.2.1) (S ++ [.lst []]):=by
   unfold sdT;simp only [Qeq beV d1,Q15,Q6m beV B.k hb,len,if_true];rfl
  have ap:=V6 c1 (by rw [O1]; have:=hn b hb; omega) (nuV n);refine ⟨_,Ve (Q8f h1 (Kp beV B.d) h3 (Yv rfl) sd) (Jb c1) (Q4 (h2 _) rfl) ap,⟨?_,fun b' hb'=>?_,?_,?_,fun b' hb'=>?_⟩,?_⟩
  ·rw [O9 (nD b hb),d1];congr 2;unfold J8;rw [F4];refine G8 fun x _=>?_
   show (ndK x.1,beV x.2)=(ndK (if x.1=b.1 then (x.1,x.2.1,x.2.2 ++ [n]) else x).1,beV (if x.1=b.1 then (x.1,x.2.1,x.2.2 ++ [n]) else x).2)
   by_cases e:x.1=b.1
   ·rw [bN e]; rfl
   ·rw [bO e]
  ·obtain ⟨x,hx,rfl⟩:=D8.mp hb'
   by_cases e:x.1=b.1
   ·have:x=b:=xy (·.1) B.k hx hb e;subst this;rw [bN rfl];show ((S ++ [Cell.lst []]).set x.2.1 _)[x.2.1]?=_;rw [D4 (by rw [O4]; have:=lt x hx; omega)];show _=some (Cell.lst ((x.2.2 ++ [n]).map nuV));rw [E3]; rfl
   ·rw [bO e];have ne:b.2.1≠x.2.1:=fun z=>by
     exact e (by rw [xy (·.2.1) B.n hx hb z.symm])
    rw [O9 ne,O5 (lt x hx)];exact B.c x hx
  ·rw [F4,show ((fun x:Be=>x.2.1) ∘ fun b_1=>if b_1.1=b.1 then (b_1.1,b_1.2.1,b_1.2.2 ++ [n]) else b_1)=fun x:Be=>x.2.1 from funext fun x=>by show (if x.1=b.1 then (x.1,x.2.1,x.2.2 ++ [n]) else x).2.1=_; split <;> rfl]
   exact B.n
  ·rw [F4,show ((fun x:Be=>x.1) ∘ fun b_1=>if b_1.1=b.1 then (b_1.1,b_1.2.1,b_1.2.2 ++ [n]) else b_1)=fun x:Be=>x.1 from funext fun x=>by show (if x.1=b.1 then (x.1,x.2.1,x.2.2 ++ [n]) else x).1=_; split <;> rfl]
   exact B.k
  ·obtain ⟨x,hx,rfl⟩:=D8.mp hb';have:=B.g x hx
   by_cases e:x.1=b.1
   ·rw [bN e]; exact this
   ·rw [bO e]; exact this
  ·exact (Gw.add _ S _).trans (Gw.put _ (B.g b hb) _)
 ·rw [bO q];have vn:Uw (J8 beV bs) (ndK v)=none:=by
   have:=Q87 beV bs v;rw [bP q] at this;exact Option.isSome_eq_false_iff.mp this |> Option.isNone_iff_eq_none.mp
  have sd:sdT (S ++ [.lst []]) (.ref D) (ndV v) (.ref S.length)=.ok (.ref S.length) ((S ++ [Cell.lst []]).set D (.dtp (J8 beV (bs ++ [(v,S.length,[n])])))):=by
   unfold sdT;simp only [Qeq beV d1,Q15,vn,len,if_true];rw [<- Q8k beV (a:=(S.length,[n])) q];rfl
  have c1:((S ++ [Cell.lst []]).set D (.dtp (J8 beV (bs ++ [(v,S.length,[n])]))))[S.length]?=some (.lst []):=by
   rw [O9 (by omega),D7 (O8 _),N4]; rfl
  have ap:=V6 c1 (by decide) (nuV n);refine ⟨_,Ve (Q8f h1 (Kp beV B.d) h3 (Yv rfl) sd) (Jb c1) (Q4 (h2 _) rfl) ap,⟨?_,fun b' hb'=>?_,?_,?_,fun b' hb'=>?_⟩,?_⟩
  ·rw [O9 (by omega),D4 (by rw [O4]; omega)]
  ·rcases D0.mp hb' with hb' | hb'
   ·rw [O9 (by have:=lt b' hb'; omega),O9 (fun z=>nD b' hb' z.symm),O5 (lt b' hb')];exact B.c b' hb'
   ·have:b'=(v,S.length,[n]):=by simpa using hb'
    subst this;rw [D4 (by rw [D5,O4]; show S.length < S.length + 1; omega)];rfl
  ·rw [E3];refine List.nodup_append.mpr ⟨B.n,by simp,fun a ha c hc e=>?_⟩;obtain ⟨x,hx,rfl⟩:=D8.mp ha;have:c=S.length:=by simpa using hc
   have:=lt x hx;omega
  ·rw [E3];refine List.nodup_append.mpr ⟨B.k,by simp,fun a ha c hc e=>?_⟩;have:c=v:=by simpa using hc
   exact q (by rw [<- this,<- e]; exact ha)
  ·rcases D0.mp hb' with hb' | hb'
   ·exact B.g b' hb'
   ·have:b'=(v,S.length,[n]):=by simpa using hb'
    subst this;exact Nat.le_of_lt hD
  ·exact (Gw.add _ S _).trans ((Gw.put _ (O8 D) _).trans (Gw.put _ (Nat.le_of_lt hD) _))
theorem Q4m (v:Nd) (n i:Nat) (bs:List Be):(adB v n i bs).length<=bs.length + 1:=by
 unfold adB
 split
 ·rw [O1]; omega
 ·rw [O4]; exact O8 _
theorem Q1w (v:Nd) (n i:Nat) (bs:List Be) (b':Be) (h:b'∈adB v n i bs):(∀ k∈b'.2.2,k=n\/∃ b∈bs,k∈b.2.2)/\(b'.2.2.length<=1\/∃ b∈bs,b'.2.2.length<=b.2.2.length + 1):=by
 unfold adB at h
 split at h
 ·obtain ⟨b,hb,rfl⟩:=D8.mp h
  split
  ·refine ⟨fun k hk=>?_,.inr ⟨b,hb,by show (b.2.2 ++ [n]).length<=_; rw [O4]; exact O8 _⟩⟩
   rcases D0.mp (show k∈b.2.2 ++ [n] from hk) with hk | hk
   ·exact .inr ⟨b,hb,hk⟩
   ·exact .inl (by simpa using hk)
  ·exact ⟨fun k hk=>.inr ⟨b,hb,hk⟩,.inr ⟨b,hb,by omega⟩⟩
 ·rcases D0.mp h with h | h
  ·exact ⟨fun k hk=>.inr ⟨b',h,hk⟩,.inr ⟨b',h,by omega⟩⟩
  ·have:b'=(v,i,[n]):=by simpa using h
   subst this;exact ⟨fun k hk=>.inl (by simpa using hk),.inl (O8 _)⟩
theorem Q4k (v:Nd) (n i:Nat) (bs:List Be) (b:Be) (hb:b∈bs):∃ b'∈adB v n i bs,b'.1=b.1/\∀ k∈b.2.2,k∈b'.2.2:=by
 unfold adB
 split
 ·refine ⟨_,D8.mpr ⟨b,hb,rfl⟩,?_⟩
  split
  ·exact ⟨rfl,fun k hk=>D0.mpr (.inl hk)⟩
  ·exact ⟨rfl,fun k hk=>hk⟩
 ·exact ⟨b,D0.mpr (.inl hb),rfl,fun k hk=>hk⟩
theorem Q9f (v:Nd) (n i:Nat) (bs:List Be):∃ b'∈adB v n i bs,b'.1=v/\n∈b'.2.2:=by
 unfold adB
 split
 ·rename_i h;obtain ⟨b,hb,rfl⟩:=D8.mp h;exact ⟨_,D8.mpr ⟨b,hb,rfl⟩,by rw [bN rfl],by rw [bN rfl]; exact D0.mpr (.inr (by simp))⟩
 ·exact ⟨(v,i,[n]),D0.mpr (.inr (by simp)),rfl,by simp⟩
def wy0:Wy:=(none,none,0)
structure BeI (ws:List Wy) (m:Nat) (bs:List Be):Prop where
 l:bs.length<=2 * m
 e:∀ b∈bs,b.2.2.length<=2 * m
 n:∀ b∈bs,∀ k∈b.2.2,k < m
 c:∀ k,k < m->∀ v,((ws.getD k wy0).1=v\/(ws.getD k wy0).2.1=v)->∃ b∈bs,b.1=v/\k∈b.2.2
theorem BeI.step {m:Nat} {bs:List Be} (B:BeI ws m bs) (i j:Nat):BeI ws (m + 1) (adB (ws.getD m wy0).2.1 m j (adB (ws.getD m wy0).1 m i bs)):=by
 refine ⟨?_,fun b hb=>?_,fun b hb k hk=>?_,fun k hk v hv=>?_⟩
 ·have:=B.l;have:=Q4m (ws.getD m wy0).1 m i bs;have:=Q4m (ws.getD m wy0).2.1 m j (adB (ws.getD m wy0).1 m i bs);omega
 ·rcases (Q1w _ _ _ _ b hb).2 with h | ⟨c,hc,h⟩
  ·omega
  ·rcases (Q1w _ _ _ _ c hc).2 with g | ⟨d,hd,g⟩
   ·omega
   ·have:=B.e d hd;omega
 ·rcases (Q1w _ _ _ _ b hb).1 k hk with h | ⟨c,hc,h⟩
  ·omega
  ·rcases (Q1w _ _ _ _ c hc).1 k h with g | ⟨d,hd,g⟩
   ·omega
   ·have:=B.n d hd k g;omega
 ·by_cases e:k=m
  ·subst e;rcases hv with hv | hv
   ·obtain ⟨c,hc,c1,c2⟩:=Q9f (ws.getD k wy0).1 k i bs;obtain ⟨d,hd,d1,d2⟩:=Q4k (ws.getD k wy0).2.1 k j _ c hc;exact ⟨d,hd,d1.trans (c1.trans hv),d2 k c2⟩
   ·obtain ⟨c,hc,c1,c2⟩:=Q9f (ws.getD k wy0).2.1 k j (adB (ws.getD k wy0).1 k i bs);exact ⟨c,hc,c1.trans hv,c2⟩
  ·obtain ⟨b,hb,b1,b2⟩:=B.c k (by omega) v hv;obtain ⟨c,hc,c1,c2⟩:=Q4k (ws.getD m wy0).1 m i bs b hb;obtain ⟨d,hd,d1,d2⟩:=Q4k (ws.getD m wy0).2.1 m j _ c hc;exact ⟨d,hd,d1.trans (c1.trans b1),d2 k (c2 k b2)⟩
theorem Qf6 (hl:ws.length<=500) (S:Q0):∃ S' bs,Ys [.lst (ws.map wyV)] S=.ok (.ref S.length) S'/\BE S' S.length bs/\BeI ws ws.length bs/\Gw (fun _=>False) S S':=by
 obtain ⟨Γ',S',e,bs,a2,a3,rfl,B,BI,G⟩:=Jm (g:=fun i:Nat=>PV.tup [.int (i:Int),wyV (ws.getD i wy0)]) (xs:=List.range ws.length) (ga:=Jr (Qf (Q5 2) (Qf (Q5 3) Js))) (body:=Vd) (w:=[]) (Γ:=[some (.lst (ws.map wyV)),some (.ref S.length),none,none]) (st:=S ++ [.dtp []])
  (fun m Γ st=>∃ bs a2 a3,Γ=[some (.lst (ws.map wyV)),some (.ref S.length),a2,a3]/\BE st S.length bs/\BeI ws m bs/\Gw (fun t=>S.length<=t) (S ++ [.dtp []]) st)
  (fun _ _ _ _ x hx=>by cases hx)
  (fun m x Γ st hx ⟨bs,a2,a3,hΓ,B,BI,G⟩=>by
   obtain ⟨hm,rfl⟩:m < ws.length/\x=m:=by
    have:=O0.mp hx;obtain ⟨h1,h2⟩:=this;rw [E5] at h1;rw [List.getElem_range] at h2;exact ⟨h1,h2.symm⟩
   subst hΓ;have l1:=BI.l;have l2:=Q4m (ws.getD x wy0).1 x st.length bs;obtain ⟨S1,e1,B1,G1⟩:=Qfk B (by omega) (fun b hb=>by have:=BI.e b hb; omega) (Γ:=[some (.lst (ws.map wyV)),some (.ref S.length),some (.int (x:Int)),some (wyV (ws.getD x wy0))]) (mk:=mOp oIx (Q3 3) (mC (.int 0))) (v:=(ws.getD x wy0).1) (n:=x) rfl (fun _=>rfl) (Q7 rfl rfl rfl);obtain ⟨S2,e2,B2,G2⟩:=Qfk B1 (by omega) (fun b hb=>by
    rcases (Q1w _ _ _ _ b hb).2 with h | ⟨c,hc,h⟩
    ·omega
    ·have:=BI.e c hc;omega) (Γ:=[some (.lst (ws.map wyV)),some (.ref S.length),some (.int (x:Int)),some (wyV (ws.getD x wy0))]) (mk:=mOp oIx (Q3 3) (mC (.int 1))) (v:=(ws.getD x wy0).2.1) (n:=x) rfl (fun _=>rfl) (Q7 rfl rfl rfl)
   exact ⟨_,rfl,_,S2,Qb e1 e2,_,_,_,rfl,B2,BI.step _ _,(G.trans G1).trans G2⟩)
  ⟨[],_,_,rfl,⟨by rw [D7 (O8 _),N4]; rfl,fun b hb=>(by cases hb),List.nodup_nil,List.nodup_nil,fun b hb=>(by cases hb)⟩,⟨O8 _,fun b hb=>(by cases hb),fun b hb=>(by cases hb),fun k hk=>(by omega)⟩,Gw.refl _ _⟩
 rw [<- Q4a wyV wy0 ws] at e;rw [E5] at BI;have en:qr (Q1 (Q3 0) Q6) [some (.lst (ws.map wyV)),some (.ref S.length),none,none] (S ++ [.dtp []])=.ok (Wm 0 (ws.map wyV),[]) (S ++ [.dtp []]):=by
  unfold qr;show (if (ws.map wyV).length<=lim then Res.ok (Wm 0 (ws.map wyV),[]) (S ++ [Cell.dtp []]) else .stuck)=_;rw [bN (by rw [O1,Za]; omega)]
 exact ⟨S',bs,Kq (Qb (Qj rfl) (Qb (Zj en e) (Zy rfl))),B,BI,⟨F6 (by rw [O4]; omega) G.len,fun t ht _=>(G.keep t (by rw [O4]; omega) (by omega)).trans (O5 ht)⟩⟩
theorem Qag {mi:ME} {S4:Q0} (h1:m Γ S=.ok v S1) (h2:mo Γ S1=.ok p S2) (h3:mi Γ S2=.ok q S3) (h4:Q1m S3 p q v=some S4):Q42 mo mi m Γ S=.nx Γ S4:=by
 unfold Q42;rw [h1];show (mo Γ S1).sbind _=_;rw [h2];show (mi Γ S2).sbind _=_;rw [h3];show (match Q1m S3 p q v with | some st4=>SR.nx Γ st4 | none=>.stuck)=_;rw [h4]
theorem qa {α:Type} [DecidableEq α]:∀ {l m:List α},l.Nodup->(∀ x∈l,x∈m)->l.length<=m.length
 | [],_,_,_=>Nat.zero_le _
 | a :: l,m,h,hs=>by
  obtain ⟨h1,h2⟩:=L7.mp h;have ha:=hs a (by simp);have:=qa (m:=m.erase a) h2 fun x hx=>(List.mem_erase_of_ne (show x≠a from fun e=>h1 (by rw [<- e]; exact hx))).mpr (hs x (O7 _ hx))
  rw [List.length_erase_of_mem ha] at this;have:=List.length_pos_of_mem ha;rw [E7];omega
def stV:Option (Nat × Nd)->PV
 | none=>.non
 | some (n,s)=>.tup [.int (n:Int),ndV s]
abbrev Fd:=List (Nd × Option (Nat × Nd))
variable {F:Fd}
abbrev kys (F:Fd):List Nd:=F.map (·.1)
inductive FT (ws:List Wy) (ls:List Int):Fd->Prop where
 | base:FT ws ls [(none,none)]
 | snoc {F:Fd} {v u:Nd} {k:Nat}:FT ws ls F->v∉kys F->u∈kys F->k < ws.length->oth (ws.getD k wy0) (ls.getD k 0) u=some v->FT ws ls (F ++ [(v,some (k,u))])
theorem Xi {w:Wy} {l:Int} {u v:Nd} (h:oth w l u=some v):(w.1=u/\w.2.1=v/\l < w.2.2)\/(w.2.1=u/\w.1=v/\0 < l):=by
 unfold oth at h
 split at h
 ·rename_i q;exact .inl ⟨q.1,Option.some.inj h,q.2⟩
 ·split at h
  ·rename_i q;exact .inr ⟨q.1,Option.some.inj h,q.2⟩
  ·cases h
theorem FT.nd (t:FT ws ls F):(kys F).Nodup:=by
 induction t with
 | base=>simp
 | @snoc F v u k _ h1 _ _ _ ih=>
  unfold kys at *;rw [E3];refine List.nodup_append.mpr ⟨ih,by simp,fun a ha c hc e=>?_⟩;have:c=v:=by simpa using hc
  exact h1 (by rw [<- this,<- e]; exact ha)
theorem FT.root (t:FT ws ls F):none∈kys F:=by
 induction t with
 | base=>simp
 | snoc _ _ _ _ _ ih=>unfold kys at *; rw [E3]; exact D0.mpr (.inl ih)
theorem FT.ends (t:FT ws ls F):∀ v∈kys F,v=none\/∃ k,k < ws.length/\((ws.getD k wy0).1=v\/(ws.getD k wy0).2.1=v):=by
 induction t with
 | base=>intro v hv; left; simpa using hv
 | @snoc F x u k _ _ _ h3 h4 ih=>
  intro v hv;unfold kys at *;rw [E3] at hv;rcases D0.mp hv with hv | hv
  ·exact ih v hv
  ·have:v=x:=by simpa using hv
   subst this;refine .inr ⟨_,h3,?_⟩;rcases Xi h4 with h | h
   ·exact .inr h.2.1
   ·exact .inl h.2.1
theorem FT.few (t:FT ws ls F):F.length<=2 * ws.length + 1:=by
 have h:=qa (m:=none :: (ws.map (·.1) ++ ws.map (·.2.1))) t.nd fun v hv=>by
  rcases t.ends v hv with rfl | ⟨k,hk,h⟩
  ·exact D1
  ·have hm:ws.getD k wy0∈ws:=by rw [O3,O2 hk]; exact F5 hk
   refine O7 _ (D0.mpr ?_);rcases h with rfl | rfl
   ·exact .inl (D8.mpr ⟨_,hm,rfl⟩)
   ·exact .inr (D8.mpr ⟨_,hm,rfl⟩)
 rw [O1,E7,O4,O1,O1] at h;omega
theorem Qn4 (v:Nd):Q2x (ndV v)=false:=by cases v <;> rfl
theorem Uq (f:α->PV) (d:α) (l:List α) (h:k < l.length):atI (l.map f) (k:Int)=some (f (l.getD k d)):=by
 rw [Q0a,atI_get (O2 h),O3,O2 h]; rfl
abbrev rG (ws:List Wy) (Ld B D:Nat) (V:PV) (U:Nat) (u:PV) (a7 a8:Option PV):Gam:=[some (.lst (ws.map wyV)),some (.ref Ld),some (.ref B),some (.ref D),some V,some (.ref U),some u,a7,a8]
theorem Qqw {ws:List Wy} {ls:List Int} (hl:ws.length<=500) (hll:ls.length=ws.length) {Ld B D U:Nat} (hDU:D≠U) (hLD:Ld≠D) (hLU:Ld≠U) {w:Wt} {u:Nd} {V:PV}:∀ (ns:List Nat) (F:Fd) (fu:List Nd) (A:Q0) (a7 a8:Option PV),(∀ k∈ns,k < ws.length)->FT ws ls F->u∈kys F->fu.length<=F.length ->
  A[D]?=some (.dtp (J8 stV F))->A[U]?=some (.lst (fu.map ndV))->A[Ld]?=some (.lst (ls.map .int))->wOk w A->(∀ x∈w,x.1≠D/\x.1≠U) ->
  ∃ A' F' new b7 b8,W1 (Q5 7) V7 w (ns.map nuV) (rG ws Ld B D V U (ndV u) a7 a8) A=.nx (rG ws Ld B D V U (ndV u) b7 b8) A'/\FT ws ls F'/\kys F'=kys F ++ new/\A'[D]?=some (.dtp (J8 stV F'))/\A'[U]?=some (.lst ((fu ++ new).map ndV))/\Gw (fun t=>t=D\/t=U) A A' /\
   ∀ k∈ns,∀ v,oth (ws.getD k wy0) (ls.getD k 0) u=some v->v∈kys F'
 | [],F,fu,A,a7,a8,_,t,_,_,hD,hU,_,hw,_=>⟨A,F,[],a7,a8,U5 hw,t,by rw [F9],hD,by rw [F9]; exact hU,Gw.refl _ _,fun k hk=>by cases hk⟩
 | n :: ns,F,fu,A,a7,a8,hk,t,hu,hfu,hD,hU,hL,hw,hwx=>by
  have hn:n < ws.length:=hk n D1;have hk':∀ k∈ns,k < ws.length:=fun k h=>hk k (O7 _ h)
  have few:=t.few;have s1:Qr 8 (Qe 3 W7 (Q1 (mOp oIx (Q3 0) (Q3 7)) (Q1 (mOp oIx (Q3 1) (Q3 7)) (Q1 (Q3 6) Q6)))) (rG ws Ld B D V U (ndV u) (some (nuV n)) a8) A=.nx (rG ws Ld B D V U (ndV u) (some (nuV n)) (some (otV (oth (ws.getD n wy0) (ls.getD n 0) u)))) A:=by
   refine Qj (Qp (n:=3) (Q4 (Q7 rfl rfl (v:=wyV (ws.getD n wy0)) (S3:=A) ?_) (Q4 (Q7 rfl rfl (v:=.int (ls.getD n 0)) (S3:=A) ?_) (Q4 rfl rfl))) rfl (Qd6 _ _ _ _))
   ·show okO A (atI (ws.map wyV) (n:Int))=_;rw [Uq wyV wy0 ws hn]; rfl
   ·show oIx A (.ref Ld) (.int (n:Int))=_;rw [Q5m,hL];show okO A (atI (ls.map PV.int) (n:Int))=_;rw [Uq PV.int 0 ls (by omega)]; rfl
  have rest:∀ {A1:Q0} {F1:Fd} {fu1 new1:List Nd} {c8:Option PV},V7 (rG ws Ld B D V U (ndV u) (some (nuV n)) a8) A=.nx (rG ws Ld B D V U (ndV u) (some (nuV n)) c8) A1->FT ws ls F1->kys F1=kys F ++ new1->fu1=fu ++ new1->A1[D]?=some (.dtp (J8 stV F1))->A1[U]?=some (.lst (fu1.map ndV))->Gw (fun t=>t=D\/t=U) A A1 ->
    (∀ v,oth (ws.getD n wy0) (ls.getD n 0) u=some v->v∈kys F1) ->
    ∃ A' F' new b7 b8,W1 (Q5 7) V7 w ((n :: ns).map nuV) (rG ws Ld B D V U (ndV u) a7 a8) A=.nx (rG ws Ld B D V U (ndV u) b7 b8) A'/\FT ws ls F'/\kys F'=kys F ++ new/\A'[D]?=some (.dtp (J8 stV F'))/\A'[U]?=some (.lst ((fu ++ new).map ndV))/\Gw (fun t=>t=D\/t=U) A A' /\
     ∀ k∈n :: ns,∀ v,oth (ws.getD k wy0) (ls.getD k 0) u=some v->v∈kys F':=by
   intro A1 F1 fu1 new1 c8 e1 t1 k1 f1 d1 u1 g1 c1;subst f1;have hlen:F1.length=F.length + new1.length:=by
    have:=congrArg List.length k1;rw [O4,O1,O1] at this;exact this
   obtain ⟨A',F',new,b7,b8,e,t',k',d',u',g',c'⟩:=Qqw hl hll hDU hLD hLU ns F1 (fu ++ new1) A1 (some (nuV n)) c8 hk' t1 (by rw [k1]; exact D0.mpr (.inl hu)) (by rw [O4]; omega) d1 u1 (g1.at hL (fun z=>z.elim hLD hLU)) (g1.w hw fun x hx z=>z.elim (hwx x hx).1 (hwx x hx).2) hwx
   refine ⟨A',F',new1 ++ new,b7,b8,Ud hw rfl e1 e,t',by rw [k',k1,L9],d',by rw [<- L9]; exact u',g1.trans g',fun k hkk v hv=>?_⟩;rcases E2.mp hkk with rfl | hkk
   ·rw [k']; exact D0.mpr (.inl (c1 v hv))
   ·exact c' k hkk v hv
  cases ho:oth (ws.getD n wy0) (ls.getD n 0) u with
  | none=>
   rw [ho] at s1;exact rest (Qb s1 (X2 (Q9e (J9 (Q7 rfl rfl rfl))) rfl)) t (new1:=[]) (by rw [F9]) rfl hD (by rw [F9]; exact hU) (Gw.refl _ _) (fun v hv=>by rw [ho] at hv; cases hv)
  | some v=>
   rw [ho] at s1;have i1:toB (mOp j3 (Q3 8) (mC .non)) (rG ws Ld B D V U (ndV u) (some (nuV n)) (some (ndV v))) A=.ok true A:=J9 (Q7 rfl rfl (by rw [Q78,Qn4]; rfl))
   by_cases q:v∈kys F
   ·exact rest (Qb s1 (X2 (Q1u i1 (J9 (Q7 rfl rfl ((Qep stV hD v true).trans (by rw [bQ q]; rfl))))) rfl)) t (new1:=[]) (by rw [F9]) rfl hD (by rw [F9]; exact hU) (Gw.refl _ _) (fun v' hv=>by rw [ho] at hv; cases hv; exact q)
   ·have hput:=Qny stV hD (by omega) q (some (n,u));have hU1:(A.set D (.dtp (J8 stV (F ++ [(v,some (n,u))]))))[U]?=some (.lst (fu.map ndV)):=by rw [O9 hDU]; exact hU
    have happ:=V6 hU1 (by rw [O1]; omega) (ndV v);have hDl:D < A.length:=(O0.mp hD).1;have hUl:U < A.length:=(O0.mp hU).1;refine rest (new1:=[v]) (F1:=F ++ [(v,some (n,u))]) (Qb s1 (Q1h (Q1u i1 (J9 (Q7 rfl rfl ((Qep stV hD v true).trans (by rw [bP q]; rfl))))) (Qb (Qag (Qw (Q4 rfl (Q4 rfl rfl)) (show 2<=1000000 by decide)) rfl rfl hput) (Ve rfl (Jb hU1) (Q4 rfl rfl) happ)))) (t.snoc q hu hn ho) (by unfold kys; rw [E3]; rfl) rfl ?_ ?_ ?_ ?_
    ·rw [O9 (fun z=>hDU z.symm),D4 hDl]
    ·rw [D4 (by rw [D5]; exact hUl),E3]; rfl
    ·exact (Gw.put _ (.inl rfl) _).trans (Gw.put _ (.inr rfl) _)
    ·intro v' hv;rw [ho] at hv;cases hv;unfold kys;rw [E3];exact D0.mpr (.inr (by simp))
abbrev rH (ws:List Wy) (Ld B D:Nat) (V:PV) (U:Nat) (a6 a7 a8:Option PV):Gam:=[some (.lst (ws.map wyV)),some (.ref Ld),some (.ref B),some (.ref D),some V,some (.ref U),a6,a7,a8]
theorem Qt1 (hl:ws.length<=500) (hll:ls.length=ws.length) (hsp:∃ k,k < ws.length/\(ws.getD k wy0).1=none) {B U:Nat} (hDU:D≠U) (hLD:Ld≠D) (hLU:Ld≠U) (hBD:B≠D) (hBU:B≠U) {bs:List Be} (hbD:∀ b∈bs,b.2.1≠D/\b.2.1≠U) (BI:BeI ws ws.length bs) {A':Q0} (E:BE A B bs) (g:Gw (fun t=>t=D\/t=U) A A'):BE A' B bs:=⟨g.at E.d (fun z=>z.elim hBD hBU),fun b hb=>g.at (E.c b hb) (fun z=>z.elim (hbD b hb).1 (hbD b hb).2),E.n,E.k,E.g⟩
theorem Qqx {ws:List Wy} {ls:List Int} (hl:ws.length<=500) (hll:ls.length=ws.length) (hsp:∃ k,k < ws.length/\(ws.getD k wy0).1=none) {Ld B D U:Nat} (hDU:D≠U) (hLD:Ld≠D) (hLU:Ld≠U) (hBD:B≠D) (hBU:B≠U) {bs:List Be} (hbD:∀ b∈bs,b.2.1≠D/\b.2.1≠U) (BI:BeI ws ws.length bs) {w:Wt} {V:PV}:∀ (fr:List Nd) (F:Fd) (fu:List Nd) (A:Q0) (a6 a7 a8:Option PV),(∀ u∈fr,u∈kys F)->FT ws ls F->fu.length<=F.length->BE A B bs ->
  A[D]?=some (.dtp (J8 stV F))->A[U]?=some (.lst (fu.map ndV))->A[Ld]?=some (.lst (ls.map .int))->wOk w A->(∀ x∈w,x.1≠D/\x.1≠U) ->
  ∃ A' F' new b6 b7 b8,W1 (Q5 6) Uf w (fr.map ndV) (rH ws Ld B D V U a6 a7 a8) A=.nx (rH ws Ld B D V U b6 b7 b8) A'/\FT ws ls F'/\kys F'=kys F ++ new/\A'[D]?=some (.dtp (J8 stV F'))/\A'[U]?=some (.lst ((fu ++ new).map ndV))/\Gw (fun t=>t=D\/t=U) A A' /\
   ∀ u∈fr,∀ k,k < ws.length->∀ v,oth (ws.getD k wy0) (ls.getD k 0) u=some v->v∈kys F'
 | [],F,fu,A,a6,a7,a8,_,t,_,_,hD,hU,_,hw,_=>⟨A,F,[],a6,a7,a8,U5 hw,t,by rw [F9],hD,by rw [F9]; exact hU,Gw.refl _ _,fun k hk=>by cases hk⟩
 | u :: fr,F,fu,A,a6,a7,a8,hk,t,hfu,E,hD,hU,hL,hw,hwx=>by
  have hu:=hk u D1;obtain ⟨b,hb,hbu⟩:∃ b∈bs,b.1=u:=by
   rcases t.ends u hu with rfl | ⟨k,hkl,h⟩
   ·obtain ⟨k,hkl,h⟩:=hsp;obtain ⟨b,hb,h1,_⟩:=BI.c k hkl none (.inl h);exact ⟨b,hb,h1⟩
   ·obtain ⟨b,hb,h1,_⟩:=BI.c k hkl u h;exact ⟨b,hb,h1⟩
  subst hbu;have hc:=E.c b hb;obtain ⟨A1,F1,new1,c7,c8,e1,t1,k1,d1,u1,g1,c1⟩:=Qqw (B:=B) hl hll hDU hLD hLU (w:=[(b.2.1,.lst (b.2.2.map nuV))]) (V:=V) b.2.2 F fu A a7 a8 (BI.n b hb) t hu hfu hD hU hL (xr hc) (fun x hx=>by
   have:x=(b.2.1,.lst (b.2.2.map nuV)):=by simpa using hx
   rw [this]; exact hbD b hb)
  have hlen:F1.length=F.length + new1.length:=by
   have:=congrArg List.length k1;rw [O4,O1,O1] at this;exact this
  have hbody:Uf (rH ws Ld B D V U (some (ndV b.1)) a7 a8) A=.nx (rH ws Ld B D V U (some (ndV b.1)) c7 c8) A1:=
   Zj (Vv (Q48 rfl rfl (Q7q beV E.d E.k hb)) (Kx hc) (by rw [O1]; have:=BI.e b hb; omega)) e1
  obtain ⟨A',F',new,b6,b7,b8,e,t',k',d',u',g',c'⟩:=Qqx hl hll hsp hDU hLD hLU hBD hBU hbD BI fr F1 (fu ++ new1) A1 (some (ndV b.1)) c7 c8 (fun x hx=>by rw [k1]; exact D0.mpr (.inl (hk x (O7 _ hx)))) t1 (by rw [O4]; omega) (Qt1 hl hll hsp hDU hLD hLU hBD hBU hbD BI E g1) d1 u1 (g1.at hL (fun z=>z.elim hLD hLU)) (g1.w hw fun x hx z=>z.elim (hwx x hx).1 (hwx x hx).2) hwx
  refine ⟨A',F',new1 ++ new,b6,b7,b8,Ud hw rfl hbody e,t',by rw [k',k1,L9],d',by rw [<- L9]; exact u',g1.trans g',fun x hx k hkl v hv=>?_⟩;rcases E2.mp hx with rfl | hx
  ·rw [k'];refine D0.mpr (.inl (c1 k ?_ v hv));have inc:(ws.getD k wy0).1=b.1\/(ws.getD k wy0).2.1=b.1:=by
    rcases Xi hv with h | h
    ·exact .inl h.1
    ·exact .inr h.1
   obtain ⟨b',hb',h1,h2⟩:=BI.c k hkl b.1 inc;rw [<- xy (·.1) E.k hb' hb h1];exact h2
  ·exact c' x hx k hkl v hv
def Cld (ws:List Wy) (ls:List Int) (F:Fd) (u:Nd):Prop:=∀ k,k < ws.length->∀ v,oth (ws.getD k wy0) (ls.getD k 0) u=some v->v∈kys F
theorem Qe1 {V:PV} {xs:List PV} (h:LA S V xs):∃ w,Zv S V=some (xs,w)/\wOk w S/\∀ x∈w,x.1 < S.length/\V=.ref x.1:=by
 rcases h with rfl | ⟨i,rfl,e⟩
 ·exact ⟨[],rfl,Qv _,fun x hx=>by cases hx⟩
 ·refine ⟨_,Kx e,xr e,fun x hx=>?_⟩;have:x=(i,.lst xs):=by simpa using hx
  rw [this];exact ⟨(O0.mp e).1,rfl⟩
theorem Qng {V:PV} {xs:List PV} (h:LA S V xs):Y0 S [V]=.ok (.int (xs.length:Nat)) S:=by
 rcases h with rfl | ⟨i,rfl,e⟩
 ·rfl
 ·rw [Qpd,e]
theorem Qj4 {P:Nat->Prop} {V:PV} {xs:List PV} (h:LA S V xs) (g:Gw P S A) (hp:∀ i,V=.ref i->¬ P i):LA A V xs:=by
 rcases h with rfl | ⟨i,rfl,e⟩
 ·exact .inl rfl
 ·exact .inr ⟨i,rfl,g.at e (hp i rfl)⟩
abbrev rK (ws:List Wy) (Ld B D:Nat) (a4 a5 a6 a7 a8:Option PV):Gam:=[some (.lst (ws.map wyV)),some (.ref Ld),some (.ref B),some (.ref D),a4,a5,a6,a7,a8]
structure RS (ws:List Wy) (ls:List Int) (Ld B D:Nat) (bs:List Be) (F:Fd) (fr:List Nd) (A:Q0) (V:PV):Prop where
 fR:∀ u∈fr,u∈kys F
 fl:fr.length<=F.length
 cl:∀ u∈kys F,u∉fr->Cld ws ls F u
 t:FT ws ls F
 bE:BE A B bs
 dD:A[D]?=some (.dtp (J8 stV F))
 lV:LA A V (fr.map ndV)
 VD:V≠.ref D
 lL:A[Ld]?=some (.lst (ls.map .int))
theorem RS.w {B:Nat} {bs:List Be} {V:PV} (R:RS ws ls Ld B D bs F fr A V) (a5 a6 a7 a8:Option PV):Y1 (rK ws Ld B D (some V) a5 a6 a7 a8) A=.ok (decide ((0:Int) < (fr.length:Nat))) A:=by
 have ht:Y1 (rK ws Ld B D (some V) a5 a6 a7 a8) A=.ok (decide ((0:Int) < ((fr.map ndV).length:Nat))) A:=J9 (Q7 (Jp (Q4 rfl rfl) (Qng R.lV)) rfl rfl)
 rwa [O1] at ht
theorem RS.turn (hl:ws.length<=500) (hll:ls.length=ws.length) (hsp:∃ k,k < ws.length/\(ws.getD k wy0).1=none) {B:Nat} (hLD:Ld≠D) (hBD:B≠D) {bs:List Be} (BI:BeI ws ws.length bs) {V:PV} (R:RS ws ls Ld B D bs F fr A V) (a5 a6 a7 a8:Option PV) :
  ∃ A2 F2 new c6 c7 c8,V8 (rK ws Ld B D (some V) a5 a6 a7 a8) A=.nx (rK ws Ld B D (some (.ref A.length)) (some (.ref A.length)) c6 c7 c8) A2/\RS ws ls Ld B D bs F2 new A2 (.ref A.length)/\F2.length=F.length + new.length/\Gw (fun t=>t=D) A A2:=by
 obtain ⟨hfr,hfl,hcl,t,E,hD,hV,hVD,hL⟩:=R;have hDl:D < A.length:=(O0.mp hD).1;have hLl:Ld < A.length:=(O0.mp hL).1;have hBl:B < A.length:=(O0.mp E.d).1;have g0:Gw (fun _=>False) A (A ++ [.lst []]):=Gw.add _ _ _;have V1:=Qj4 hV g0 fun _ _ z=>z
 obtain ⟨w,es,hw,hwx⟩:=Qe1 V1;have E1:BE (A ++ [.lst []]) B bs:=⟨g0.at E.d id,fun b hb=>g0.at (E.c b hb) id,E.n,E.k,E.g⟩;have few:=t.few;have hbx:∀ b∈bs,b.2.1≠D/\b.2.1≠A.length:=fun b hb=>⟨fun z=>(by have:=E.c b hb; rw [z,hD] at this; cases this),fun z=>(by have:=(O0.mp (E.c b hb)).1; omega)⟩
 have hwV:∀ x∈w,x.1≠D/\x.1≠A.length:=fun x hx=>by
  obtain ⟨_,e2⟩:=hwx x hx;refine ⟨fun z=>hVD (by rw [e2,z]),fun z=>?_⟩;rcases hV with e | ⟨i,e,q⟩
  ·rw [e2] at e; cases e
  ·rw [e2] at e;cases e;have:=(O0.mp q).1;omega
 obtain ⟨A2,F2,new,c6,c7,c8,e,t2,k2,d2,u2,g2,cl2⟩:=Qqx hl hll hsp (U:=A.length) (by omega) hLD (by omega) hBD (by omega) hbx BI (w:=w) (V:=V) fr F [] (A ++ [.lst []]) a6 a7 a8 hfr t (Nat.zero_le _) E1 (g0.at hD id) (by rw [D7 (O8 _),N4]; rfl) (g0.at hL id) hw hwV;have len2:F2.length=F.length + new.length:=by
  have:=congrArg List.length k2;rw [O4,O1,O1] at this;exact this
 have few2:=t2.few;have g3:Gw (fun t=>t=D) A A2:=⟨F6 (by rw [O4]; omega) g2.len,fun x hx hn=>(g2.keep x (by rw [O4]; omega) (fun z=>z.elim hn (by omega))).trans (O5 hx)⟩;refine ⟨A2,F2,new,c6,c7,c8,Qb (Qj (Yv rfl)) (Qb (Zj (Vv rfl es (by rw [O1]; omega)) e) (Qj rfl)),⟨fun u hu=>by rw [k2]; exact D0.mpr (.inr hu),by omega,fun u hu hn=>?_,t2,?_,d2,.inr ⟨_,rfl,by rw [List.nil_append] at u2; exact u2⟩,fun z=>?_,g3.at hL hLD⟩,len2,g3⟩
 ·rw [k2] at hu;rcases D0.mp hu with hu | hu
  ·by_cases q:u∈fr
   ·exact cl2 u q
   ·intro k hk v hv;rw [k2];exact D0.mpr (.inl (hcl u hu q k hk v hv))
  ·exact absurd hu hn
 ·exact ⟨g3.at E.d hBD,fun b hb=>g3.at (E.c b hb) (hbx b hb).1,E.n,E.k,E.g⟩
 ·cases z;omega
theorem Qum (hl:ws.length<=500) (hll:ls.length=ws.length) (hsp:∃ k,k < ws.length/\(ws.getD k wy0).1=none) {B:Nat} (hLD:Ld≠D) (hBD:B≠D) {bs:List Be} (BI:BeI ws ws.length bs):∀ (d m:Nat) (F:Fd) (fr:List Nd) (A:Q0) (V:PV) (a5 a6 a7 a8:Option PV),2 * ws.length + 1 - F.length<=d->RS ws ls Ld B D bs F fr A V ->
  ∃ A' F' b4 b5 b6 b7 b8,Z7 Y1 V8 (m + d + 2) (rK ws Ld B D (some V) a5 a6 a7 a8) A=.nx (rK ws Ld B D b4 b5 b6 b7 b8) A'/\FT ws ls F'/\(∀ u∈kys F',Cld ws ls F' u)/\A'[D]?=some (.dtp (J8 stV F'))/\Gw (fun t=>t=D) A A':=by
 have fin:∀ {F:Fd} {A:Q0} {V:PV} (n:Nat) (a5 a6 a7 a8:Option PV),RS ws ls Ld B D bs F [] A V->∃ A' F' b4 b5 b6 b7 b8,Z7 Y1 V8 (n + 1) (rK ws Ld B D (some V) a5 a6 a7 a8) A=.nx (rK ws Ld B D b4 b5 b6 b7 b8) A'/\FT ws ls F'/\(∀ u∈kys F',Cld ws ls F' u)/\A'[D]?=some (.dtp (J8 stV F'))/\Gw (fun t=>t=D) A A':=
  fun n a5 a6 a7 a8 R=>⟨_,_,_,a5,a6,a7,a8,qw (R.w a5 a6 a7 a8),R.t,fun u hu=>R.cl u hu (by simp),R.dD,Gw.refl _ _⟩
 intro d
 induction d with
 | zero=>
  intro m F fr A V a5 a6 a7 a8 hd R;cases fr with
  | nil=>exact fin (m + 1) a5 a6 a7 a8 R
  | cons u0 fr=>
   obtain ⟨A2,F2,new,c6,c7,c8,e,R2,len,g⟩:=R.turn hl hll hsp hLD hBD BI a5 a6 a7 a8;have:=R2.t.few;have hn:new=[]:=List.eq_nil_of_length_eq_zero (by omega);subst hn;obtain ⟨A',F',b4,b5,b6,b7,b8,e',h1,h2,h3,h4⟩:=fin m (some (.ref A.length)) c6 c7 c8 R2;exact ⟨A',F',b4,b5,b6,b7,b8,Uu ((R.w a5 a6 a7 a8).trans (by rw [bQ (by rw [E7]; omega)])) e e',h1,h2,h3,g.trans h4⟩
 | succ d ih=>
  intro m F fr A V a5 a6 a7 a8 hd R;cases fr with
  | nil=>exact fin (m + d + 2) a5 a6 a7 a8 R
  | cons u0 fr=>
   obtain ⟨A2,F2,new,c6,c7,c8,e,R2,len,g⟩:=R.turn hl hll hsp hLD hBD BI a5 a6 a7 a8;have hw:Y1 (rK ws Ld B D (some V) a5 a6 a7 a8) A=.ok true A:=(R.w a5 a6 a7 a8).trans (by rw [bQ (by rw [E7]; omega)]);cases new with
   | nil=>
    obtain ⟨A',F',b4,b5,b6,b7,b8,e',h1,h2,h3,h4⟩:=fin (m + d + 1) (some (.ref A.length)) c6 c7 c8 R2;exact ⟨A',F',b4,b5,b6,b7,b8,Uu hw e e',h1,h2,h3,g.trans h4⟩
   | cons u1 new=>
    rw [E7] at len;obtain ⟨A',F',b4,b5,b6,b7,b8,e',h1,h2,h3,h4⟩:=ih m F2 (u1 :: new) A2 (.ref A.length) (some (.ref A.length)) c6 c7 c8 (by omega) R2;exact ⟨A',F',b4,b5,b6,b7,b8,Uu hw e e',h1,h2,h3,g.trans h4⟩
theorem j2 (hl:ws.length<=500) (hll:ls.length=ws.length) (hsp:∃ k,k < ws.length/\(ws.getD k wy0).1=none) (hL:S[Ld]?=some (.lst (ls.map .int))) :
  ∃ S' D F,Yc [.lst (ws.map wyV),.ref Ld] S=.ok (.ref D) S'/\S'[D]?=some (.dtp (J8 stV F))/\FT ws ls F/\(∀ u∈kys F,Cld ws ls F u)/\Gw (fun _=>False) S S'/\S.length<=D:=by
 obtain ⟨S1,bs,e1,B,BI,g1⟩:=Qf6 hl S;have hLl:Ld < S.length:=(O0.mp hL).1;have hBl:S.length < S1.length:=(O0.mp B.d).1;have g2:Gw (fun _=>False) S1 (S1 ++ [.dtp (J8 stV [(none,none)])]):=Gw.add _ _ _;have R:RS ws ls Ld S.length S1.length bs [(none,none)] [none] (S1 ++ [.dtp (J8 stV [(none,none)])]) (.lst [.str "spring"]):=⟨fun u hu=>hu,O8 _,fun u hu hn=>absurd hu hn,.base,⟨g2.at B.d id,fun b hb=>g2.at (B.c b hb) id,B.n,B.k,B.g⟩,by rw [D7 (O8 _),N4]; rfl,.inl rfl,fun z=>(by cases z),g2.at (g1.at hL id) id⟩
 obtain ⟨A',F,b4,b5,b6,b7,b8,e,t,c,d,g⟩:=Qum hl hll hsp (by omega) (by omega) BI (2 * ws.length + 1) (99998 - (2 * ws.length + 1)) _ _ _ _ none none none none (by omega) R;rw [show 99998 - (2 * ws.length + 1) + (2 * ws.length + 1) + 2=100000 by omega] at e;refine ⟨A',S1.length,F,Kq (Qb (Qj (Qp (n:=1) (Q4 rfl rfl) rfl e1)) (Qb (Qj rfl) (Qb (Qj (Q7v (Q4 rfl rfl))) (Qb e (Zy rfl))))),d,t,c,?_,by omega⟩;have g3:=g1.trans g2;refine ⟨F6 g3.len g.len,fun x hx _=>?_⟩;rw [g.keep x (E4 hx g3.len) (by omega)];exact g3.keep x hx id
theorem Qcp (g:Gw (fun _=>False) S A):S <+: A:=List.prefix_iff_getElem?.mpr fun i hi=>by rw [g.keep i hi id]; exact O2 hi
theorem Q05 {xs:List PV} (g:Gw (fun _=>False) S A) (h:A[R]?=some (.lst xs)) (hR:S.length<=R) (hg:J0 12 (.lst xs)=true):fin S (.ref R) A=.ok (.lst xs) S:=by
 unfold fin;rw [bN (Qcp g)];have:fz S.length A 16 (.ref R)=fz S.length A 16 (.lst xs):=by
  simp only [fz,bO (show ¬ R < S.length by omega),h]
 rw [this,Q04 hg (by decide)]; rfl
def spV (s:Nat × Bool):PV:=.tup [.int (s.1:Int),.bl s.2]
inductive Pt (ws:List Wy) (ls:List Int) (F:Fd):Nd->List Nd->List (Nat × Bool)->Prop where
 | nil:(none,none)∈F->Pt ws ls F none [] []
 | cons {v u:Nd} {k:Nat} {ns:List Nd} {ss:List (Nat × Bool)}:(v,some (k,u))∈F->k < ws.length->oth (ws.getD k wy0) (ls.getD k 0) u=some v->v∉u :: ns->Pt ws ls F u ns ss->Pt ws ls F v (u :: ns) ((k,decide ((ws.getD k wy0).2.1=v)) :: ss)
theorem Pt.mem {v:Nd} (p:Pt ws ls F v ns ss):∀ x∈v :: ns,x∈kys F:=by
 induction p with
 | nil h=>exact fun x hx=>by rw [show x=none by simpa using hx]; exact D8.mpr ⟨_,h,rfl⟩
 | cons h _ _ _ _ ih=>
  intro x hx;rcases E2.mp hx with rfl | hx
  ·exact D8.mpr ⟨_,h,rfl⟩
  ·exact ih x hx
theorem Pt.mono {G:Fd} (hs:∀ x∈F,x∈G) {v:Nd} (p:Pt ws ls F v ns ss):Pt ws ls G v ns ss:=by
 induction p with
 | nil h=>exact .nil (hs _ h)
 | cons h h1 h2 h3 _ ih=>exact .cons (hs _ h) h1 h2 h3 ih
theorem Pt.len {v:Nd} (p:Pt ws ls F v ns ss):ss.length=ns.length/\(v :: ns).Nodup:=by
 induction p with
 | nil h=>simp
 | cons _ _ _ h3 _ ih=>exact ⟨by rw [E7,E7,ih.1],L7.mpr ⟨h3,ih.2⟩⟩
theorem FT.path (t:FT ws ls F):∀ v∈kys F,∃ ns ss,Pt ws ls F v ns ss:=by
 induction t with
 | base=>exact fun v hv=>by rw [show v=none by simpa using hv]; exact ⟨[],[],.nil (by simp)⟩
 | @snoc F v u k t h1 h2 h3 h4 ih=>
  intro x hx;unfold kys at hx;rw [E3] at hx;rcases D0.mp hx with hx | hx
  ·obtain ⟨ns,ss,p⟩:=ih x hx;exact ⟨ns,ss,p.mono fun y hy=>D0.mpr (.inl hy)⟩
  ·have:x=v:=by simpa using hx
   subst this;obtain ⟨ns,ss,p⟩:=ih u h2;exact ⟨_,_,.cons (D0.mpr (.inr (by simp))) h3 h4 (fun z=>h1 (p.mem _ z)) (p.mono fun y hy=>D0.mpr (.inl hy))⟩
def room (ws:List Wy) (ls:List Int) (s:Nat × Bool):Int:=if s.2=true then (ws.getD s.1 wy0).2.2 - ls.getD s.1 0 else ls.getD s.1 0
theorem Pt.room {ws:List Wy} {ls:List Int} {F:Fd} {v:Nd} {ns:List Nd} {ss:List (Nat × Bool)} (p:Pt ws ls F v ns ss):∀ s∈ss,s.1 < ws.length/\1<=room ws ls s:=by
 induction p with
 | nil h=>intro s hs; cases hs
 | @cons v u k ns ss _ h1 h2 h3 _ ih=>
  intro s hs;rcases E2.mp hs with rfl | hs
  ·refine ⟨h1,?_⟩;unfold Lw.room;rcases Xi h2 with ⟨_,e2,e3⟩ | ⟨e1,e2,e3⟩
   ·rw [bN (show decide _=true from bQ e2)];show 1<=(ws.getD k wy0).2.2 - ls.getD k 0;omega
   ·have:(ws.getD k wy0).2.1≠v:=fun z=>h3 (by rw [<- z,e1]; exact D1)
    rw [bO (show ¬ decide _=true by simpa using this)];exact e3
  ·exact ih s hs
theorem Qb8 (hn:(kys F).Nodup) (hDR:D≠R) {P:PV}:∀ {v:Nd} {ns:List Nd} {ss:List (Nat × Bool)},Pt ws ls F v ns ss->∀ (m:Nat) (acc:List (Nat × Bool)) (A:Q0) (a5:Option PV),A[D]?=some (.dtp (J8 stV F))->A[R]?=some (.lst (acc.map spV))->acc.length + ss.length<=2000 ->
  ∃ A' b4 b5,Z7 Vu U8 (m + ss.length + 1) [some (.lst (ws.map wyV)),some (.ref D),some P,some (.ref R),some (ndV v),a5] A=.nx [some (.lst (ws.map wyV)),some (.ref D),some P,some (.ref R),b4,b5] A'/\A'[R]?=some (.lst ((acc ++ ss).map spV))/\Gw (fun t=>t=R) A A':=by
 intro v ns ss p
 induction p with
 | nil h=>exact fun m acc A a5 hD hR _=>⟨A,_,_,qw (J9 (Q7 (Q48 rfl rfl (Q7q stV hD hn h)) rfl rfl)),by rw [F9]; exact hR,Gw.refl _ _⟩
 | @cons v u k ns ss h h1 h2 h3 p ih=>
  intro m acc A a5 hD hR hl;have hg:=Q7q stV hD hn h;rw [E7] at hl;have hRl:=(O0.mp hR).1;obtain ⟨A1,hA1⟩:∃ A1,A.set R (.lst ((acc ++ [(k,decide ((ws.getD k wy0).2.1=v))]).map spV))=A1:=⟨_,rfl⟩;have happ:Qq A (.ref R) [spV (k,decide ((ws.getD k wy0).2.1=v))]=.ok .non A1:=by
   rw [V6 hR (by rw [O1]; omega),<- hA1,E3];rfl
  have d1:A1[D]?=some (.dtp (J8 stV F)):=by rw [<- hA1,O9 (Ne.symm hDR)]; exact hD
  have r1:A1[R]?=some (.lst ((acc ++ [(k,decide ((ws.getD k wy0).2.1=v))]).map spV)):=by rw [<- hA1]; exact D4 hRl
  have g1:Gw (fun t=>t=R) A A1:=by rw [<- hA1]; exact Gw.put (P:=fun t=>t=R) A rfl _
  obtain ⟨A',b4,b5,e,q1,q2⟩:=ih m (acc ++ [(k,decide ((ws.getD k wy0).2.1=v))]) A1 (some (stV (some (k,u)))) d1 r1 (by rw [O4]; simp; omega);refine ⟨A',b4,b5,?_,by rw [q1]; simp,g1.trans q2⟩;rw [E7,show m + (ss.length + 1) + 1=(m + ss.length + 1) + 1 from rfl];have ix:∀ T:Q0,oIx T (.lst (ws.map wyV)) (.int (k:Int))=.ok (wyV (ws.getD k wy0)) T:=fun T=>by
   show okO T (atI (ws.map wyV) (k:Int))=_;rw [Uq wyV wy0 ws h1]; rfl
  exact Uu (J9 (Q7 (Q48 rfl rfl hg) rfl rfl)) (Qb (Qj (Q48 rfl rfl hg)) (Qb (Ve rfl (Jb hR) (Q4 (Qw (Q4 (Q7 rfl rfl rfl) (Q4 (Q7 (Q7 (Q7 rfl (Q7 rfl rfl rfl) (ix A)) rfl rfl) rfl (Qek A _ v)) rfl)) (show 2<=1000000 by decide)) rfl) happ) (Qj (Q7 rfl rfl rfl)))) e
theorem Qik (t:FT ws ls F) (hl:ws.length<=500) (hD:S[D]?=some (.dtp (J8 stV F))) {v:Nd} (p:Pt ws ls F v ns ss):ss.length<=1001/\Wi [.lst (ws.map wyV),.ref D,ndV v] S=.ok (.lst (ss.map spV)) S:=by
 have hDl:=(O0.mp hD).1;have few:=t.few;have hlen:ss.length<=1001:=by
  have h1:=p.len;have h2:=qa h1.2 p.mem;rw [E7,O1] at h2;omega
 obtain ⟨A',b4,b5,e,q1,q2⟩:=Qb8 t.nd (D:=D) (R:=S.length) (by omega) (P:=ndV v) p (99999 - ss.length) [] (S ++ [Cell.lst []]) none (by rw [O5 hDl]; exact hD) (by rw [D7 (O8 _),N4]; rfl) (by rw [List.length_nil]; omega);rw [show 99999 - ss.length + ss.length + 1=100000 by omega] at e;have g:Gw (fun _=>False) S A':=((Gw.add (fun t=>t=S.length) S _).trans q2).mono fun t ht z=>by omega
 exact ⟨hlen,(Zk (show Xk [some (.lst (ws.map wyV)),some (.ref D),some (ndV v),none,none,none] S=_ from Qb (Qj (Yv rfl)) (Qb (Qj rfl) (Qb e (Zy rfl))))).trans (Q05 g q1 (O8 _) (by simp [J0,spV]))⟩
theorem Qdj:∀ (a:Int) (l:List Int),∃ m,Qhn (a :: l)=some m/\m∈a :: l/\∀ x∈a :: l,m<=x:=by
 have key:∀ (l:List Int) (a:Int),(l.foldl (fun m x=>if x < m then x else m) a)∈a :: l/\∀ x∈a :: l,(l.foldl (fun m x=>if x < m then x else m) a)<=x:=by
  intro l
  induction l with
  | nil=>intro a; exact ⟨by simp,fun x hx=>by rw [show x=a by simpa using hx]; exact Int.le_refl _⟩
  | cons b l ih=>
   intro a;rw [List.foldl_cons]
   by_cases q:b < a
   ·rw [bN q];obtain ⟨h1,h2⟩:=ih b;refine ⟨O7 _ h1,fun x hx=>?_⟩;rcases E2.mp hx with rfl | hx
    ·have:=h2 b D1;omega
    ·exact h2 x hx
   ·rw [bO q];obtain ⟨h1,h2⟩:=ih a;refine ⟨?_,fun x hx=>?_⟩
    ·rcases E2.mp h1 with h | h
     ·rw [h]; exact D1
     ·exact O7 _ (O7 _ h)
    ·rcases E2.mp hx with rfl | hx
     ·exact h2 _ D1
     ·rcases E2.mp hx with rfl | hx
      ·have:=h2 a D1;omega
      ·exact h2 x (O7 _ hx)
 intro a l;exact ⟨_,rfl,key l a⟩
theorem Qgd (hll:ls.length=ws.length) (hL:S[Ld]?=some (.lst (ls.map .int))) (hs:∀ s∈ss,s.1 < ws.length) (hl:ss.length<=2000) (hne:ss≠[]) :
  ∃ r,X9 [.lst (ws.map wyV),.ref Ld,.lst (ss.map spV)] S=.ok (.int r) S/\(∃ s∈ss,r=room ws ls s)/\∀ s∈ss,r<=room ws ls s:=by
 have e:=Jn (ga:=Jr (Qf (Q5 0) (Qf (Q5 1) Js))) (me:=Ue) (w:=[]) (Γ0:=[none,none,some (.ref Ld),some (.lst (ws.map wyV))]) (st:=S) (g:=spV) (f:=fun s=>PV.int (room ws ls s)) (Qv _) (ys:=ss) fun s h=>by
  have hk:=hs s h;have ixw:oIx S (.lst (ws.map wyV)) (.int (s.1:Int))=.ok (wyV (ws.getD s.1 wy0)) S:=by
   show okO S (atI (ws.map wyV) (s.1:Int))=_;rw [Uq wyV wy0 ws hk]; rfl
  have ixl:oIx S (.ref Ld) (.int (s.1:Int))=.ok (.int (ls.getD s.1 0)) S:=by
   rw [Q5m,hL];show okO S (atI (ls.map PV.int) (s.1:Int))=_;rw [Uq PV.int 0 ls (by omega)]; rfl
  refine ⟨_,rfl,?_⟩;unfold room Ue mIf;obtain ⟨k,b⟩:=s;cases b with
  | true=>
   rw [bN rfl];exact Q7 (Q7 (Q7 rfl rfl ixw) rfl rfl) (Q7 rfl rfl ixl) rfl
  | false=>
   show mOp oIx (Q3 2) (Q3 0) [some (.int (k:Int)),some (.bl false),some (.ref Ld),some (.lst (ws.map wyV))] S=.ok (.int (ls.getD k 0)) S;exact Q7 rfl rfl ixl
 obtain ⟨s0,ss',rfl⟩:∃ s0 ss',ss=s0 :: ss':=by cases ss with
  | nil=>exact absurd rfl hne
  | cons a l=>exact ⟨a,l,rfl⟩
 obtain ⟨r,e1,e2,e3⟩:=Qdj (room ws ls s0) (ss'.map (room ws ls));refine ⟨r,(Zk (Zy (Jp (Q4 (qx (Yu (Vv rfl rfl (by rw [O1]; omega)) e)) rfl) (S2:=S) (v:=.int r) ?_))).trans (ym rfl),?_,?_⟩
 ·show Yg (fun ns=>(Qhn ns).map .int) S [.lst ((s0 :: ss').map fun s=>PV.int (room ws ls s))]=_
  rw [show (s0 :: ss').map (fun s=>PV.int (room ws ls s))=(room ws ls s0 :: ss'.map (room ws ls)).map PV.int by rw [<- D9 (f:=room ws ls),F4]; rfl,qg,e1]; rfl
 ·rw [<- D9 (f:=room ws ls)] at e2;obtain ⟨s,h1,h2⟩:=D8.mp e2;exact ⟨s,h1,h2.symm⟩
 ·intro s h;exact e3 _ (by rw [<- D9 (f:=room ws ls)]; exact D8.mpr ⟨s,h,rfl⟩)
def Vg (a:Int) (ls:List Int) (s:Nat × Bool):List Int:=ls.set s.1 (ls.getD s.1 0 + if s.2=true then a else -a)
def push (a:Int) (ls:List Int) (ss:List (Nat × Bool)):List Int:=ss.foldl (Vg a) ls
theorem Q0u (a:Int):∀ (ss:List (Nat × Bool)) (ls:List Int),(push a ls ss).length=ls.length
 | [],_=>rfl
 | s :: ss,ls=>by
  show (push a (Vg a ls s) ss).length=_;rw [Q0u a ss]; exact D5
theorem Qim {mi:ME} {f:Int->Int->Int} {S4 S5:Q0} {o:PV} {xs:List PV} {j b:Int} (h1:mo Γ S=.ok o S1) (h2:mi Γ S1=.ok (.int j) S2) (h3:Ym S2 o=some xs) (h4:atI xs j=some (.int a)) (h5:m Γ S2=.ok (.int b) S4) (h6:Wk S4 o (.int j) (.int (f a b))=some S5):Q5y mo mi f m Γ S=.nx Γ S5:=by
 unfold Q5y;rw [h1,Vx,h2,Vx,h3];show (match atI xs j with | some (.int a)=>(m Γ S2).sbind fun v st4=>(match v with | .int b=>(match Wk st4 o (.int j) (.int (f a b)) with | some st5=>SR.nx Γ st5 | none=>.stuck) | _=>.stuck) | _=>.stuck)=_
 rw [h4];show ((m Γ S2).sbind fun v st4=>(match v with | .int b=>(match Wk st4 o (.int j) (.int (f a b)) with | some st5=>SR.nx Γ st5 | none=>.stuck) | _=>.stuck))=_
 rw [h5,Vx];show (match Wk S4 o (.int j) (.int (f a b)) with | some st5=>SR.nx Γ st5 | none=>.stuck)=_
 rw [h6]
theorem Q8m {Ld:Nat} {a:Int} {V T P:PV} {sv D6:Option PV} {X6:PV} {n:Nat}:∀ (ss:List (Nat × Bool)) (ls:List Int) (A:Q0) (a8 a9:Option PV),ls.length=n->(∀ s∈ss,s.1 < n)->A[Ld]?=some (.lst (ls.map .int)) ->
  ∃ A' b8 b9,W1 (Jr (Qf (Q5 8) (Qf (Q5 9) Js))) qh [] (ss.map spV) [some V,some (.ref Ld),some T,some P,sv,D6,some X6,some (.int a),a8,a9] A=.nx [some V,some (.ref Ld),some T,some P,sv,D6,some X6,some (.int a),b8,b9] A'/\A'[Ld]?=some (.lst ((push a ls ss).map .int))/\Gw (fun t=>t=Ld) A A'
 | [],ls,A,a8,a9,_,_,hL=>⟨A,a8,a9,U5 (Qv _),hL,Gw.refl _ _⟩
 | s :: ss,ls,A,a8,a9,hn,hs,hL=>by
  have hk:s.1 < ls.length:=by rw [hn]; exact hs s D1
  have hLl:=(O0.mp hL).1;have hsx:Wk A (.ref Ld) (.int (s.1:Int)) (.int (ls.getD s.1 0 + if s.2=true then a else -a))=some (A.set Ld (.lst ((Vg a ls s).map .int))):=by
   rw [Q3q,hL];show (ixN (ls.map PV.int).length (s.1:Int)).map _=_;rw [show ixN (ls.map PV.int).length (s.1:Int)=some s.1 by rw [O1]; exact Q90 hk];unfold Vg;rw [List.map_set]; rfl
  have hbody:qh [some V,some (.ref Ld),some T,some P,sv,D6,some X6,some (.int a),some (.int (s.1:Int)),some (.bl s.2)] A=.nx [some V,some (.ref Ld),some T,some P,sv,D6,some X6,some (.int a),some (.int (s.1:Int)),some (.bl s.2)] (A.set Ld (.lst ((Vg a ls s).map .int))):=by
   have hv:mIf (toB (Q3 9)) (Q3 7) (Qhv (Q3 7)) [some V,some (.ref Ld),some T,some P,sv,D6,some X6,some (.int a),some (.int (s.1:Int)),some (.bl s.2)] A=.ok (.int (if s.2=true then a else -a)) A:=by
    obtain ⟨k,b⟩:=s;cases b <;> rfl
   refine Qim rfl rfl (Jb hL) (a:=ls.getD s.1 0) ?_ hv hsx;rw [Uq PV.int 0 ls hk]
  obtain ⟨A',b8,b9,e,q1,q2⟩:=Q8m (V:=V) (T:=T) (P:=P) (sv:=sv) (D6:=D6) (X6:=X6) ss (Vg a ls s) (A.set Ld (.lst ((Vg a ls s).map .int))) (some (.int (s.1:Int))) (some (.bl s.2)) ((Q0u a [s] ls).trans hn) (fun x hx=>hs x (O7 _ hx)) (D4 hLl)
  exact ⟨A',b8,b9,Ud (Qv _) rfl hbody e,q1,(Gw.put (P:=fun t=>t=Ld) A rfl _).trans q2⟩
theorem Qpg {i:Nat} {f:Int->Int->Int} {b:Int} (h1:Γ[i]?=some (some (.int a))) (h2:m Γ S=.ok (.int b) S1):Qdt i f m Γ S=.nx (Γ.set i (some (.int (f a b)))) S1:=by
 unfold Qdt;rw [h1];show (m Γ S).sbind _=_;rw [h2]; rfl
abbrev sG (ws:List Wy) (Ld:Nat) (t:Tr) (sv:Int) (D:Nat) (a6 a7 a8 a9:Option PV):Gam:=[some (.lst (ws.map wyV)),some (.ref Ld),some (trV t),some (ndV (some (t.1.2,t.1.1))),some (.int sv),some (.ref D),a6,a7,a8,a9]
theorem Q6v (hl:ws.length<=500) (hsp:∃ k,k < ws.length/\(ws.getD k wy0).1=none) {t:Tr} (J:List Int->Int->Prop) (hJ:∀ (ls:List Int) (sv a:Int) (F:Fd) (ns:List Nd) (ss:List (Nat × Bool)),ls.length=ws.length->J ls sv->FT ws ls F->Pt ws ls F (some (t.1.2,t.1.1)) ns ss->1<=a->(∀ s∈ss,a<=room ws ls s)->a<=t.2 - sv->J (push a ls ss) (sv + a)):∀ (d m:Nat) (ls:List Int) (sv:Int) (D:Nat) (F:Fd) (A:Q0) (a6 a7 a8 a9:Option PV),(t.2 - sv).toNat<=d->sv<=t.2->ls.length=ws.length->J ls sv->A[Ld]?=some (.lst (ls.map .int))->A[D]?=some (.dtp (J8 stV F))->FT ws ls F->(∀ u∈kys F,Cld ws ls F u) ->
  ∃ A' ls' sv' D' F' b6 b7 b8 b9,Z7 Uv qi (m + d + 1) (sG ws Ld t sv D a6 a7 a8 a9) A=.nx (sG ws Ld t sv' D' b6 b7 b8 b9) A'/\sv'<=t.2/\ls'.length=ws.length/\J ls' sv'/\A'[Ld]?=some (.lst (ls'.map .int))/\FT ws ls' F'/\(∀ u∈kys F',Cld ws ls' F' u)/\(sv'=t.2\/some (t.1.2,t.1.1)∉kys F')/\Gw (fun x=>x=Ld) A A':=by
 have wt:∀ {A:Q0} {D:Nat} {F:Fd} (sv:Int) (a6 a7 a8 a9:Option PV),A[D]?=some (.dtp (J8 stV F))->Uv (sG ws Ld t sv D a6 a7 a8 a9) A=.ok (decide (sv < t.2) && decide (some (t.1.2,t.1.1)∈kys F)) A:=fun sv a6 a7 a8 a9 hD=>
  Q4i (J9 (Q7 rfl (Q7 rfl rfl rfl) (Qdw _ _ _))) (J9 (Q7 rfl rfl ((Qep stV hD (some (t.1.2,t.1.1)) false).trans (by rw [Bool.bne_false]))))
 have stop:∀ {A:Q0} {D:Nat} {F:Fd} {ls:List Int} (n:Nat) (sv:Int) (a6 a7 a8 a9:Option PV),(decide (sv < t.2) && decide (some (t.1.2,t.1.1)∈kys F))=false->sv<=t.2->ls.length=ws.length->J ls sv->A[Ld]?=some (.lst (ls.map .int))->A[D]?=some (.dtp (J8 stV F))->FT ws ls F->(∀ u∈kys F,Cld ws ls F u) ->
   ∃ A' ls' sv' D' F' b6 b7 b8 b9,Z7 Uv qi (n + 1) (sG ws Ld t sv D a6 a7 a8 a9) A=.nx (sG ws Ld t sv' D' b6 b7 b8 b9) A'/\sv'<=t.2/\ls'.length=ws.length/\J ls' sv'/\A'[Ld]?=some (.lst (ls'.map .int))/\FT ws ls' F'/\(∀ u∈kys F',Cld ws ls' F' u)/\(sv'=t.2\/some (t.1.2,t.1.1)∉kys F')/\Gw (fun x=>x=Ld) A A':=by
  intro A D F ls n sv a6 a7 a8 a9 hf h1 h2 h3 h4 h5 h6 h7;have w:=wt sv a6 a7 a8 a9 h5;rw [hf] at w;refine ⟨A,ls,sv,D,F,a6,a7,a8,a9,qw w,h1,h2,h3,h4,h6,h7,?_,Gw.refl _ _⟩
  by_cases q:sv < t.2
  ·rw [bQ q,Bool.true_and] at hf;exact .inr (of_decide_eq_false hf)
  ·exact .inl (by omega)
 intro d
 induction d with
 | zero=>
  intro m ls sv D F A a6 a7 a8 a9 hd h1 h2 h3 h4 h5 h6 h7;exact stop m sv a6 a7 a8 a9 (by rw [bP (by omega)]; rfl) h1 h2 h3 h4 h5 h6 h7
 | succ d ih=>
  intro m ls sv D F A a6 a7 a8 a9 hd h1 h2 h3 h4 h5 h6 h7;cases hc:(decide (sv < t.2) && decide (some (t.1.2,t.1.1)∈kys F)) with
  | false=>exact stop (m + d + 1) sv a6 a7 a8 a9 hc h1 h2 h3 h4 h5 h6 h7
  | true=>
   have w:=wt sv a6 a7 a8 a9 h5;rw [hc] at w;obtain ⟨c1,c2⟩:=Bool.and_eq_true_iff.mp hc;have c1:=of_decide_eq_true c1;have c2:=of_decide_eq_true c2;obtain ⟨ns,ss,p⟩:=h6.path _ c2;obtain ⟨l1,eb⟩:=Qik h6 hl h5 p;have hr:=p.room;have hne:ss≠[]:=by
    intro z;subst z;cases p
   obtain ⟨r,er,⟨s0,hs0,r0⟩,hrm⟩:=Qgd h2 h4 (ss:=ss) (fun s hs=>(hr s hs).1) (by omega) hne
   have hr1:1<=r:=by rw [r0]; exact (hr s0 hs0).2
   obtain ⟨a,ha⟩:∃ a,a=if t.2 - sv < r then t.2 - sv else r:=⟨_,rfl⟩
   have ha1:1<=a/\a<=r/\a<=t.2 - sv:=by
    rw [ha]
    split <;> omega
   obtain ⟨A1,b8,b9,e1,q1,g1⟩:=Q8m (Ld:=Ld) (a:=a) (V:=.lst (ws.map wyV)) (T:=trV t) (P:=ndV (some (t.1.2,t.1.1))) (sv:=some (.int sv)) (D6:=some (.ref D)) (X6:=.lst (ss.map spV)) (n:=ws.length) ss ls A a8 a9 h2 (fun s hs=>(hr s hs).1) h4
   have len1:(push a ls ss).length=ws.length:=(Q0u a ss ls).trans h2;obtain ⟨A2,D2,F2,e2,d2,t2,cl2,g2,_⟩:=j2 hl len1 hsp q1;have L2:A2[Ld]?=some (.lst ((push a ls ss).map .int)):=g2.at q1 id;obtain ⟨A',ls',sv',D',F',x6,x7,x8,x9,e,k1,k2,k3,k4,k5,k6,k7,k8⟩:=ih m (push a ls ss) (sv + a) D2 F2 A2 (some (.lst (ss.map spV))) (some (.int a)) b8 b9 (by omega) (by omega) len1 (hJ ls sv a F ns ss h2 h3 h6 p ha1.1 (fun s hs=>Int.le_trans ha1.2.1 (hrm s hs)) ha1.2.2) L2 d2 t2 cl2
   refine ⟨A',ls',sv',D',F',x6,x7,x8,x9,?_,k1,k2,k3,k4,k5,k6,k7,(g1.trans (g2.mono fun _ _ z=>z.elim)).trans k8⟩;refine Uu w (Qb (Qj (Qp (n:=3) (Q4 rfl (Q4 rfl (Q4 rfl rfl))) rfl eb)) (Qb (Qj (Jp (Q4 (Qp (n:=3) (Q4 rfl (Q4 rfl (Q4 rfl rfl))) rfl er) (Q4 (Q7 (Q7 rfl rfl rfl) rfl rfl) rfl)) (S2:=A) (v:=.int a) ?_)) (Qb (Zj (Vv rfl rfl (by rw [O1]; omega)) e1) (Qb (Qpg rfl rfl) (Qj (Qp (n:=2) (Q4 rfl (Q4 rfl rfl)) rfl e2)))))) e;rw [Kr,ha]
theorem Qc0 (hl:ws.length<=500) (hsp:∃ k,k < ws.length/\(ws.getD k wy0).1=none) {t:Tr} (J:List Int->Int->Prop) (hJ:∀ (ls:List Int) (sv a:Int) (F:Fd) (ns:List Nd) (ss:List (Nat × Bool)),ls.length=ws.length->J ls sv->FT ws ls F->Pt ws ls F (some (t.1.2,t.1.1)) ns ss->1<=a->(∀ s∈ss,a<=room ws ls s)->a<=t.2 - sv->J (push a ls ss) (sv + a)) (ht:0<=t.2/\t.2<=1000000) (h2:ls.length=ws.length) (h3:J ls 0) (h4:S[Ld]?=some (.lst (ls.map .int))) :
  ∃ S' ls' sv' F',zt [.lst (ws.map wyV),.ref Ld,trV t] S=.ok (.int sv') S'/\sv'<=t.2/\ls'.length=ws.length/\J ls' sv'/\S'[Ld]?=some (.lst (ls'.map .int))/\FT ws ls' F'/\(∀ u∈kys F',Cld ws ls' F' u)/\(sv'=t.2\/some (t.1.2,t.1.1)∉kys F')/\Gw (fun x=>x=Ld) S S':=by
 obtain ⟨A2,D2,F2,e2,d2,t2,cl2,g2,_⟩:=j2 hl h2 hsp h4;obtain ⟨A',ls',sv',D',F',x6,x7,x8,x9,e,k1,k2,k3,k4,k5,k6,k7,k8⟩:=Q6v hl hsp J hJ t.2.toNat (1999999 - t.2.toNat) ls 0 D2 F2 A2 none none none none (by omega) ht.1 h2 h3 (g2.at h4 id) d2 t2 cl2;rw [show 1999999 - t.2.toNat + t.2.toNat + 1=2000000 by omega] at e;exact ⟨A',ls',sv',F',Kq (Qb (Qj (Qw (Q4 (Q7 rfl rfl rfl) (Q4 (Q7 rfl rfl rfl) rfl)) (show 2<=1000000 by decide))) (Qb (Qj rfl) (Qb (Qj (Qp (n:=2) (Q4 rfl (Q4 rfl rfl)) rfl e2)) (Qb e (Zy rfl))))),k1,k2,k3,k4,k5,k6,k7,(g2.mono fun _ _ z=>z.elim).trans k8⟩
def wsp (xs:List Int):List Wy:=(List.range xs.length).map fun h=>(none,some (h,0),xs.getD h 0)
def wst (xs:List Int) (t:Nat):List Wy:=(List.range xs.length).map fun h=>(some (h,t),some (h,t + 1),xs.sum)
def wrd (ts:List Tr) (t:Nat):List Wy:=ts.map fun z=>(some (z.1.1,t),some (z.1.2,t + 1),z.2)
def wsQ (xs:List Int) (rs:List (List Tr)):List Wy:=wsp xs ++ (List.range rs.length).flatMap fun t=>wst xs t ++ wrd (rs.getD t []) t
theorem Q3e (xs:List Int) (t:Nat):(wst xs t).length=xs.length:=by unfold wst; rw [O1,E5]
theorem Q84 (ts:List Tr) (t:Nat):(wrd ts t).length=ts.length:=O1 _
theorem Quk (n:Nat):Jc 0 n=(List.range n).map fun i:Nat=>PV.int (i:Int):=by
 unfold Jc;exact G8 fun i _=>by rw [Int.zero_add]
theorem Q9b (h:m Γ S=.ok (.tup l) S) (hl:l.length<=1000):qr (Q1 m Q6) Γ S=.ok (Wm 0 l,[]) S:=by
 unfold qr;rw [Q4 h rfl,Qk];show (if l.length<=lim then Res.ok (Wm 0 l,[]) S else .stuck)=_;rw [bN (by rw [Za]; omega)]
theorem Qi6 (ws:List Wy):J0 12 (.lst (ws.map wyV))=true:=by
 have:∀ v:Nd,J0 10 (ndV v)=true:=fun v=>by cases v <;> rfl
 simp [J0,wyV,this]
theorem Q85 (Q:Qok xs rs ks):(wsQ xs rs).length<=500:=by
 have h1:=Q.x4;have h2:=Q.r4;have key:∀ m,m<=rs.length->((List.range m).flatMap fun t=>wst xs t ++ wrd (rs.getD t []) t).length<=m * 104:=by
  intro m
  induction m with
  | zero=>intro _; simp
  | succ m ih=>
   intro hm;rw [List.range_succ,List.flatMap_append,O4];have:=ih (by omega);have h3:((List.flatMap (fun t=>wst xs t ++ wrd (rs.getD t []) t) [m])).length<=104:=by
    rw [List.flatMap_singleton,O4];rw [Q3e,Q84];have:rs.getD m []∈rs:=by rw [O3,O2 (by omega)]; exact F5 _
    have:=(Q.rb _ this).len;omega
   omega
 unfold wsQ wsp;rw [O4,O1,E5];have:=key rs.length (O8 _);omega
theorem Qfn (Q:Qok xs rs ks) (S:Q0):X8 [qV xs rs ks] S=.ok (.lst ((wsQ xs rs).map wyV)) S:=by
 have h4:=Q.x4;have hr4:=Q.r4;have hn1:-1000000<=(xs.length:Int)/\(xs.length:Int)<=1000000:=by omega
 have e1:=Jn (ga:=Jr (Qf (Q5 0) (Qf (Q5 1) Js))) (me:=Kj) (w:=[]) (Γ0:=[none,none]) (st:=S) (g:=fun i:Nat=>PV.tup [.int (i:Int),.int (xs.getD i 0)]) (f:=fun h:Nat=>wyV (none,some (h,0),xs.getD h 0)) (Qv _) (ys:=List.range xs.length) fun h _=>⟨_,rfl,Qw (Q4 rfl (Q4 (Qw (Q4 rfl (Q4 rfl rfl)) (show 2<=1000000 by decide)) (Q4 rfl rfl))) (show 3<=1000000 by decide)⟩
 rw [<- Q4a PV.int 0 xs,show (List.range xs.length).map (fun h:Nat=>wyV (none,some (h,0),xs.getD h 0))=(wsp xs).map wyV by unfold wsp; rw [F4]; rfl] at e1
 obtain ⟨Γ',S',e2,a3,a4,rfl,q,g⟩:=Jm (g:=fun i:Nat=>PV.tup [.int (i:Int),tsV (rs.getD i [])]) (xs:=List.range rs.length) (ga:=Jr (Qf (Q5 3) (Qf (Q5 4) Js))) (body:=Kt) (w:=[]) (Γ:=[some (qV xs rs ks),some (.tup (xs.map .int)),some (.ref S.length),none,none]) (st:=S ++ [.lst ((wsp xs).map wyV)])
  (fun m Γ st=>∃ a3 a4,Γ=[some (qV xs rs ks),some (.tup (xs.map .int)),some (.ref S.length),a3,a4]/\st[S.length]?=some (.lst ((wsp xs ++ (List.range m).flatMap fun t=>wst xs t ++ wrd (rs.getD t []) t).map wyV))/\Gw (fun t=>t=S.length) (S ++ [.lst ((wsp xs).map wyV)]) st)
  (fun _ _ _ _ x hx=>by cases hx)
  (fun m x Γ st hx ⟨a3,a4,hΓ,q,g⟩=>by
   obtain ⟨hm,rfl⟩:m < rs.length/\x=m:=by
    obtain ⟨h1,h2⟩:=O0.mp hx;rw [E5] at h1;rw [List.getElem_range] at h2;exact ⟨h1,h2.symm⟩
   subst hΓ;have hrm:rs.getD x []∈rs:=by rw [O3,O2 hm]; exact F5 _
   have hrl:=(Q.rb _ hrm).len;have hlen:(wsp xs ++ (List.range x).flatMap fun t=>wst xs t ++ wrd (rs.getD t []) t).length<=1000:=by
    have h1:=Q85 Q;unfold wsQ at h1;have h2:((List.range x).flatMap fun t=>wst xs t ++ wrd (rs.getD t []) t).length<=((List.range rs.length).flatMap fun t=>wst xs t ++ wrd (rs.getD t []) t).length:=by
     rw [show rs.length=x + (rs.length - x) by omega,List.range_add,List.flatMap_append,O4];omega
    rw [O4] at h1 ⊢;omega
   have c2:=Jn (ga:=Q5 0) (me:=Ki) (w:=[]) (Γ0:=[none,some (.int (x:Int)),some (.tup (xs.map .int))]) (st:=st) (g:=fun i:Nat=>PV.int (i:Int)) (f:=fun h:Nat=>wyV (some (h,x),some (h,x + 1),xs.sum)) (Qv _) (ys:=List.range xs.length) fun h _=>⟨_,rfl,Qw (Q4 (Qw (Q4 rfl (Q4 rfl rfl)) (show 2<=1000000 by decide)) (Q4 (Qw (Q4 rfl (Q4 (Q7 rfl rfl (Xv _ _ _)) rfl)) (show 2<=1000000 by decide)) (Q4 (Jp (Q4 rfl rfl) (Qb4 _ _ _)) rfl))) (show 3<=1000000 by decide)⟩
   rw [show (List.range xs.length).map (fun h:Nat=>wyV (some (h,x),some (h,x + 1),xs.sum))=(wst xs x).map wyV by unfold wst; rw [F4]; rfl] at c2
   have s1:=Q99 q (ys:=(wst xs x).map wyV) (by rw [O1,O1,Q3e]; omega);rw [<- E3] at s1;obtain ⟨A1,hA1⟩:∃ A1,st.set S.length (.lst ((wsp xs ++ (List.range x).flatMap (fun t=>wst xs t ++ wrd (rs.getD t []) t) ++ wst xs x).map wyV))=A1:=⟨_,rfl⟩
   rw [hA1] at s1;have hSl:S.length < st.length:=(O0.mp q).1;have q1:A1[S.length]?=some (.lst ((wsp xs ++ (List.range x).flatMap (fun t=>wst xs t ++ wrd (rs.getD t []) t) ++ wst xs x).map wyV)):=by rw [<- hA1]; exact D4 hSl
   have c3:=Jn (ga:=Jr (Qf (Q5 0) (Qf (Q5 1) (Qf (Q5 2) Js)))) (me:=Kh) (w:=[]) (Γ0:=[none,none,none,some (.int (x:Int))]) (st:=A1) (g:=trV) (f:=fun z:Tr=>wyV (some (z.1.1,x),some (z.1.2,x + 1),z.2)) (Qv _) (ys:=rs.getD x []) fun z _=>⟨_,rfl,Qw (Q4 (Qw (Q4 rfl (Q4 rfl rfl)) (show 2<=1000000 by decide)) (Q4 (Qw (Q4 rfl (Q4 (Q7 rfl rfl (Xv _ _ _)) rfl)) (show 2<=1000000 by decide)) (Q4 rfl rfl))) (show 3<=1000000 by decide)⟩
   rw [show (rs.getD x []).map (fun z:Tr=>wyV (some (z.1.1,x),some (z.1.2,x + 1),z.2))=(wrd (rs.getD x []) x).map wyV by unfold wrd; rw [F4]; rfl] at c3
   have s2:=Q99 q1 (ys:=(wrd (rs.getD x []) x).map wyV) (by rw [O1,O1,O4,Q3e,Q84]; omega);rw [<- E3] at s2;refine ⟨_,rfl,_,_,Qb (Ve rfl (Jb q) (Q4 (qx (Yu (jq (n:=xs.length) (by omega) (Jp (Q4 rfl rfl) (by rw [Ks,O1]))) (by rw [Quk]; exact c2))) rfl) s1) (Ve rfl (Jb q1) (Q4 (qx (Yu (Vv rfl rfl (by rw [O1]; omega)) c3)) rfl) s2),_,_,rfl,?_,?_⟩
   ·rw [D4 (by rw [<- hA1,D5]; exact hSl),List.range_succ,List.flatMap_append,List.flatMap_singleton,L9,L9]
   ·rw [<- hA1];exact (g.trans (Gw.put (P:=fun t=>t=S.length) st rfl _)).trans (Gw.put (P:=fun t=>t=S.length) _ rfl _))
  ⟨_,_,rfl,by rw [List.range_zero,List.flatMap_nil,F9,D7 (O8 _),N4]; rfl,Gw.refl _ _⟩
 rw [<- Q4a tsV [] rs] at e2;rw [E5] at q;have g':Gw (fun _=>False) S S':=((Gw.add (fun t=>t=S.length) S _).trans g).mono fun t ht z=>by omega
 exact (Zk (show y8 [some (qV xs rs ks),none,none,none,none] S=_ from Qb (Qj (Q7 rfl rfl rfl)) (Qb (Qj (Yv (Yu (Q9b rfl (by rw [O1]; omega)) e1))) (Qb (Zj (Q9b (Q7 rfl rfl rfl) (by rw [O1]; omega)) e2) (Zy rfl))))).trans (Q05 g' q (O8 _) (Qi6 _))
structure Mv4 where
 t:Int
 i:Int
 j:Int
 k:Int
variable {ms:List Mv4}
def mvI (m:Mv4):List Int:=[m.t,m.i,m.j,m.k]
def mvV (m:Mv4):PV:=Xx (mvI m)
def InN (n:Nat) (m:Mv4):Prop:=(0<=m.i/\m.i < n)/\0<=m.j/\m.j < n
theorem ye (S:Q0) (c:Cell):(S ++ [c])[S.length]?=some c:=by rw [D7 (O8 _),N4]; rfl
theorem Qdg (S:Q0) (a b:Nd):oNe S (ndV a) (ndV b)=.ok (.bl (!decide (a=b))) S:=by
 rw [<- Qcx];cases a <;> cases b <;> rfl
structure WOk (n r:Nat) (w:Wy):Prop where
 h:∃ b,w.2.1=some b/\b.1 < n/\b.2<=r/\(w.1=none\/∃ a,w.1=some a/\a.1 < n/\a.2 < r/\b.2=a.2 + 1)
theorem Qbd (Q:Qok xs rs ks):∀ w∈wsQ xs rs,WOk xs.length rs.length w:=by
 intro w hw;unfold wsQ at hw;rcases D0.mp hw with hw | hw
 ·unfold wsp at hw;obtain ⟨h,hh,rfl⟩:=D8.mp hw;exact ⟨_,rfl,G9.mp hh,Nat.zero_le _,.inl rfl⟩
 ·obtain ⟨t,ht,hw⟩:=List.mem_flatMap.mp hw;have ht:=G9.mp ht;rcases D0.mp hw with hw | hw
  ·unfold wst at hw;obtain ⟨h,hh,rfl⟩:=D8.mp hw;exact ⟨_,rfl,G9.mp hh,ht,.inr ⟨_,rfl,G9.mp hh,ht,rfl⟩⟩
  ·unfold wrd at hw;obtain ⟨z,hz,rfl⟩:=D8.mp hw;have:rs.getD t []∈rs:=by rw [O3,O2 ht]; exact F5 _
   obtain ⟨⟨h1,h2,_⟩,_⟩:=(Q.rb _ this).ok z hz;exact ⟨_,rfl,h2,ht,.inr ⟨_,rfl,h1,ht,rfl⟩⟩
theorem Qje (Q:Qok xs rs ks):∃ k,k < (wsQ xs rs).length/\((wsQ xs rs).getD k wy0).1=none:=by
 have h1:=Q.x1;have hl:(wsp xs).length=xs.length:=by unfold wsp; rw [O1,E5]
 refine ⟨0,by unfold wsQ; rw [O4]; omega,?_⟩;unfold wsQ;rw [O3,O5 (by omega)];unfold wsp;rw [E8,List.getElem?_range h1]; rfl
def mvO (z:Wy × Int):Option Mv4:=match z.1.1,z.1.2.1 with
 | some a,some b=>if a.1≠b.1/\0 < z.2 then some ⟨a.2,a.1,b.1,z.2⟩ else none
 | _,_=>none
def mvs (ws:List Wy) (ls:List Int):List Mv4:=(ws.zip ls).filterMap mvO
theorem Qdh (hl:ws.length<=500) (hw:∀ w∈ws,w.2.1≠none) (hL:S[Ld]?=some (.lst (ls.map .int))):U9 [.lst (ws.map wyV),.ref Ld] S=.ok (.lst ((mvs ws ls).map mvV)) S:=by
 have hLl:=(O0.mp hL).1;obtain ⟨Γ',S',e,a3,a4,rfl,q,g⟩:=Q2y (g:=fun z:Wy × Int=>PV.tup [wyV z.1,.int z.2]) (xs:=ws.zip ls) (ga:=Jr (Qf (Q5 3) (Qf (Q5 4) Js))) (body:=Xu) (w:=[] ++ [(Ld,.lst (ls.map .int))]) (Γ:=[some (.lst (ws.map wyV)),some (.ref Ld),some (.ref S.length),none,none]) (st:=S ++ [.lst []])
  (fun pre Γ st=>∃ a3 a4,Γ=[some (.lst (ws.map wyV)),some (.ref Ld),some (.ref S.length),a3,a4]/\st[S.length]?=some (.lst ((pre.filterMap mvO).map mvV))/\Gw (fun t=>t=S.length) (S ++ [.lst []]) st)
  (fun pre Γ st ⟨_,_,_,_,g⟩=>g.w (xr (by rw [O5 hLl]; exact hL)) fun x hx=>by
   have:x=(Ld,.lst (ls.map .int)):=by simpa using hx
   rw [this];show ¬ Ld=S.length;omega)
  (fun pre z post Γ st hz ⟨a3,a4,hΓ,q,g⟩=>by
   subst hΓ;have hzm:z.1∈ws:=(List.of_mem_zip (show (z.1,z.2)∈ws.zip ls by rw [hz]; simp)).1;have hpl:(pre.filterMap mvO).length<=500:=by
    have h1:=List.length_filterMap_le mvO pre;have h2:=congrArg List.length hz;rw [O4,List.length_zip] at h2;omega
   have hSl:S.length < st.length:=(O0.mp q).1;have fm:(pre ++ [z]).filterMap mvO=pre.filterMap mvO ++ (mvO z).toList:=by rw [List.filterMap_append]; cases h:mvO z <;> simp [List.filterMap_cons,h]
   obtain ⟨⟨u,v,c⟩,l⟩:=z;have same:∀ {T:MT},T [some (.lst (ws.map wyV)),some (.ref Ld),some (.ref S.length),some (wyV (u,v,c)),some (.int l)] st=.ok false st->mvO ((u,v,c),l)=none->∀ {B:MS},∃ Γ1,Jr (Qf (Q5 3) (Qf (Q5 4) Js)) (.tup [wyV (u,v,c),.int l]) [some (.lst (ws.map wyV)),some (.ref Ld),some (.ref S.length),a3,a4]=some Γ1/\∃ Γ2 st2,Yy T B Zd Γ1 st=.nx Γ2 st2 /\
     ∃ a3 a4,Γ2=[some (.lst (ws.map wyV)),some (.ref Ld),some (.ref S.length),a3,a4]/\st2[S.length]?=some (.lst (((pre ++ [((u,v,c),l)]).filterMap mvO).map mvV))/\Gw (fun t=>t=S.length) (S ++ [.lst []]) st2:=fun h1 h2=>⟨_,rfl,_,_,X2 h1 rfl,_,_,rfl,by rw [fm,h2,Option.toList_none,F9]; exact q,g⟩
   cases u with
   | none=>exact same (Q9e (J9 (Q7 (Q7 rfl rfl rfl) rfl (Qdg st none none)))) rfl
   | some a=>
    cases v with
    | none=>exact absurd rfl (hw _ hzm)
    | some b=>
     have c1:=J9 (Γ:=[some (.lst (ws.map wyV)),some (.ref Ld),some (.ref S.length),some (wyV (some a,some b,c)),some (.int l)]) (Q7 (a:=mOp oIx (Q3 3) (mC (.int 0))) (b:=mC (.str "spring")) (Q7 rfl rfl rfl) rfl (Qdg st (some a) none));have c2:Vf (toB (mOp oNe (mOp oIx (mOp oIx (Q3 3) (mC (.int 0))) (mC (.int 0))) (mOp oIx (mOp oIx (Q3 3) (mC (.int 1))) (mC (.int 0))))) (toB (mOp (oI fun a b=>.bl (decide (b < a))) (Q3 4) (mC (.int 0)))) [some (.lst (ws.map wyV)),some (.ref Ld),some (.ref S.length),some (wyV (some a,some b,c)),some (.int l)] st=.ok (!((a.1:Int) == (b.1:Int)) && decide (0 < l)) st:=
      Q4i (J9 (Q7 (Q7 (Q7 rfl rfl rfl) rfl rfl) (Q7 (Q7 rfl rfl rfl) rfl rfl) (Qhk st _ _))) (J9 (Q7 rfl rfl rfl))
     by_cases k:a.1≠b.1/\0 < l
     ·have hb:(!((a.1:Int) == (b.1:Int)) && decide (0 < l))=true:=by
       have:¬ (a.1:Int)=b.1:=by omega
       simp [this,k.2]
      rw [hb] at c2;have hO:mvO ((some a,some b,c),l)=some ⟨a.2,a.1,b.1,l⟩:=bN k;refine ⟨_,rfl,_,_,Q1h (Q1u c1 c2) (Ve rfl (Jb q) (Q4 (Qw (Q4 (Q7 (Q7 rfl rfl rfl) rfl rfl) (Q4 (Q7 (Q7 rfl rfl rfl) rfl rfl) (Q4 (Q7 (Q7 rfl rfl rfl) rfl rfl) (Q4 rfl rfl)))) (show 4<=1000000 by decide)) rfl) (V6 q (by rw [O1]; omega) _)),_,_,rfl,?_,g.trans (Gw.put (P:=fun t=>t=S.length) st rfl _)⟩;rw [D4 hSl,fm,hO,E3]; rfl
     ·have hb:(!((a.1:Int) == (b.1:Int)) && decide (0 < l))=false:=by
       by_cases k1:a.1=b.1
       ·simp [k1]
       ·have:¬ 0 < l:=fun z=>k ⟨k1,z⟩
        simp [this]
      rw [hb] at c2;exact same (Q1u c1 c2) (bO k))
  ⟨_,_,rfl,by rw [D7 (O8 _),N4]; rfl,Gw.refl _ _⟩
 have hz:(ws.zip ls).map (fun z:Wy × Int=>PV.tup [wyV z.1,.int z.2])=Xa (ws.map wyV) (ls.map .int):=by
  rw [jg,List.zip_map,F4]; rfl
 rw [hz] at e;have g':Gw (fun _=>False) S S':=((Gw.add (fun t=>t=S.length) S _).trans g).mono fun t ht z=>by omega
 have zp:Q2a (Q1 (Q3 0) (Q1 (Q3 1) Q6)) [some (.lst (ws.map wyV)),some (.ref Ld),some (.ref S.length),none,none] (S ++ [.lst []])=.ok (Xa (ws.map wyV) (ls.map .int),[] ++ [(Ld,.lst (ls.map .int))]) (S ++ [.lst []]):=by
  unfold Q2a;rw [Q4 rfl (Q4 rfl rfl),Qk];show (match Zv (S ++ [Cell.lst []]) (.lst (ws.map wyV)),Zv (S ++ [Cell.lst []]) (.ref Ld) with | some (xs,w),some (ys,w')=>if xs.length<=lim then Res.ok (Xa xs ys,w ++ w') (S ++ [Cell.lst []]) else .stuck | _,_=>.stuck)=_
  rw [Kx (show (S ++ [Cell.lst []])[Ld]?=some (.lst (ls.map .int)) by rw [O5 hLl]; exact hL)];show (if (ws.map wyV).length<=lim then Res.ok (Xa (ws.map wyV) (ls.map PV.int),[] ++ [(Ld,Cell.lst (ls.map PV.int))]) (S ++ [Cell.lst []]) else .stuck)=_;rw [bN (by rw [O1,Za]; omega)]
 exact (Zk (show j4 [some (.lst (ws.map wyV)),some (.ref Ld),none,none,none] S=_ from Qb (Qj (Yv rfl)) (Qb (Zj zp e) (Zy rfl)))).trans (Q05 g' q (O8 _) (by simp [J0,mvV,Xx]))
def allN:List Nd:=none :: (List.range 4).flatMap fun h=>(List.range 5).map fun t=>some (h,t)
theorem Qfj:allN.length=21:=by decide
theorem Qsd (v:Nd):hkV (ndK v)=ndV v:=by cases v <;> rfl
def ndI (v:Nd):List Int:=match v with
 | none=>[]
 | some z=>[(z.1:Int),(z.2:Int)]
theorem Q7n (Q:Qok xs rs ks) (t:FT (wsQ xs rs) ls F):(∀ v∈kys F,v=none\/∃ z,v=some z/\z.1 < xs.length/\z.2<=rs.length)/\F.length<=21:=by
 have h1:=Q.x4;have h2:=Q.r4;have key:∀ v∈kys F,v=none\/∃ z,v=some z/\z.1 < xs.length/\z.2<=rs.length:=fun v hv=>by
  rcases t.ends v hv with h | ⟨k,hk,h⟩
  ·exact .inl h
  ·have hm:(wsQ xs rs).getD k wy0∈wsQ xs rs:=by rw [O3,O2 hk]; exact F5 hk
   obtain ⟨b,e1,e2,e3,e4⟩:=(Qbd Q _ hm).h;rcases h with h | h
   ·rcases e4 with e4 | ⟨a,e5,e6,e7,_⟩
    ·exact .inl (h.symm.trans e4)
    ·exact .inr ⟨a,h.symm.trans e5,e6,by omega⟩
   ·exact .inr ⟨b,h.symm.trans e1,e2,e3⟩
 refine ⟨key,?_⟩;have h:=qa (m:=allN) t.nd fun v hv=>by
  rcases key v hv with rfl | ⟨z,rfl,e1,e2⟩
  ·exact D1
  ·exact O7 _ (List.mem_flatMap.mpr ⟨z.1,G9.mpr (by omega),D8.mpr ⟨z.2,G9.mpr (by omega),rfl⟩⟩)
 rw [O1,Qfj] at h;exact h
theorem Qfi (Q:Qok xs rs ks) (J:List Int->List Int->Int->Prop) (hJ0:J [] ((wsQ xs rs).map fun _=>0) 0) (hJ1:∀ (svs ls:List Int) (sv a:Int) (F:Fd) (ns:List Nd) (ss:List (Nat × Bool)) (t:Tr),ks[svs.length]?=some t->ls.length=(wsQ xs rs).length->J svs ls sv->FT (wsQ xs rs) ls F->Pt (wsQ xs rs) ls F (some (t.1.2,t.1.1)) ns ss->1<=a->(∀ s∈ss,a<=room (wsQ xs rs) ls s)->a<=t.2 - sv->J svs (push a ls ss) (sv + a)) (hJ2:∀ (svs ls:List Int) (sv:Int) (F:Fd) (t:Tr),ks[svs.length]?=some t->ls.length=(wsQ xs rs).length->J svs ls sv->sv<=t.2->FT (wsQ xs rs) ls F->(∀ u∈kys F,Cld (wsQ xs rs) ls F u)->(sv=t.2\/some (t.1.2,t.1.1)∉kys F)->J (svs ++ [sv]) ls 0) (S:Q0):∃ svs ls F,Yd [qV xs rs ks] S=.ok (.tup [.lst (svs.map .int),.lst ((mvs (wsQ xs rs) ls).map mvV),.lst ((Vw (((kys F).filter fun v=>!decide (v=none)).map ndI)).map Xx)]) S/\svs.length=ks.length/\ls.length=(wsQ xs rs).length/\J svs ls 0/\FT (wsQ xs rs) ls F/\∀ u∈kys F,Cld (wsQ xs rs) ls F u:=by
 have wl:=Q85 Q;have sp:=Qje Q;have k5:=Q.k5;obtain ⟨ws,hws⟩:∃ ws,wsQ xs rs=ws:=⟨_,rfl⟩;have ew:=Qfn Q S;have wo:=Qbd Q;rw [hws] at wl sp ew hJ0 wo;obtain ⟨A1,hA1⟩:∃ A1,S ++ [Cell.lst ((ws.map fun _=>(0:Int)).map .int)]=A1:=⟨_,rfl⟩
 have c1:=Jn (ga:=Q5 0) (me:=Kn) (w:=[]) (Γ0:=[none]) (st:=S) (g:=wyV) (f:=fun _=>PV.int 0) (Qv _) (ys:=ws) fun w _=>⟨_,rfl,rfl⟩
 have c1':ws.map (fun _:Wy=>PV.int 0)=(ws.map fun _=>(0:Int)).map .int:=by rw [F4]; rfl
 rw [c1'] at c1;have L1:A1[S.length]?=some (.lst ((ws.map fun _=>(0:Int)).map .int)):=by rw [<- hA1,D7 (O8 _),N4]; rfl
 obtain ⟨out,A2,e2,svs,ls,hout,hsl,hll,hj,L2,g2⟩:=Q35 (g:=trV) (xs:=ks) (ga:=Q5 0) (me:=Km) (w:=[]) (Γ0:=[none,some (.lst (ws.map wyV)),some (.ref S.length)]) (st:=A1)
  (fun i out st'=>∃ svs ls:List Int,out=svs.map .int/\svs.length=i/\ls.length=ws.length/\J svs ls 0/\st'[S.length]?=some (.lst (ls.map .int))/\Gw (fun t=>t=S.length) A1 st')
  (fun _ _ _ _=>Qv _)
  (fun i t out st' hx ⟨svs,ls,ho,hs,hl',hj,hL,g⟩=>by
   subst hs;have htk:=Q.kb t (F3 hx);obtain ⟨S2,ls2,sv,F2,e,k1,k2,k3,k4,k5,k6,k7,k8⟩:=Qc0 wl sp (Ld:=S.length) (t:=t) (fun l s=>J svs l s) (fun ls sv a F ns ss h1 h2 h3 h4 h5 h6 h7=>by
    subst hws;exact hJ1 svs ls sv a F ns ss t hx h1 h2 h3 h4 h5 h6 h7) ⟨by have:=htk.2.2.1; omega,htk.2.2.2⟩ hl' hj hL
   refine ⟨_,rfl,.int sv,S2,Qp (n:=3) (Q4 rfl (Q4 rfl (Q4 rfl rfl))) rfl e,svs ++ [sv],ls2,by rw [ho,E3]; rfl,by rw [O4]; rfl,k2,?_,k4,g.trans k8⟩;subst hws;exact hJ2 svs ls2 sv F2 t hx k2 k3 k1 k5 k6 k7)
  ⟨[],ws.map fun _=>0,rfl,rfl,O1 _,hJ0,L1,Gw.refl _ _⟩
 subst hout;obtain ⟨A3,D,F,e3,d3,t3,cl3,g3,hD⟩:=j2 wl hll sp L2;have few:=(by subst hws; exact Q7n Q t3:(∀ v∈kys F,v=none\/∃ z,v=some z/\z.1 < xs.length/\z.2<=rs.length)/\F.length<=21);have hDl:D < A3.length:=(O0.mp d3).1;have hSl:S.length < A2.length:=(O0.mp L2).1;have hks:(J8 stV F).map (fun kv=>hkV kv.1)=(kys F).map ndV:=by
  unfold J8;rw [F4,F4];exact G8 fun x _=>Qsd x.1
 have hky:Q2v (fun kv=>hkV kv.1) A3 (.ref D)=some ((kys F).map ndV,D,J8 stV F):=by
  show (match A3[D]? with | some (.dtp kvs)=>some (kvs.map (fun kv:HK × PV=>hkV kv.1),D,kvs) | _=>none)=_
  rw [d3];show some ((J8 stV F).map (fun kv=>hkV kv.1),D,J8 stV F)=_;rw [hks]
 obtain ⟨A4,hA4⟩:∃ A4,A3.set D (.frt (J8 stV F))=A4:=⟨_,rfl⟩;have wd:wOk [(D,.frt (J8 stV F))] A4:=fun x hx=>by
  have:x=(D,.frt (J8 stV F)):=by simpa using hx
  rw [this,<- hA4];exact D4 hDl
 have c4:=Q34 (ga:=Q5 0) (mt:=Xz) (me:=Kk) (w:=[(D,.frt (J8 stV F))]) (Γ0:=[none]) (st:=A4) (g:=ndV) (f:=ndV) (t:=fun v=>!decide (v=none)) wd (ys:=kys F) fun v _=>⟨_,rfl,J9 (Q7 rfl rfl (Qdg A4 v none)),fun _=>rfl⟩
 have hi:j9 (Qe 2 Yc (Q1 (Q3 1) (Q1 (Q3 2) Q6))) [some (qV xs rs ks),some (.lst (ws.map wyV)),some (.ref S.length),some (.lst (svs.map .int)),none] A2=.ok ((kys F).map ndV,[(D,.frt (J8 stV F))]) A4:=by
  unfold j9;rw [Qp (n:=2) (Q4 rfl (Q4 rfl rfl)) rfl e3,Qk,hky];show (if ((kys F).map ndV).length<=lim then Res.ok ((kys F).map ndV,[(D,Cell.frt (J8 stV F))]) (A3.set D (.frt (J8 stV F))) else .stuck)=_;rw [bN (by rw [O1,O1,Za]; omega),hA4]
 have hfl:∀ v∈(kys F).filter (fun v=>!decide (v=none)),v≠none:=fun v hv=>by simpa using (List.mem_filter.mp hv).2
 have hty:∀ (l:List Nd),(∀ v∈l,v≠none)->Q0h (l.map ndV)=some (l.map ndI):=by
  intro l
  induction l with
  | nil=>intro _; rfl
  | cons v l ih=>
   intro h;have:=ih fun x hx=>h x (O7 _ hx)
   cases v with
   | none=>exact absurd rfl (h none D1)
   | some z=>
    show (Q0h (l.map ndV)).map (ndI (some z) :: ·)=_;rw [this]; rfl
 have so:Q1q A4 [.lst (((kys F).filter fun v=>!decide (v=none)).map ndV)]=.ok (.lst ((Vw (((kys F).filter fun v=>!decide (v=none)).map ndI)).map Xx)) A4:=by
  unfold Q1q;simp only [Q7h,hty _ hfl];rw [bN];rw [O1];have:=List.length_filter_le (fun v=>!decide (v=none)) (kys F)
  rw [O1] at this;omega
 have g4:Gw (fun t=>t=D) A3 A4:=by rw [<- hA4]; exact Gw.put (P:=fun t=>t=D) A3 rfl _
 have L4:A4[S.length]?=some (.lst (ls.map .int)):=g4.at (g3.at L2 id) (by show ¬ S.length=D; omega);have em:=Qdh wl (fun w hw z=>by obtain ⟨b,e1,_⟩:=(wo w hw).h; rw [z] at e1; cases e1) L4
 have gS:Gw (fun _=>False) S A4:=by
  refine ⟨?_,fun t ht _=>?_⟩
  ·have h1:=g2.len;have h2:=g3.len;have h3:=g4.len;rw [<- hA1,O4] at h1;omega
  ·have h1:=g2.len;rw [g4.keep t (by have:=g3.len; omega) (by omega),g3.keep t (by omega) id,g2.keep t (by rw [<- hA1,O4]; omega) (by omega),<- hA1];exact O5 ht
 refine ⟨svs,ls,F,?_,hsl,by rw [hws]; exact hll,hj,by rw [hws]; exact t3,by rw [hws]; exact cl3⟩;rw [hws];have hst:Xn [some (qV xs rs ks),none,none,none,none] S=.rt (.tup [.lst (svs.map .int),.lst ((mvs ws ls).map mvV),.lst ((Vw (((kys F).filter fun v=>!decide (v=none)).map ndI)).map Xx)]) A4:=
  Qb (Qj (Qp (n:=1) (Q4 rfl rfl) rfl ew)) (Qb (Qj (Yv (Yu (Vv rfl rfl (by rw [O1]; omega)) c1))) (Qb (Qj (qx (Yu (Vv (Q7 rfl rfl rfl) rfl (by rw [O1]; omega)) (by rw [hA1]; exact e2)))) (Qb (Qj (Jp (Q4 (qx (Yu hi c4)) rfl) so)) (Zy (Qw (Q4 rfl (Q4 (Qp (n:=2) (Q4 rfl (Q4 rfl rfl)) rfl em) (Q4 rfl rfl))) (show 3<=1000000 by decide))))))
 refine (Zk hst).trans ?_;unfold fin;rw [bN (Qcp gS),Q04 (m:=12) (by simp [J0,mvV,Xx]) (by decide)]; rfl
theorem Qjd {a b:ME} {xs ys:List PV} {w w':Wt} (h1:a Γ S=.ok p S) (h2:b Γ S=.ok q S) (h3:Zv S p=some (xs,w)) (h4:Zv S q=some (ys,w')) (hl:xs.length<=1000000):Q2a (Q1 a (Q1 b Q6)) Γ S=.ok (Xa xs ys,w ++ w') S:=by
 unfold Q2a;rw [Q4 h1 (Q4 h2 rfl),Qk];show (match Zv S p,Zv S q with | some (xs,w),some (ys,w')=>if xs.length<=lim then Res.ok (Xa xs ys,w ++ w') S else .stuck | _,_=>.stuck)=_
 rw [h3,h4];show (if xs.length<=lim then Res.ok (Xa xs ys,w ++ w') S else .stuck)=_;rw [bN (by rw [Za]; exact hl)]
theorem Qu3 {β:Type} (f:α->PV) (g:β->PV) (xs:List α) (ys:List β):Xa (xs.map f) (ys.map g)=(xs.zip ys).map fun z=>.tup [f z.1,g z.2]:=by
 rw [jg,List.zip_map,F4]; rfl
theorem Qdx {xs:List PV} (h1:m Γ S=.ok p S) (h2:Ye S p=some xs):j8 m Γ S=.ok xs S:=by
 unfold j8;rw [h1,Qk,h2]
theorem Qsu (S:Q0) (a b:Nat):oEq S (.int (a:Int)) (.int (b:Int))=.ok (.bl (decide (a=b))) S:=by
 rw [Qhm]
 by_cases h:a=b
 ·subst h; simp
 ·have:¬ (a:Int)=b:=by omega
  simp [h,this]
theorem Qj5 {t:Int} (h:0<=t/\t < rs.length) (S:Q0):oIx S (.tup (rs.map tsV)) (.int t)=.ok (tsV (rs.getD t.toNat [])) S:=by
 obtain ⟨k,rfl⟩:∃ k:Nat,t=k:=⟨t.toNat,by omega⟩;show okO S (atI (rs.map tsV) (k:Int))=_;rw [Uq tsV [] rs (by omega),Int.toNat_natCast]; rfl
theorem Qk0 (h1:1<=xs.length) (h6:xs.length<=6) (hb:∀ x∈xs,0<=x/\x<=1000000) (st:Q0):Y4 [.tup (xs.map .int)] st=.ok (.bl true) st:=by
 have:=Qbq (zs:=xs.map fun x=>(.int x,true)) (st:=st) (by rw [O1]; exact h1) (by rw [O1]; exact h6) (fun z hz=>by
  obtain ⟨x,hx,rfl⟩:=D8.mp hz;have hbx:=hb x hx;have:=Xt x 0 1000000 st;rw [show (decide ((0:Int)<=x) && decide (x<=1000000))=true by simp; omega] at this;exact this)
 rw [F4,F4] at this;rw [show xs.map PV.int=xs.map (Prod.fst ∘ fun x=>(PV.int x,true)) from rfl,this]
 congr 2;rw [List.all_map,M5];intro x _;rfl
theorem Qjm (h:TsOk n ts) (st:Q0):Qi [.int n,tsV ts] st=.ok (.bl true) st:=by
 have:=Qn1 h.ok (by have:=h.len; omega) st;rw [Q8h h.inc] at this;exact this
theorem Qm4 (hl:rs.length<=10) (h:∀ ts∈rs,TsOk n ts) (st:Q0):Qt [.int n,.tup (rs.map tsV)] st=.ok (.bl true) st:=by
 have:=Qgy (n:=n) (zs:=rs.map fun ts=>(tsV ts,true)) (st:=st) (by rw [O1]; exact hl) (fun z hz=>by
  obtain ⟨ts,hts,rfl⟩:=D8.mp hz;exact Qjm (h ts hts) st)
 rw [F4,F4] at this;rw [show rs.map tsV=rs.map (Prod.fst ∘ fun ts=>(tsV ts,true)) from rfl,this]
 congr 2;rw [List.all_map,M5];intro x _;rfl
theorem Qjr {r:Nat} {t:Tr} (h:Qis n r t) (st:Q0):Zp [.int n,.int r,trV t] st=.ok (.bl true) st:=by
 obtain ⟨h1,h2,h3,h4⟩:=h;have e1:=Xt (t.1.2:Int) 0 ((n:Int) - 1) st;have e2:=Xt (t.1.1:Int) 0 r st;have e3:=Xt t.2 1 1000000 st;rw [show (decide ((0:Int)<=(t.1.2:Int)) && decide ((t.1.2:Int)<=(n:Int) - 1))=true by simp; omega] at e1;rw [show (decide ((0:Int)<=(t.1.1:Int)) && decide ((t.1.1:Int)<=(r:Int)))=true by simp; omega] at e2;rw [show (decide ((1:Int)<=t.2) && decide (t.2<=1000000))=true by simp; omega] at e3;exact Qft e1 e2 e3
theorem Qjq {r:Nat} (h:∀ t∈ks,Qis n r t) (hl:ks.length<=20) (st:Q0):Jt [.int n,.int r,.tup (ks.map trV)] st=.ok (.bl true) st:=by
 have:=Q6s (n:=n) (r:=r) (zs:=ks.map fun t=>(trV t,true)) (st:=st) (by rw [O1]; exact hl) (fun z hz=>by
  obtain ⟨t,ht,rfl⟩:=D8.mp hz;exact Qjr (h t ht) st)
 rw [F4,F4] at this;rw [show ks.map trV=ks.map (Prod.fst ∘ fun t=>(trV t,true)) from rfl,this]
 congr 2;rw [List.all_map,M5];intro x _;rfl
theorem Qr3 (q:Qok xs rs ks) (st:Q0):Zc [qV xs rs ks] st=.ok (.bl true) st:=by
 have h1:=Qk0 q.x1 (by have:=q.x4; omega) q.xb st;have h2:=Qm4 (by have:=q.r4; omega) q.rb st;have h3:=Qjq q.kb (by have:=q.k5; omega) st;refine Qkt h1 ?_ ?_
 ·rw [O1]; exact h2
 ·rw [O1,O1]; exact h3
theorem Qf2 {m:MS} {Γ':Gam} (h:m (ps.map some ++ List.replicate (nl - ps.length) none) S=.nx Γ' S):Qn m nl ps S=.ok .non S:=by unfold Qn; rw [h]; exact Qic S
theorem Q5r (q:Qok xs rs ks) (S:Q0):Ji [qV xs rs ks] S=.ok .non S:=
 Qf2 (m:=Vb) (nl:=1) (X2 (Qn3 (J9 (Qp (n:=1) (Q4 rfl rfl) rfl (Qr3 q S)))) rfl)
theorem Qij (Q:Qok xs rs ks) (J:List Int->List Int->Int->Prop) (hJ0:J [] ((wsQ xs rs).map fun _=>0) 0) (hJ1:∀ (svs ls:List Int) (sv a:Int) (F:Fd) (ns:List Nd) (ss:List (Nat × Bool)) (t:Tr),ks[svs.length]?=some t->ls.length=(wsQ xs rs).length->J svs ls sv->FT (wsQ xs rs) ls F->Pt (wsQ xs rs) ls F (some (t.1.2,t.1.1)) ns ss->1<=a->(∀ s∈ss,a<=room (wsQ xs rs) ls s)->a<=t.2 - sv->J svs (push a ls ss) (sv + a)) (hJ2:∀ (svs ls:List Int) (sv:Int) (F:Fd) (t:Tr),ks[svs.length]?=some t->ls.length=(wsQ xs rs).length->J svs ls sv->sv<=t.2->FT (wsQ xs rs) ls F->(∀ u∈kys F,Cld (wsQ xs rs) ls F u)->(sv=t.2\/some (t.1.2,t.1.1)∉kys F)->J (svs ++ [sv]) ls 0) (S:Q0):∃ svs ls F,Kv [qV xs rs ks] S=.ok (.tup [.int svs.sum,.tup [.lst ((mvs (wsQ xs rs) ls).map mvV),.lst (svs.map .int)],.lst ((Vw (((kys F).filter fun v=>!decide (v=none)).map ndI)).map Xx)]) S/\svs.length=ks.length/\ls.length=(wsQ xs rs).length/\J svs ls 0/\FT (wsQ xs rs) ls F/\∀ u∈kys F,Cld (wsQ xs rs) ls F u:=by
 obtain ⟨svs,ls,F,e,h⟩:=Qfi Q J hJ0 hJ1 hJ2 S;refine ⟨svs,ls,F,?_,h⟩;have hst:Q7b [some (qV xs rs ks),none] S=.rt (.tup [.int svs.sum,.tup [.lst ((mvs (wsQ xs rs) ls).map mvV),.lst (svs.map .int)],.lst ((Vw (((kys F).filter fun v=>!decide (v=none)).map ndI)).map Xx)]) S:=
  Qb (Qej (Qp (n:=1) (Q4 rfl rfl) rfl (Q5r Q S))) (Qb (Qj (Qp (n:=1) (Q4 rfl rfl) rfl e)) (Zy (Qw (Q4 (Jp (Q4 (Q7 rfl rfl rfl) rfl) (qg _ _ _)) (Q4 (Qw (Q4 (Q7 rfl rfl rfl) (Q4 (Q7 rfl rfl rfl) rfl)) (G6 rfl)) (Q4 (Q7 rfl rfl rfl) rfl))) (G6 rfl))))
 exact (Zk hst).trans (ym (by simp [J0,mvV,Xx]))
theorem Q68 {α:Type} (p:α->Bool) (f:α->Int):∀ l:List α,((l.filter p).map f).sum=(l.map fun x=>if p x=true then f x else 0).sum
 | []=>rfl
 | x :: l=>by
  rw [List.filter_cons,D9,M6,<- Q68 p f l]
  split
  ·rw [D9,M6]
  ·omega
theorem q_n (S:Q0):Y0 S [.tup (xs.map .int)]=.ok (.int xs.length) S:=by simp
theorem q_r (S:Q0):Y0 S [.tup (rs.map tsV)]=.ok (.int rs.length) S:=by simp
theorem Qcw (y:Nat × Nat) (a b:Nat):peq (rdV y) (.tup [.int a,.int b])=decide ((a,b)=y):=by
 unfold rdV;rw [peq,Bool.eq_iff_iff];simp only [peqL,peq,Bool.and_true,L8,beq_iff_eq,decide_eq_true_eq];constructor
 ·intro h; exact Prod.ext (by simp; omega) (by simp; omega)
 ·intro h; cases h; simp
theorem Q91 {V:PV} (hV:ListAt S V (c.map rdV)) (a b:Nat) (neg:Bool):oIn neg S (.tup [.int a,.int b]) V=.ok (.bl (decide ((a,b)∈c) != neg)) S:=by
 have hq:Ye S V=some (c.map rdV):=by
  rcases hV with rfl | rfl | ⟨i,rfl,e⟩
  ·rfl
  ·rfl
  ·rw [jm,e]
 have g2:(c.map rdV).all (J0 dep)=true:=by simp [J0,dep,rdV]
 have g1:J0 dep (.tup [.int (a:Int),.int b])=true:=rfl;have hd:der S (.tup [.int (a:Int),.int b])=.tup [.int a,.int b]:=rfl;have ha:((c.map rdV).any fun y=>peq y (.tup [.int a,.int b]))=decide ((a,b)∈c):=by
  rw [List.any_map,Bool.eq_iff_iff,List.any_eq_true,decide_eq_true_iff];constructor
  ·rintro ⟨y,hy,e⟩;have e:peq (rdV y) (.tup [.int a,.int b])=true:=e;rw [Qcw,decide_eq_true_eq] at e;rw [e]; exact hy
  ·intro h;exact ⟨_,h,by show peq (rdV (a,b)) (.tup [.int a,.int b])=true; rw [Qcw,decide_eq_true_eq]⟩
 unfold oIn;rw [hq,hd];simp only [g1,g2,and_self,if_true,ha]
def wA (xs:List Int) (c:List (Nat × Nat)):Int:=Yh xs.length fun h=>if (h,0)∈c then 0 else xs.getD h 0
def wR (c:List (Nat × Nat)) (t:Nat) (ts:List Tr):Int:=(ts.map fun z=>if (z.1.1,t)∈c/\(z.1.2,t + 1)∉c then z.2 else 0).sum
def wB (rs:List (List Tr)) (c:List (Nat × Nat)):Int:=Yh rs.length fun t=>wR c t (rs.getD t [])
def wC (ks:List Tr) (c:List (Nat × Nat)):Int:=(ks.map fun z=>if (z.1.2,z.1.1)∈c then z.2 else 0).sum
theorem Qqn (l:List α) (p:α->Prop) [DecidablePred p] (f:α->Int) (neg:Bool):((l.filter fun x=>decide (p x) != neg).map f).sum=(l.map fun x=>if (decide (p x) != neg)=true then f x else 0).sum:=Q68 _ _ l
theorem hcC {V:PV} {tt:MT} {ee:ME} (hV:ListAt S V (c.map rdV)) (ht:tt=toB (mOp (oIn false) (Jd (Q1 (mOp oIx (Q3 0) (mC (.int 1))) (Q1 (mOp oIx (Q3 0) (mC (.int 0))) Q6))) (Q3 1))) (he:ee=mOp oIx (Q3 0) (mC (.int 2))):Jg (Q5 0) tt ee [] [none,some V] (ks.map trV) S=.ok ((ks.filter fun z=>decide ((z.1.2,z.1.1)∈c) != false).map fun z=>.int z.2) S:=by
 rw [ht,he];exact Q34 _ _ _ (by simp) fun z _=>⟨_,rfl,J9 (Q7 (Qw (Q4 (Q7 rfl rfl rfl) (Q4 (Q7 rfl rfl rfl) rfl)) (by simp)) rfl (Q91 hV z.1.2 z.1.1 false)),fun _=>Q7 rfl rfl rfl⟩
theorem suC :Yg (fun ns=>some (.int ns.sum)) S [.lst ((ks.filter fun z=>decide ((z.1.2,z.1.1)∈c) != false).map fun z=>.int z.2)]=.ok (.int (wC ks c)) S:=by
 rw [Qb5,Qqn ks (fun z=>(z.1.2,z.1.1)∈c)]
 show Res.ok (PV.int _) S=_;unfold wC;congr 3;refine G8 fun z _=>?_
 by_cases a:(z.1.2,z.1.1)∈c <;> simp [a]
abbrev awG (xs:List Int) (rs:List (List Tr)) (ks:List Tr) (V:PV) (t:Int) (c6 c7 c8 c9 c10:Option PV):Gam:=[some (qV xs rs ks),some V,some (.tup (xs.map .int)),some (.tup (rs.map tsV)),some (.tup (ks.map trV)),some (.int t),c6,c7,c8,c9,c10]
theorem Q7x (q:Qok xs rs ks) {V:PV} (hV:ListAt S V (c.map rdV)):Y6 [qV xs rs ks,V] S=.ok (.int (wA xs c + wB rs c + wC ks c)) S:=by
 have x4:=q.x4;have r4:=q.r4;have k5:=q.k5;obtain ⟨Γ1,S1,f1,c6,rfl,rfl⟩:=Jm (g:=fun k:Nat=>PV.int (k:Int)) (xs:=List.range xs.length) (ga:=Q5 6) (body:=Wz) (w:=[]) (Γ:=awG xs rs ks V 0 none none none none none) (st:=S)
  (fun k Γ st=>∃ c6,Γ=awG xs rs ks V (Yh k fun h=>if (h,0)∈c then 0 else xs.getD h 0) c6 none none none none/\st=S) (fun _ _ _ _=>by simp)
  (fun k x Γ st hx ⟨c6,hΓ,hst⟩=>by
   subst hΓ; subst hst;have hk:k < xs.length:=by simpa using (O0.mp hx).1
   rw [List.getElem?_range hk] at hx;cases hx;have i1:=Q91 hV k 0 true;have ix:oIx st (.tup (xs.map .int)) (.int k)=.ok (.int (xs.getD k 0)) st:=by
    show okO st (atI (xs.map PV.int) (k:Int))=_;rw [Q0a,Sm.atI_get (Vr hk 0)]; rfl
   refine ⟨_,rfl,?_⟩
   by_cases a:(k,0)∈c
   ·rw [bQ a] at i1;refine ⟨_,_,X2 (J9 (Q7 (Qw (Q4 rfl (Q4 rfl rfl)) (by simp)) rfl i1)) rfl,some (.int k),?_,rfl⟩;rw [Jf,bN a,Int.add_zero]; rfl
   ·rw [bP a] at i1;refine ⟨_,_,Q1h (J9 (Q7 (Qw (Q4 rfl (Q4 rfl rfl)) (by simp)) rfl i1)) (Qj (Q7 rfl (Q7 rfl rfl ix) (Xv st _ _))),some (.int k),?_,rfl⟩;rw [Jf,bO a]; rfl)
  ⟨_,rfl,rfl⟩
 rw [<- Zq,E5] at f1;obtain ⟨Γ2,S2,f2,c7,c8,c9,c10,rfl,rfl⟩:=Jm (g:=fun k:Nat=>PV.int (k:Int)) (xs:=List.range rs.length) (ga:=Q5 7) (body:=Wx) (w:=[]) (Γ:=awG xs rs ks V (wA xs c) c6 none none none none) (st:=S1)
  (fun k Γ st=>∃ c7 c8 c9 c10,Γ=awG xs rs ks V (wA xs c + Yh k fun t=>wR c t (rs.getD t [])) c6 c7 c8 c9 c10/\st=S1) (fun _ _ _ _=>by simp)
  (fun k x Γ st hx ⟨c7,c8,c9,c10,hΓ,hst⟩=>by
   subst hΓ; subst hst;have hk:k < rs.length:=by simpa using (O0.mp hx).1
   rw [List.getElem?_range hk] at hx;cases hx;have ix:oIx st (.tup (rs.map tsV)) (.int k)=.ok (tsV (rs.getD k [])) st:=by
    show okO st (atI (rs.map tsV) (k:Int))=_;rw [Q0a,Sm.atI_get (Vr hk [])]; rfl
   have tl:=(q.rb _ (F3 (Vr hk []))).len;obtain ⟨ts,hts⟩:∃ ts,rs.getD k []=ts:=⟨_,rfl⟩;obtain ⟨T0,hT0⟩:∃ T0,(wA xs c + Yh k fun t=>wR c t (rs.getD t []))=T0:=⟨_,rfl⟩
   rw [hts] at ix tl;obtain ⟨Γ3,S3,f3,d8,d9,d10,rfl,rfl⟩:=Q2y (g:=trV) (xs:=ts) (ga:=Jr (Qf (Q5 8) (Qf (Q5 9) (Qf (Q5 10) Js)))) (body:=Ww) (w:=[]) (Γ:=awG xs rs ks V T0 c6 (some (.int k)) c8 c9 c10) (st:=st)
    (fun pre Γ st'=>∃ d8 d9 d10,Γ=awG xs rs ks V (T0 + wR c k pre) c6 (some (.int k)) d8 d9 d10/\st'=st) (fun _ _ _ _=>by simp)
    (fun pre z post Γ st' hz ⟨d8,d9,d10,hΓ,hst⟩=>by
     subst hΓ; subst hst;have i1:=Q91 hV z.1.1 k false;have i2:=Q91 hV z.1.2 (k + 1) true;have ws:wR c k (pre ++ [z])=wR c k pre + if (z.1.1,k)∈c/\(z.1.2,k + 1)∉c then z.2 else 0:=by
      unfold wR;rw [E3,List.sum_append]; simp
     have m1:toB (mOp (oIn false) (Jd (Q1 (Q3 8) (Q1 (Q3 7) Q6))) (Q3 1)) (awG xs rs ks V (T0 + wR c k pre) c6 (some (.int k)) (some (.int z.1.1)) (some (.int z.1.2)) (some (.int z.2))) st'=.ok (decide ((z.1.1,k)∈c) != false) st':=J9 (Q7 (Qw (Q4 rfl (Q4 rfl rfl)) (by simp)) rfl i1);have m2:toB (mOp (oIn true) (Jd (Q1 (Q3 9) (Q1 (mOp Qz (Q3 7) (mC (.int 1))) Q6))) (Q3 1)) (awG xs rs ks V (T0 + wR c k pre) c6 (some (.int k)) (some (.int z.1.1)) (some (.int z.1.2)) (some (.int z.2))) st'=.ok (decide ((z.1.2,k + 1)∈c) != true) st':=J9 (Q7 (Qw (Q4 rfl (Q4 (Q7 rfl rfl (Xv st' _ _)) rfl)) (by simp)) rfl i2);refine ⟨_,rfl,?_⟩
     by_cases a:(z.1.1,k)∈c
     ·rw [bQ a] at m1
      by_cases b:(z.1.2,k + 1)∈c
      ·rw [bQ b] at m2;refine ⟨_,_,X2 (Q1u m1 m2) rfl,some (.int z.1.1),some (.int z.1.2),some (.int z.2),?_,rfl⟩;rw [ws,bO (fun h=>h.2 b),Int.add_zero]; rfl
      ·rw [bP b] at m2;refine ⟨_,_,Q1h (Q1u m1 m2) (Qj (Q7 rfl rfl (Xv st' _ _))),some (.int z.1.1),some (.int z.1.2),some (.int z.2),?_,rfl⟩;rw [ws,bN ⟨a,b⟩,<- Int.add_assoc]; rfl
     ·rw [bP a] at m1;refine ⟨_,_,X2 (Q9e m1) rfl,some (.int z.1.1),some (.int z.1.2),some (.int z.2),?_,rfl⟩;rw [ws,bO (fun h=>a h.1),Int.add_zero]; rfl)
    ⟨_,_,_,by rw [show wR c k []=0 from rfl,Int.add_zero],rfl⟩
   refine ⟨awG xs rs ks V T0 c6 (some (.int k)) c8 c9 c10,by rw [hT0]; rfl,_,_,Zj (Vv (p:=tsV ts) (Q7 rfl rfl ix) rfl (by rw [O1]; omega)) f3,some (.int k),d8,d9,d10,?_,rfl⟩;rw [Jf,<- Int.add_assoc,hT0,hts])
  ⟨none,none,none,none,by rw [show Yh 0 (fun t=>wR c t (rs.getD t []))=0 from rfl,Int.add_zero],rfl⟩
 rw [<- Zq,E5] at f2;have step:U4 [some (qV xs rs ks),some V,none,none,none,none,none,none,none,none,none] S2=.rt (.int (wA xs c + wB rs c + wC ks c)) S2:=by
  refine Qb (Γ1:=[some (qV xs rs ks),some V,some (.tup (xs.map .int)),some (.tup (rs.map tsV)),some (.tup (ks.map trV)),none,none,none,none,none,none]) (Q1t rfl rfl) ?_;refine Qb (Γ1:=awG xs rs ks V 0 none none none none none) (Qj rfl) ?_;refine Qb (Zj (jq (by omega) (Jp (Q4 rfl rfl) (q_n S2))) f1) ?_;refine Qb (Zj (jq (by omega) (Jp (Q4 rfl rfl) (q_r S2))) f2) ?_;exact Zy (Q7 rfl (Jp (Q4 (qx (Yu (Vv (p:=.tup (ks.map trV)) rfl rfl (by rw [O1]; omega)) (hcC hV rfl rfl))) rfl) suC) (Xv S2 _ _))
 exact (Zk step).trans (Qid S2 _)
abbrev pl (t:Tr):Nd:=some (t.1.2,t.1.1)
def dph (φ:Nd->Int) (w:Wy):Int:=φ w.2.1 - φ w.1
def pot (g:Wy->Int):List Wy->List Int->Int
 | w :: ws,l :: ls=>l * g w + pot g ws ls
 | _,_=>0
theorem Q8p (g:Wy->Int):∀ (ws:List Wy) (ls:List Int) (k:Nat) (d:Int),ls.length=ws.length->k < ws.length->pot g ws (ls.set k (ls.getD k 0 + d))=pot g ws ls + d * g (ws.getD k wy0)
 | w :: ws,l :: ls,0,d,_,_=>by
  show (l + d) * g w + pot g ws ls=l * g w + pot g ws ls + d * g w;rw [Int.add_mul]; omega
 | w :: ws,l :: ls,k + 1,d,h,hk=>by
  have h:ls.length + 1=ws.length + 1:=h;have hk:k + 1 < ws.length + 1:=hk;have:=Q8p g ws ls k d (by omega) (by omega);show l * g w + pot g ws (ls.set k (ls.getD k 0 + d))=l * g w + pot g ws ls + d * g (ws.getD k wy0);rw [this]; omega
 | [],_,k,_,_,hk=>absurd hk (Nat.not_lt_zero _)
 | _ :: _,[],_,_,h,_=>by cases h
theorem Q6z (g c:Wy->Int):∀ (ws:List Wy) (ls:List Int) (e:Nat->Int),ls.length=ws.length->(∀ k,k < ws.length->ls.getD k 0 * g (ws.getD k wy0) + e k<=c (ws.getD k wy0))->pot g ws ls + ((List.range ws.length).map e).sum<=(ws.map c).sum
 | w :: ws,l :: ls,e,h,hk=>by
  have h:ls.length + 1=ws.length + 1:=h;have h1:=Q6z g c ws ls (fun k=>e (k + 1)) (by omega) fun k z=>hk (k + 1) (Nat.succ_lt_succ z)
  have h2:l * g w + e 0<=c w:=hk 0 (Nat.succ_pos _);rw [E7,List.range_succ_eq_map,D9,D9,M6,M6,F4];have h3:((List.range ws.length).map (e ∘ Nat.succ)).sum=((List.range ws.length).map fun k=>e (k + 1)).sum:=rfl
  rw [h3];show l * g w + pot g ws ls + _<=_;omega
 | [],ls,_,_,_=>by cases ls <;> simp [pot]
 | _ :: _,[],_,h,_=>by cases h
theorem Qui (n:Nat):((List.range n).map fun _=>(0:Int)).sum=0:=by
 induction n with
 | zero=>rfl
 | succ n ih=>rw [List.range_succ,E3,List.sum_append,ih]; rfl
theorem Qm2 (g c:Wy->Int) (ws:List Wy) (ls:List Int) (h:ls.length=ws.length) (hk:∀ k,k < ws.length->ls.getD k 0 * g (ws.getD k wy0)<=c (ws.getD k wy0)):pot g ws ls<=(ws.map c).sum:=by
 have:=Q6z g c ws ls (fun _=>0) h fun k z=>by have:=hk k z; omega
 rw [Qui] at this;omega
theorem Qcr (g c:Wy->Int):∀ (ws:List Wy) (ls:List Int),ls.length=ws.length->(∀ k,k < ws.length->ls.getD k 0 * g (ws.getD k wy0)=c (ws.getD k wy0))->pot g ws ls=(ws.map c).sum
 | w :: ws,l :: ls,h,hk=>by
  have h:ls.length + 1=ws.length + 1:=h;have h1:=Qcr g c ws ls (by omega) fun k z=>hk (k + 1) (Nat.succ_lt_succ z)
  have h2:l * g w=c w:=hk 0 (Nat.succ_pos _);rw [D9,M6];show l * g w + pot g ws ls=_;rw [h1,h2]
 | [],ls,_,_=>by cases ls <;> rfl
 | _ :: _,[],h,_=>by cases h
theorem Q70 (g:Wy->Int):∀ (ws:List Wy) (ls:List Int) (k:Nat),ls.length=ws.length->k < ws.length->(∀ k,k < ws.length->0<=ls.getD k 0 * g (ws.getD k wy0))->0<=pot g ws ls/\ls.getD k 0 * g (ws.getD k wy0)<=pot g ws ls
 | w :: ws,l :: ls,k,h,hk,hp=>by
  have h:ls.length + 1=ws.length + 1:=h;have h2:0<=l * g w:=hp 0 (Nat.succ_pos _);have h0:0<=pot g ws ls:=by
   cases ws with
   | nil=>cases ls <;> exact Int.le_refl _
   | cons w' ws=>exact (Q70 g (w' :: ws) ls 0 (by omega) (Nat.succ_pos _) fun k z=>hp (k + 1) (Nat.succ_lt_succ z)).1
  cases k with
  | zero=>exact ⟨(by omega:0<=l * g w + pot g ws ls),(by omega:l * g w<=l * g w + pot g ws ls)⟩
  | succ k=>
   have hk:k + 1 < ws.length + 1:=hk;have h1:=Q70 g ws ls k (by omega) (by omega) fun k z=>hp (k + 1) (Nat.succ_lt_succ z)
   exact ⟨(by omega:0<=l * g w + pot g ws ls),show ls.getD k 0 * g (ws.getD k wy0)<=l * g w + pot g ws ls by omega⟩
 | [],_,_,_,hk,_=>absurd hk (Nat.not_lt_zero _)
 | _ :: _,[],_,h,_,_=>by cases h
theorem Q5d (g:Wy->Int):∀ ws:List Wy,pot g ws (ws.map fun _=>0)=0
 | []=>rfl
 | w :: ws=>by
  show 0 * g w + pot g ws (ws.map fun _=>0)=0;rw [Q5d g ws]; omega
def tot (φ:Nd->Int):List Tr->List Int->Int
 | t :: ks,s :: svs=>s * (φ (pl t) - φ none) + tot φ ks svs
 | _,_=>0
theorem Q4t (φ:Nd->Int) (sv:Int):∀ (ks:List Tr) (svs:List Int) (t:Tr),ks[svs.length]?=some t->tot φ ks (svs ++ [sv])=tot φ ks svs + sv * (φ (pl t) - φ none)
 | t' :: ks,[],t,h=>by
  cases h;cases ks <;> simp [tot]
 | t' :: ks,s :: svs,t,h=>by
  have:=Q4t φ sv ks svs t h;show s * _ + tot φ ks (svs ++ [sv])=s * _ + tot φ ks svs + _;rw [this]; omega
 | [],_,_,h=>by cases h
def ClC (ws:List Wy) (ls:List Int) (C:Nd->Prop):Prop:=∀ k,k < ws.length->∀ u v,C u->oth (ws.getD k wy0) (ls.getD k 0) u=some v->C v
theorem FT.sub {C:Nd->Prop} (t:FT ws ls F) (h0:C none) (hc:ClC ws ls C):∀ v∈kys F,C v:=by
 induction t with
 | base=>intro v hv; rw [show v=none by simpa using hv]; exact h0
 | @snoc F v u k t h1 h2 h3 h4 ih=>
  intro x hx;unfold kys at hx;rw [E3] at hx;rcases D0.mp hx with hx | hx
  ·exact ih x hx
  ·rw [show x=v by simpa using hx];exact hc k h3 u v (ih u h2) h4
theorem zz (a:Int) (ls:List Int) (s:Nat × Bool) (j:Nat):(Vg a ls s).getD j 0=if s.1=j/\j < ls.length then ls.getD j 0 + (if s.2=true then a else -a) else ls.getD j 0:=by
 unfold Vg;rw [O3]
 by_cases e:s.1=j
 ·subst e
  by_cases h:s.1 < ls.length
  ·rw [D4 h]; exact (bN (c:=s.1=s.1/\s.1 < ls.length) ⟨rfl,h⟩).symm
  ·rw [L0 (by rw [D5]; omega),bO (c:=s.1=s.1/\s.1 < ls.length) (fun z=>h z.2),O3,L0 (by omega)]
 ·rw [O9 e,bO (c:=s.1=j/\j < ls.length) (fun z=>e z.1),O3]
theorem ju (a:Int) {j:Nat}:∀ (ss:List (Nat × Bool)) (ls:List Int),j∉ss.map (·.1)->(push a ls ss).getD j 0=ls.getD j 0
 | [],_,_=>rfl
 | s :: ss,ls,h=>by
  rw [D9] at h;have h1:j∉ss.map (·.1):=fun z=>h (O7 _ z)
  have:=ju a ss (Vg a ls s) h1;show (push a (Vg a ls s) ss).getD j 0=_;rw [this,zz,bO (c:=s.1=j/\j < ls.length) (fun z=>h (by rw [z.1]; exact D1))]
theorem Q8n (a:Int) {j:Nat} {b:Bool}:∀ (ss:List (Nat × Bool)) (ls:List Int),(ss.map (·.1)).Nodup->(j,b)∈ss->j < ls.length->(push a ls ss).getD j 0=ls.getD j 0 + (if b=true then a else -a)
 | s :: ss,ls,hn,h,hj=>by
  rw [D9] at hn;obtain ⟨n1,n2⟩:=L7.mp hn;show (push a (Vg a ls s) ss).getD j 0=_;rcases E2.mp h with rfl | h
  ·rw [ju a ss _ n1,zz,bN (c:=(j,b).1=j/\j < ls.length) ⟨rfl,hj⟩]
  ·rw [Q8n a ss _ n2 h (by unfold Vg; rw [D5]; exact hj),zz,bO (c:=s.1=j/\j < ls.length) (fun z=>n1 (by rw [z.1]; exact D8.mpr ⟨_,h,rfl⟩))]
theorem Pt.idx {v:Nd} (p:Pt ws ls F v ns ss):(∀ s∈ss,(ws.getD s.1 wy0).1∈v :: ns/\(ws.getD s.1 wy0).2.1∈v :: ns)/\(ss.map (·.1)).Nodup:=by
 induction p with
 | nil h=>exact ⟨fun s hs=>(by cases hs),List.nodup_nil⟩
 | @cons v u k ns ss _ h1 h2 h3 _ ih=>
  have hk:(ws.getD k wy0).1∈v :: u :: ns/\(ws.getD k wy0).2.1∈v :: u :: ns/\((ws.getD k wy0).1=v\/(ws.getD k wy0).2.1=v):=by
   rcases Xi h2 with ⟨e1,e2,_⟩ | ⟨e1,e2,_⟩ <;> rw [e1,e2] <;> simp
  refine ⟨fun s hs=>?_,L7.mpr ⟨fun z=>?_,ih.2⟩⟩
  ·rcases E2.mp hs with rfl | hs
   ·exact ⟨hk.1,hk.2.1⟩
   ·exact ⟨O7 _ (ih.1 s hs).1,O7 _ (ih.1 s hs).2⟩
  ·obtain ⟨s,hs,e⟩:=D8.mp z;have e:s.1=k:=e;have:=ih.1 s hs;rw [e] at this;rcases hk.2.2 with q | q
   ·exact h3 (by rw [<- q]; exact this.1)
   ·exact h3 (by rw [<- q]; exact this.2)
theorem Qci (φ:Nd->Int) (a:Int) {v:Nd} (p:Pt ws ls F v ns ss):∀ ms:List Int,ms.length=ws.length->pot (dph φ) ws (push a ms ss)=pot (dph φ) ws ms + a * (φ v - φ none):=by
 induction p with
 | nil h=>intro ms _; show pot _ ws ms=_; rw [Int.sub_self,Int.mul_zero,Int.add_zero]
 | @cons v u k ns ss _ h1 h2 h3 _ ih=>
  intro ms hm;show pot (dph φ) ws (push a (Vg a ms (k,decide ((ws.getD k wy0).2.1=v))) ss)=_;rw [ih _ (by unfold Vg; rw [D5]; exact hm)];have e:pot (dph φ) ws (Vg a ms (k,decide ((ws.getD k wy0).2.1=v)))=pot (dph φ) ws ms + (if decide ((ws.getD k wy0).2.1=v)=true then a else -a) * dph φ (ws.getD k wy0):=Q8p _ ws ms k _ hm h1;have e2:(if decide ((ws.getD k wy0).2.1=v)=true then a else -a) * dph φ (ws.getD k wy0)=a * (φ v - φ u):=by
   unfold dph;rcases Xi h2 with ⟨e1,e2,_⟩ | ⟨e1,e2,_⟩
   ·rw [bN (bQ e2),e1,e2]
   ·have:(ws.getD k wy0).2.1≠v:=fun z=>h3 (by rw [<- z,e1]; exact D1)
    rw [bO (by simpa using this),e1,e2,Int.neg_mul,<- Int.mul_neg,Int.neg_sub]
  rw [e,e2,Int.add_assoc,<- Int.mul_add];congr 2;omega
structure FJ (ws:List Wy) (ks:List Tr) (svs ls:List Int) (sv:Int):Prop where
 cap:∀ k,k < ws.length->0<=ls.getD k 0/\ls.getD k 0<=(ws.getD k wy0).2.2
 con:∀ φ,pot (dph φ) ws ls=tot φ ks svs + sv * (match ks[svs.length]? with | some t=>φ (pl t) - φ none | none=>0)
 nn:0<=sv
 don:∀ i t,ks[i]?=some t->i < svs.length->0<=svs.getD i 0/\svs.getD i 0<=t.2/\(svs.getD i 0=t.2\/∃ C:Nd->Prop,C none/\ClC ws ls C/\¬ C (pl t))
theorem FJ.zero (h:∀ w∈ws,0<=w.2.2):FJ ws ks [] (ws.map fun _=>0) 0:=by
 refine ⟨fun k hk=>?_,fun φ=>?_,Int.le_refl _,fun i t _ hi=>absurd hi (Nat.not_lt_zero _)⟩
 ·have e:(ws.map fun _=>(0:Int)).getD k 0=0:=by rw [O3,E8]; cases ws[k]? <;> rfl
  rw [e];refine ⟨Int.le_refl _,h _ ?_⟩;rw [O3,O2 hk]; exact F5 hk
 ·rw [Q5d];cases ks <;> simp [tot]
theorem FJ.push {ws:List Wy} {ks:List Tr} {svs ls:List Int} {sv:Int} (J:FJ ws ks svs ls sv) {a:Int} {F:Fd} {ns:List Nd} {ss:List (Nat × Bool)} {t:Tr} (ht:ks[svs.length]?=some t) (hl:ls.length=ws.length) (T:FT ws ls F) (p:Pt ws ls F (pl t) ns ss) (ha:1<=a) (hr:∀ s∈ss,a<=room ws ls s):FJ ws ks svs (push a ls ss) (sv + a):=by
 obtain ⟨i1,i2⟩:=p.idx;refine ⟨fun k hk=>?_,fun φ=>?_,by have:=J.nn; omega,fun i t' hi h=>?_⟩
 ·have c:=J.cap k hk
  by_cases q:k∈ss.map (·.1)
  ·obtain ⟨⟨k',b⟩,hs,rfl⟩:=D8.mp q;have r:=hr _ hs;rw [Q8n a ss ls i2 hs (by rw [hl]; exact hk)];unfold room at r;cases b with
   | true=>rw [bN rfl] at r ⊢; simp only at r c ⊢; omega
   | false=>rw [bO F0] at r ⊢; simp only at r c ⊢; omega
  ·rw [ju a ss ls q]; exact c
 ·rw [Qci φ a p ls hl,J.con φ,ht];simp only;rw [Int.add_mul,Int.add_assoc]
 ·obtain ⟨d1,d2,d3⟩:=J.don i t' hi h;refine ⟨d1,d2,d3.imp id fun ⟨C,c0,c1,c2⟩=>⟨C,c0,fun k hk u v hu ho=>?_,c2⟩⟩
  by_cases q:k∈ss.map (·.1)
  ·obtain ⟨s,hs,rfl⟩:=D8.mp q;have hin:=i1 s hs;have sub:=fun x hx=>T.sub c0 c1 x (p.mem x hx)
   rcases Xi ho with ⟨_,e2,_⟩ | ⟨_,e2,_⟩
   ·rw [<- e2]; exact sub _ hin.2
   ·rw [<- e2]; exact sub _ hin.1
  ·rw [ju a ss ls q] at ho;exact c1 k hk u v hu ho
theorem FJ.done {svs:List Int} {sv:Int} (J:FJ ws ks svs ls sv) {t:Tr} (ht:ks[svs.length]?=some t) (hs:sv<=t.2) (T:FT ws ls F) (hc:∀ u∈kys F,Cld ws ls F u) (h:sv=t.2\/pl t∉kys F):FJ ws ks (svs ++ [sv]) ls 0:=by
 refine ⟨J.cap,fun φ=>?_,Int.le_refl _,fun i t' hi hl=>?_⟩
 ·rw [J.con φ,ht,Q4t φ sv ks svs t ht,Int.zero_mul,Int.add_zero]
 ·rw [O4] at hl;have hl:i < svs.length + 1:=hl
  by_cases e:i=svs.length
  ·subst e;rw [ht] at hi;cases hi;rw [show (svs ++ [sv]).getD svs.length 0=sv by rw [O3,D7 (O8 _),N4]; rfl];exact ⟨J.nn,hs,h.imp id fun z=>⟨fun v=>v∈kys F,T.root,fun k hk u v hu ho=>hc u hu k hk v ho,z⟩⟩
  ·rw [show (svs ++ [sv]).getD i 0=svs.getD i 0 by rw [O3,O5 (by omega),O3]];exact J.don i t' hi (by omega)
theorem Q4x {α β:Type} (f:α->List β) (c:β->Int):∀ l:List α,((l.flatMap f).map c).sum=(l.map fun t=>((f t).map c).sum).sum
 | []=>rfl
 | a :: l=>by rw [List.flatMap_cons,E3,List.sum_append,D9,M6,Q4x f c l]
theorem Q83 (c:Wy->Int) (xs:List Int) (rs:List (List Tr)):((wsQ xs rs).map c).sum=Yh xs.length (fun h=>c (none,some (h,0),xs.getD h 0)) + Yh rs.length (fun t=>Yh xs.length (fun h=>c (some (h,t),some (h,t + 1),xs.sum)) + ((rs.getD t []).map fun z=>c (some (z.1.1,t),some (z.1.2,t + 1),z.2)).sum):=by
 unfold wsQ;rw [E3,List.sum_append,Q4x];have h1:((wsp xs).map c).sum=Yh xs.length (fun h=>c (none,some (h,0),xs.getD h 0)):=by unfold wsp Yh; rw [F4]; rfl
 rw [h1];congr 1;show ((List.range rs.length).map _).sum=((List.range rs.length).map _).sum;congr 1;refine G8 fun t _=>?_
 rw [E3,List.sum_append];unfold wst wrd Yh;rw [F4,F4];rfl
inductive WF:Wy->Prop where
 | sp (h:Nat) (m:Int):WF (none,some (h,0),m)
 | go (i j t:Nat) (m:Int):WF (some (i,t),some (j,t + 1),m)
theorem Q6j :∀ w∈wsQ xs rs,WF w:=by
 intro w hw;unfold wsQ at hw;rcases D0.mp hw with hw | hw
 ·unfold wsp at hw;obtain ⟨h,hh,rfl⟩:=D8.mp hw;exact .sp _ _
 ·obtain ⟨t,ht,hw⟩:=List.mem_flatMap.mp hw;rcases D0.mp hw with hw | hw
  ·unfold wst at hw;obtain ⟨h,hh,rfl⟩:=D8.mp hw;exact .go _ _ _ _
  ·unfold wrd at hw;obtain ⟨z,hz,rfl⟩:=D8.mp hw;exact .go _ _ _ _
theorem Q2m {g g':Wy->Int}:∀ {ws:List Wy} (ls:List Int),(∀ w∈ws,g w=g' w)->pot g ws ls=pot g' ws ls
 | w :: ws,l :: ls,h=>by
  show l * g w + pot g ws ls=l * g' w + pot g' ws ls;rw [h w D1,Q2m ls fun x hx=>h x (O7 _ hx)]
 | [],ls,_=>by cases ls <;> rfl
 | _ :: _,[],_=>rfl
theorem FJ.pos {svs:List Int} {sv:Int} (J:FJ ws ks svs ls sv) (hl:ls.length=ws.length):∀ l∈ls,0<=l:=fun l h=>by
 obtain ⟨k,hk,rfl⟩:=List.mem_iff_getElem.mp h;have:=(J.cap k (by omega)).1;rw [O3,O2 hk] at this;exact this
theorem FJ.con0 {svs:List Int} (J:FJ ws ks svs ls 0) (φ:Nd->Int):pot (dph φ) ws ls=tot φ ks svs:=by rw [J.con φ,Int.zero_mul,Int.add_zero]
theorem Q88 (hk:k < n) (f:Nat->Int):Yh n (fun i=>if i=k then f i else 0)=f k:=by
 induction n with
 | zero=>omega
 | succ n ih=>
  rw [Jf]
  by_cases e:k=n
  ·subst e;rw [bN rfl,Jw (g:=fun _=>0) fun i hi=>bO (by omega),Vn,Int.zero_add]
  ·rw [ih (by omega),bO (by omega),Int.add_zero]
def inB (c:List (Nat × Nat)):Nd->Bool
 | none=>true
 | some z=>decide (z∈c)
def fiB (c:List (Nat × Nat)) (v:Nd):Int:=if inB c v=true then 0 else 1
def cpB (c:List (Nat × Nat)) (w:Wy):Int:=if inB c w.1=true/\inB c w.2.1=false then w.2.2 else 0
def Clo (r:Nat) (c:List (Nat × Nat)):Prop:=∀ h t,(h,t)∈c->t < r->(h,t + 1)∈c
theorem Qja (hc:Clo rs.length c):((wsQ xs rs).map (cpB c)).sum=wA xs c + wB rs c:=by
 rw [Q83];congr 1
 ·refine Jw fun h _=>?_
  show (if true=true/\decide ((h,0)∈c)=false then xs.getD h 0 else 0)=if (h,0)∈c then 0 else xs.getD h 0
  by_cases p:(h,0)∈c <;> simp [p]
 ·refine Jw fun t ht=>?_
  rw [Jw (f:=fun h=>cpB c (some (h,t),some (h,t + 1),xs.sum)) (g:=fun _=>0) fun h _=>bO (fun z=>?_),Vn,Int.zero_add]
  ·unfold wR;congr 1;refine G8 fun z _=>?_
   show (if decide ((z.1.1,t)∈c)=true/\decide ((z.1.2,t + 1)∈c)=false then z.2 else 0)=_;simp only [decide_eq_true_eq,decide_eq_false_iff_not]
  ·have z1:(h,t)∈c:=of_decide_eq_true z.1;have z2:(h,t + 1)∉c:=of_decide_eq_false z.2;exact z2 (hc h t z1 ht)
theorem Q86 (t:Tr) (ks:List Tr) (c:List (Nat × Nat)):wC (t :: ks) c=(if (t.1.2,t.1.1)∈c then t.2 else 0) + wC ks c:=by unfold wC; rw [D9,M6]
theorem Q4u (c:List (Nat × Nat)) (t:Tr) (ks:List Tr) (s:Int) (svs:List Int):tot (fiB c) (t :: ks) (s :: svs)=(if (t.1.2,t.1.1)∈c then 0 else s) + tot (fiB c) ks svs:=by
 show s * ((if decide ((t.1.2,t.1.1)∈c)=true then 0 else 1) - (if true=true then 0 else 1)) + _=_
 by_cases p:(t.1.2,t.1.1)∈c <;> simp [p]
theorem Qbj (c:List (Nat × Nat)):∀ (ks:List Tr) (svs:List Int),svs.length<=ks.length->(∀ i t,ks[i]?=some t->i < svs.length->(t.1.2,t.1.1)∈c->svs.getD i 0=t.2)->tot (fiB c) ks svs + wC (ks.take svs.length) c=svs.sum
 | t :: ks,s :: svs,hl,h=>by
  have ih:=Qbj c ks svs (Nat.le_of_succ_le_succ hl) fun i x hx hi=>h (i + 1) x hx (Nat.succ_lt_succ hi)
  have h0:=h 0 t rfl (Nat.succ_pos _);rw [Q4u,E7,List.take_succ_cons,Q86,M6,<- ih]
  by_cases p:(t.1.2,t.1.1)∈c
  ·have h0:s=t.2:=h0 p;rw [bN p,bN p,h0]; omega
  ·rw [bO p,bO p]; omega
 | ks,[],_,_=>by cases ks <;> rfl
theorem Qbk (c:List (Nat × Nat)):∀ (ks:List Tr) (svs:List Int) (n:Nat),svs.length<=ks.length->(∀ i t,ks[i]?=some t->i < svs.length->0<=svs.getD i 0/\svs.getD i 0<=t.2)->(∀ t∈ks,0<=t.2)->(svs.take n).sum<=tot (fiB c) ks svs + wC (ks.take n) c
 | t :: ks,s :: svs,n,hl,h,hk=>by
  have h0:0<=s/\s<=t.2:=h 0 t rfl (Nat.succ_pos _);have ih:=fun n=>Qbk c ks svs n (Nat.le_of_succ_le_succ hl) (fun i x hx hi=>h (i + 1) x hx (Nat.succ_lt_succ hi)) fun x hx=>hk x (O7 _ hx)
  rw [Q4u];cases n with
  | zero=>
   have:=ih 0;simp only [List.take_zero,List.sum_nil] at this ⊢
   split <;> omega
  | succ n=>
   have:=ih n;rw [List.take_succ_cons,List.take_succ_cons,Q86,M6]
   split <;> omega
 | ks,[],n,_,_,hk=>by
  rw [List.take_nil];have:tot (fiB c) ks []=0:=by cases ks <;> rfl
  rw [this,Int.zero_add];unfold wC;have hp:∀ l:List Tr,(∀ t∈l,0<=t.2)->0<=(l.map fun z=>if (z.1.2,z.1.1)∈c then z.2 else 0).sum:=by
   intro l
   induction l with
   | nil=>exact fun _=>Int.le_refl _
   | cons t l ih=>
    intro h;rw [D9,M6];have h1:=ih fun x hx=>h x (O7 _ hx)
    have h2:=h t D1
    split <;> omega
  exact hp _ fun t ht=>hk t (List.mem_of_mem_take ht)
theorem Qi9 (Q:Qok xs rs ks) {svs:List Int} (J:FJ (wsQ xs rs) ks svs ls 0) (hl:ls.length=(wsQ xs rs).length) (hs:svs.length<=ks.length) (hc:Clo rs.length c) (n:Nat):(svs.take n).sum<=wA xs c + wB rs c + wC (ks.take n) c:=by
 have h1:=Qbk c ks svs n hs (fun i t ht hi=>(let ⟨a,b,_⟩:=J.don i t ht hi; ⟨a,b⟩)) fun t ht=>by have:=(Q.kb t ht).2.2.1; omega
 rw [<- J.con0,<- Qja (xs:=xs) hc] at *;have h2:pot (dph (fiB c)) (wsQ xs rs) ls<=((wsQ xs rs).map (cpB c)).sum:=Qm2 _ _ _ _ hl fun k hk=>by
  have q:=J.cap k hk;revert q;unfold dph fiB cpB;generalize (wsQ xs rs).getD k wy0=w;generalize ls.getD k 0=l;intro q;cases a:inB c w.1 <;> cases b:inB c w.2.1 <;> simp <;> omega
 omega
theorem Qnf (Q:Qok xs rs ks) {svs:List Int} (J:FJ (wsQ xs rs) ks svs ls 0) (hl:ls.length=(wsQ xs rs).length) (hs:svs.length<=ks.length) (t:Nat) (k:Nat) (hk:k < (wsQ xs rs).length) {h:Nat} (hw:(wsQ xs rs).getD k wy0=(some (h,t),some (h,t + 1),xs.sum)):ls.getD k 0<=pot (fun w=>if w.1=none then 1 else 0) (wsQ xs rs) ls:=by
 have pos:=J.pos hl;have e1:=J.con0 (fun v=>match v with | none=>0 | some z=>if t < z.2 then 1 else 0);have e2:=J.con0 (fun v=>match v with | none=>0 | some _=>1);have e3:tot (fun v=>match v with | none=>0 | some z=>if t < z.2 then 1 else 0) ks svs<=tot (fun v=>match v with | none=>0 | some _=>1) ks svs:=by
  have nn:∀ i t,ks[i]?=some t->i < svs.length->0<=svs.getD i 0:=fun i t ht hi=>(J.don i t ht hi).1
  clear Q J e1 e2 hs
  induction ks generalizing svs with
  | nil=>cases svs <;> exact Int.le_refl _
  | cons z ks ih=>
   cases svs with
   | nil=>exact Int.le_refl _
   | cons s svs=>
    have i1:=ih (svs:=svs) fun i t ht hi=>nn (i + 1) t ht (Nat.succ_lt_succ hi)
    have i0:0<=s:=nn 0 z rfl (Nat.succ_pos _);show s * ((if t < z.1.1 then 1 else 0) - 0) + _<=s * (1 - 0) + _
    split <;> omega
 have e4:pot (dph fun v=>match v with | none=>0 | some _=>1) (wsQ xs rs) ls=pot (fun w=>if w.1=none then 1 else 0) (wsQ xs rs) ls:=Q2m ls fun w hw=>by
  cases Q6j w hw with
  | sp h m=>rfl
  | go i j t m=>rfl
 have e5:ls.getD k 0<=pot (dph fun v=>match v with | none=>0 | some z=>if t < z.2 then 1 else 0) (wsQ xs rs) ls:=by
  have:=(Q70 (dph fun v=>match v with | none=>0 | some z=>if t < z.2 then 1 else 0) (wsQ xs rs) ls k hl hk fun j hj=>by
   refine Int.mul_nonneg (J.cap j hj).1 ?_;have hm:(wsQ xs rs).getD j wy0∈wsQ xs rs:=by rw [O3,O2 hj]; exact F5 hj
   revert hm;generalize (wsQ xs rs).getD j wy0=w;intro hm;cases Q6j w hm with
   | sp h m=>
    show (0:Int)<=(if t < 0 then 1 else 0) - 0;rw [bO (by omega)]; exact Int.le_refl _
   | go i j t' m=>
    show (0:Int)<=(if t < t' + 1 then 1 else 0) - (if t < t' then 1 else 0)
    split <;> split <;> omega).2
  rw [hw] at this;have d:dph (fun v=>match v with | none=>(0:Int) | some z=>if t < z.2 then 1 else 0) (some (h,t),some (h,t + 1),xs.sum)=1:=by
   show (if t < t + 1 then (1:Int) else 0) - (if t < t then 1 else 0)=1;rw [bN (by omega),bO (by omega)]; rfl
  rw [d,Int.mul_one] at this;exact this
 omega
theorem Qfp (Q:Qok xs rs ks) {svs:List Int} (J:FJ (wsQ xs rs) ks svs ls 0) (hl:ls.length=(wsQ xs rs).length) (hs:svs.length<=ks.length) (T:FT (wsQ xs rs) ls F) (hF:∀ u∈kys F,Cld (wsQ xs rs) ls F u) {h t:Nat} (hm:some (h,t)∈kys F) (ht:t < rs.length):some (h,t + 1)∈kys F:=by
 have hh:h < xs.length:=by
  rcases (Q7n Q T).1 _ hm with z | ⟨z,e,z1,_⟩
  ·cases z
  ·cases e; exact z1
 have hw:(some (h,t),some (h,t + 1),xs.sum)∈wsQ xs rs:=by
  unfold wsQ;refine D0.mpr (.inr (List.mem_flatMap.mpr ⟨t,G9.mpr ht,D0.mpr (.inl ?_)⟩));unfold wst;exact D8.mpr ⟨h,G9.mpr hh,rfl⟩
 obtain ⟨k,hk,ek⟩:=List.mem_iff_getElem.mp hw;have ek':(wsQ xs rs).getD k wy0=(some (h,t),some (h,t + 1),xs.sum):=by rw [O3,O2 hk,ek]; rfl
 have hcap:=J.cap k hk
 by_cases p:ls.getD k 0 < xs.sum
 ·refine hF _ hm k hk _ ?_;rw [ek'];exact bN ⟨rfl,p⟩
 ·have hlay:=Qnf Q J hl hs t k hk ek';exfalso;have full:∀ j,j < (wsQ xs rs).length->((wsQ xs rs).getD j wy0).1=none->¬ ls.getD j 0 < ((wsQ xs rs).getD j wy0).2.2:=fun j hj hn hlt=>by
   have:=Q6z (fun w=>if w.1=none then 1 else 0) (fun w=>(if w.1=none then 1 else 0) * w.2.2) (wsQ xs rs) ls (fun i=>if i=j then 1 else 0) hl fun i hi=>by
    have c:=J.cap i hi
    by_cases e:i=j
    ·subst e;rw [hn];simp only [if_true,Int.mul_one,Int.one_mul];omega
    ·rw [bO e,Int.add_zero,Int.mul_comm];exact Int.mul_le_mul_of_nonneg_left c.2 (by split <;> omega)
   rw [show ((List.range (wsQ xs rs).length).map fun i=>if i=j then (1:Int) else 0).sum=1 from Q88 hj (fun _=>1)] at this
   have sm:((wsQ xs rs).map fun w:Wy=>(if w.1=none then (1:Int) else 0) * w.2.2).sum=xs.sum:=by
    rw [Q83,Jw (n:=rs.length) (g:=fun _=>0) fun t _=>?_,Vn,Int.add_zero,Q4w xs]
    ·exact Jw fun h _=>Int.one_mul _
    ·have z0:∀ (a:Nat × Nat) (m:Int),(if (some a:Nd)=none then (1:Int) else 0) * m=0:=fun a m=>by rw [bO (by simp),Int.zero_mul]
     rw [Jw (g:=fun _=>0) fun h _=>z0 _ xs.sum,Vn,Int.zero_add,G8 (g:=fun _=>(0:Int)) fun z _=>z0 _ z.2]
     induction rs.getD t [] with
     | nil=>rfl
     | cons _ _ ih=>rw [D9,M6,ih]; rfl
   rw [sm] at this;omega
  have:=T.sub (C:=fun v=>v=none) rfl (fun j hj u v hu ho=>by
   have hu:u=none:=hu;subst hu;exfalso;have hm:(wsQ xs rs).getD j wy0∈wsQ xs rs:=by rw [O3,O2 hj]; exact F5 hj
   have wf:=Q6j _ hm;rcases Xi ho with ⟨o1,_,o2⟩ | ⟨o1,_⟩
   ·exact full j hj o1 o2
   ·cases wf':(wsQ xs rs).getD j wy0 with
    | mk a b=>
     rw [wf'] at wf o1;cases wf <;> cases o1) _ hm
  cases this
theorem Qia (Q:Qok xs rs ks) {svs:List Int} (J:FJ (wsQ xs rs) ks svs ls 0) (hl:ls.length=(wsQ xs rs).length) (hs:svs.length<=ks.length) (T:FT (wsQ xs rs) ls F) (hF:∀ u∈kys F,Cld (wsQ xs rs) ls F u) (hc:∀ z,z∈c <-> some z∈kys F):Clo rs.length c/\wA xs c + wB rs c + wC (ks.take svs.length) c=svs.sum:=by
 have clo:Clo rs.length c:=fun h t h1 h2=>(hc _).mpr (Qfp Q J hl hs T hF ((hc _).mp h1) h2)
 refine ⟨clo,?_⟩;have hin:∀ v,inB c v=true <-> v∈kys F:=fun v=>by
  cases v with
  | none=>exact ⟨fun _=>T.root,fun _=>rfl⟩
  | some z=>exact decide_eq_true_iff.trans (hc z)
 have e1:pot (dph (fiB c)) (wsQ xs rs) ls=((wsQ xs rs).map (cpB c)).sum:=Qcr _ _ _ _ hl fun k hk=>by
  have q:=J.cap k hk;unfold dph fiB cpB;cases a:inB c ((wsQ xs rs).getD k wy0).1 with
  | true=>
   cases b:inB c ((wsQ xs rs).getD k wy0).2.1 with
   | true=>simp
   | false=>
    have:¬ ls.getD k 0 < ((wsQ xs rs).getD k wy0).2.2:=fun lt=>by
     have:=hF _ ((hin _).mp a) k hk _ (bN ⟨rfl,lt⟩);rw [(hin _).mpr this] at b;cases b
    revert this q;generalize (wsQ xs rs).getD k wy0=w;generalize ls.getD k 0=l;intro q this;simp;omega
  | false=>
   cases b:inB c ((wsQ xs rs).getD k wy0).2.1 with
   | true=>
    have:¬ 0 < ls.getD k 0:=fun lt=>by
     have:=hF _ ((hin _).mp b) k hk ((wsQ xs rs).getD k wy0).1 (by
      unfold oth;rw [bO (fun z=>by rw [z.1,b] at a; cases a),bN ⟨rfl,lt⟩])
     rw [(hin _).mpr this] at a;cases a
    revert this q;generalize ls.getD k 0=l;intro q this;simp;omega
   | false=>simp
 have e2:=Qbj c ks svs hs fun i t ht hi hm=>by
  rcases (J.don i t ht hi).2.2 with z | ⟨C,c0,c1,c2⟩
  ·exact z
  ·exact absurd (T.sub c0 c1 _ ((hc _).mp hm)) c2
 rw [<- J.con0,e1,Qja clo] at e2;exact e2
structure CutOk (n r:Nat) (c:List (Nat × Nat)):Prop where
 pl:∀ z∈c,z.1 < n/\z.2<=r
 inc:c.Pairwise LxP
 cls:∀ z∈c,z.2 < r->(z.1,z.2 + 1)∈c
 len:c.length<=100
def Xs (r k f:Nat):List (Nat × Nat):=(List.range (r + 1 - f)).map fun t=>(k,f + t)
theorem col_mem {r f:Nat} {z:Nat × Nat}:z∈Xs r k f <-> z.1=k/\f<=z.2/\z.2<=r:=by
 unfold Xs;rw [D8];constructor
 ·rintro ⟨t,ht,rfl⟩;have:=G9.mp ht;exact ⟨rfl,by show f<=f + t; omega,by show f + t<=r; omega⟩
 ·rintro ⟨h1,h2,h3⟩;exact ⟨z.2 - f,G9.mpr (by omega),Prod.ext h1.symm (by show f + (z.2 - f)=z.2; omega)⟩
theorem CutOk.add {r f:Nat} (h:CutOk k r c) (hk:k < n) (hr:r<=4) (hl:c.length<=5 * k) (h8:k<=8):CutOk (k + 1) r (c ++ Xs r k f)/\(c ++ Xs r k f).length<=5 * (k + 1):=by
 have cl:(Xs r k f).length<=5:=by unfold Xs; rw [O1,E5]; omega
 refine ⟨⟨fun z hz=>?_,?_,fun z hz hz2=>?_,by rw [O4]; omega⟩,by rw [O4]; omega⟩
 ·rcases D0.mp hz with hz | hz
  ·have:=h.pl z hz; omega
  ·have:=col_mem.mp hz; omega
 ·rw [List.pairwise_append];refine ⟨h.inc,?_,fun a ha b hb=>.inl ?_⟩
  ·unfold Xs;rw [List.pairwise_map];exact List.pairwise_lt_range.imp fun hab=>.inr ⟨rfl,by show _ + _ < _ + _; omega⟩
  ·have:=h.pl a ha; have:=col_mem.mp hb; omega
 ·rcases D0.mp hz with hz | hz
  ·exact L5 _ (h.cls z hz hz2)
  ·have:=col_mem.mp hz;exact F7 _ (col_mem.mpr ⟨this.1,by show f<=z.2 + 1; omega,by show z.2 + 1<=r; omega⟩)
theorem CutOk.nil (n r:Nat):CutOk n r []:=⟨fun z hz=>absurd hz List.not_mem_nil,List.Pairwise.nil,fun z hz=>absurd hz List.not_mem_nil,by simp⟩
theorem Qp9 (hme:me=Jd (Q1 (Q3 1) (Q1 (Q3 0) Q6))) (r k f:Nat) (S:Q0):Jg (Q5 0) Jk me [] [none,some (.int k)] (Jc f (r + 1 - f)) S=.ok ((Xs r k f).map rdV) S:=by
 unfold Jc Xs;rw [F4,hme];refine Jn _ _ (by simp) fun t _=>⟨_,rfl,?_⟩
 refine (Qw (Q4 rfl (Q4 rfl rfl)) (by simp)).trans ?_;show Res.ok (PV.tup [.int k,.int ((f:Int) + (t:Int))]) S=Res.ok (PV.tup [.int k,.int ((f + t:Nat):Int)]) S;rw [show ((f + t:Nat):Int)=(f:Int) + (t:Int) by omega]
theorem Qet (T:Tp S L) (v:Int) (h1:0<=v) (h2:v<=1000000):∃ (d:Int) (S':Q0),(0<=d/\d<=v)/\Tp S' L/\Mv L S S'/\Qd [.ref L,.int (v + 1)] S=.ok (.int d) S':=by
 obtain ⟨d,S',h,T',M,e⟩:=J7 T (v.toNat + 1) (by omega) (by omega);refine ⟨d,S',by omega,T',M,?_⟩;rw [show v + 1=((v.toNat + 1:Nat):Int) by omega];exact e
structure DI (S0:Q0) (L n kl:Nat) (A:Q0) (Hc M V:Nat) (h:List Int) (ms:List Mv4) (sv:List Int):Prop where
 T:Tp A L
 hH:A[Hc]?=some (.lst (h.map .int))
 hn:h.length=n
 h0:∀ k:Nat,0<=h.getD k 0
 mM:A[M]?=some (.lst (ms.map mvV))
 mi:∀ m∈ms,InN n m
 vV:A[V]?=some (.lst (sv.map .int))
 vl:sv.length=kl
 g:Gw (fun t=>t=L) S0 A
 dL:L < S0.length
 dH:S0.length<=Hc
 dM:S0.length<=M
 dV:S0.length<=V
 e1:Hc≠M
 e2:Hc≠V
 e3:M≠V
theorem yh (hc:S[C]?=some (.lst (h.map .int))) {i:Nat} (hi:i < h.length):oIx S (.ref C) (.int (i:Int))=.ok (.int (h.getD i 0)) S:=by
 rw [Q5m,hc];show okO _ (atI (h.map PV.int) (i:Int))=_;rw [Uq PV.int 0 h hi]; rfl
theorem xx (hc:S[C]?=some (.lst (h.map .int))) {i:Nat} (hi:i < h.length) (v:Int):Wk S (.ref C) (.int (i:Int)) (.int v)=some (S.set C (.lst ((h.set i v).map .int))):=by
 rw [Q3q,hc];show (ixN (h.map PV.int).length (i:Int)).map _=_;rw [show ixN (h.map PV.int).length (i:Int)=some i by rw [O1]; exact Q90 hi,List.map_set]; rfl
theorem Qj6 (h:k < ks.length) (S:Q0):oIx S (.tup (ks.map trV)) (.int (k:Int))=.ok (trV (ks.getD k ((0,0),0))) S:=by
 show okO S (atI (ks.map trV) (k:Int))=_;rw [Uq trV ((0,0),0) ks h]; rfl
theorem yj (h:List Int) (i:Nat) (v:Int) (hv:0<=v) (h0:∀ k:Nat,0<=h.getD k 0) (k:Nat):0<=(h.set i v).getD k 0:=by
 rw [O3,List.getElem?_set]
 split
 ·split
  ·exact hv
  ·exact Int.le_refl _
 ·rw [<- O3]; exact h0 k
abbrev dG (L:Nat) (q s r k:PV) (a5 a6 a7 a8 a9 a10 a11 a12 a13 a14:Option PV):Gam:=[some (.ref L),some q,some s,some r,some k,a5,a6,a7,a8,a9,a10,a11,a12,a13,a14]
theorem dr2 (hk:∀ t∈ks,t.1.2 < n/\0<=t.2/\t.2<=1000000) {M V:Nat} {s r:PV} (mom:Nat) (P:Nat->List Int->List Int->Prop) (hP:∀ (k:Nat) (h sv:List Int) (d:Int),k < ks.length->(ks.getD k ((0,0),0)).1.1=mom->(ks.getD k ((0,0),0)).1.2 < h.length->h.length=n->sv.length=ks.length->0<=d->d<=h.getD (ks.getD k ((0,0),0)).1.2 0->d<=(ks.getD k ((0,0),0)).2->P k h sv->P (k + 1) (h.set (ks.getD k ((0,0),0)).1.2 (h.getD (ks.getD k ((0,0),0)).1.2 0 - d)) (sv.set k d)) (hP0:∀ (k:Nat) (h sv:List Int),(ks.getD k ((0,0),0)).1.1≠mom->P k h sv->P (k + 1) h sv) (a9 a10 a11 a12 a13 a14:Option PV) (I:DI S0 L n ks.length A Hc M V h ms sv) (hkl:ks.length<=1000) (p0:P 0 h sv):∃ A' h' sv' b9,Yz (Q5 9) (Ja (Q1 (Qm Y0 (Q1 (Q3 4) Q6)) Q6)) Z5 (dG L q s r (.tup (ks.map trV)) (some (.ref Hc)) (some (.ref M)) (some (.ref V)) (some (.int (mom:Int))) a9 a10 a11 a12 a13 a14) A=.nx (dG L q s r (.tup (ks.map trV)) (some (.ref Hc)) (some (.ref M)) (some (.ref V)) (some (.int (mom:Int))) b9 a10 a11 a12 a13 a14) A'/\DI S0 L n ks.length A' Hc M V h' ms sv'/\A'.length=A.length/\P ks.length h' sv':=by
 obtain ⟨Γ',A',e,h',sv',b9,rfl,I',hl,pe⟩:=Jm (g:=fun k:Nat=>PV.int (k:Int)) (xs:=List.range ks.length) (ga:=Q5 9) (body:=Z5) (w:=[]) (Γ:=dG L q s r (.tup (ks.map trV)) (some (.ref Hc)) (some (.ref M)) (some (.ref V)) (some (.int (mom:Int))) a9 a10 a11 a12 a13 a14) (st:=A)
  (fun i Γ st=>∃ h' sv' b9,Γ=dG L q s r (.tup (ks.map trV)) (some (.ref Hc)) (some (.ref M)) (some (.ref V)) (some (.int (mom:Int))) b9 a10 a11 a12 a13 a14/\DI S0 L n ks.length st Hc M V h' ms sv'/\st.length=A.length/\P i h' sv')
  (fun _ _ _ _=>Qv _)
  (fun i k Γ st hx ⟨h,sv,b9,hΓ,I,hl,pi⟩=>by
   subst hΓ;obtain rfl:k=i:=by
    obtain ⟨u1,u2⟩:=O0.mp hx;rw [List.getElem_range] at u2;exact u2.symm
   have hki:k < ks.length:=G9.mp (F3 hx);have htm:ks.getD k ((0,0),0)∈ks:=by rw [O3,O2 hki]; exact F5 hki
   obtain ⟨t,ht⟩:∃ t,ks.getD k ((0,0),0)=t:=⟨_,rfl⟩;rw [ht] at htm;have hP':=hP k h sv;have hP0':=hP0 k h sv;rw [ht] at hP' hP0';have ix:∀ st:Q0,oIx st (.tup (ks.map trV)) (.int (k:Int))=.ok (trV t) st:=fun st=>by rw [Qj6 hki,ht]
   obtain ⟨k1,k2,k3⟩:=hk t htm;have c:=J9 (Q7 (o:=oEq) (a:=mOp oIx (mOp oIx (Q3 4) (Q3 9)) (mC (.int 0))) (b:=Q3 8) (Γ:=dG L q s r (.tup (ks.map trV)) (some (.ref Hc)) (some (.ref M)) (some (.ref V)) (some (.int (mom:Int))) (some (.int (k:Int))) a10 a11 a12 a13 a14) (Q7 (Q7 rfl rfl (ix st)) rfl rfl) rfl (Qsu st t.1.1 mom))
   by_cases p:t.1.1=mom
   ·rw [bQ p] at c;have hh:t.1.2 < h.length:=by have:=I.hn; omega
    have h0:=I.h0 t.1.2;obtain ⟨v,hv⟩:∃ v,(if h.getD t.1.2 0 < t.2 then h.getD t.1.2 0 else t.2)=v:=⟨_,rfl⟩;have hv1:0<=v/\v<=1000000/\v<=h.getD t.1.2 0/\v<=t.2:=by
     rw [<- hv]
     split <;> omega
    obtain ⟨d,A1,hd,T1,M1,e1⟩:=Qet I.T v hv1.1 hv1.2.1;have nL:∀ c,S0.length<=c->c≠L:=fun c hc z=>by have:=I.dL; omega
    have vV1:A1[V]?=some (.lst (sv.map .int)):=by rw [M1.keep V (nL V I.dV)]; exact I.vV
    have hH1:A1[Hc]?=some (.lst (h.map .int)):=by rw [M1.keep Hc (nL Hc I.dH)]; exact I.hH
    have hsv:k < sv.length:=by have:=I.vl; omega
    have vlt:=(O0.mp vV1).1;have hlt:=(O0.mp hH1).1;have hH2:(A1.set V (.lst ((sv.set k d).map .int)))[Hc]?=some (.lst (h.map .int)):=by rw [O9 (fun z=>I.e2 z.symm)]; exact hH1
    have vV2:(A1.set V (.lst ((sv.set k d).map .int)))[V]?=some (.lst ((sv.set k d).map .int)):=D4 vlt;have gd:(sv.set k d).getD k 0=d:=by rw [O3,D4 hsv]; rfl
    have hm:Qe 2 Qd (Q1 (Q3 0) (Q1 (mOp Qz (Qm Xy (Q1 (mOp oIx (mOp oIx (Q3 4) (Q3 9)) (mC (.int 2))) (Q1 (mOp oIx (Q3 5) (mOp oIx (mOp oIx (Q3 4) (Q3 9)) (mC (.int 1)))) Q6))) (mC (.int 1))) Q6)) (dG L q s r (.tup (ks.map trV)) (some (.ref Hc)) (some (.ref M)) (some (.ref V)) (some (.int (mom:Int))) (some (.int (k:Int))) a10 a11 a12 a13 a14) st=.ok (.int d) A1:=
     Qp (n:=2) (Q4 rfl (Q4 (Q7 (Jp (Q4 (Q7 (Q7 rfl rfl (ix st)) rfl rfl) (Q4 (Q7 rfl (Q7 (Q7 rfl rfl (ix st)) rfl rfl) (yh I.hH hh)) rfl)) (Kr st t.2 (h.getD t.1.2 0))) rfl (by rw [hv]; exact Xv _ _ _)) rfl)) rfl e1
    have hm2:mOp (oI fun a b=>.int (a - b)) (mOp oIx (Q3 5) (mOp oIx (mOp oIx (Q3 4) (Q3 9)) (mC (.int 1)))) (mOp oIx (Q3 7) (Q3 9)) (dG L q s r (.tup (ks.map trV)) (some (.ref Hc)) (some (.ref M)) (some (.ref V)) (some (.int (mom:Int))) (some (.int (k:Int))) a10 a11 a12 a13 a14) (A1.set V (.lst ((sv.set k d).map .int)))=.ok (.int (h.getD t.1.2 0 - d)) (A1.set V (.lst ((sv.set k d).map .int))):=
     Q7 (Q7 rfl (Q7 (Q7 rfl rfl (ix _)) rfl rfl) (yh hH2 hh)) (Q7 rfl rfl ((yh vV2 (by rw [D5]; exact hsv)).trans (by rw [gd]))) rfl
    refine ⟨_,rfl,_,_,Q1h c (Qb (Q3p hm rfl rfl (xx vV1 hsv d)) (Q3p hm2 rfl (Q7 (Q7 rfl rfl (ix _)) rfl rfl) (xx hH2 hh _))),h.set t.1.2 (h.getD t.1.2 0 - d),sv.set k d,_,rfl,⟨?_,?_,?_,?_,?_,I.mi,?_,?_,?_,I.dL,I.dH,I.dM,I.dV,I.e1,I.e2,I.e3⟩,?_,hP' d hki p hh I.hn I.vl hd.1 (by omega) (by omega) pi⟩
    ·exact T1.of (by rw [O9 (nL Hc I.dH),O9 (nL V I.dV)])
    ·exact D4 (by rw [D5]; exact hlt)
    ·rw [D5]; exact I.hn
    ·exact yj h _ _ (by omega) I.h0
    ·rw [O9 I.e1,O9 (fun z=>I.e3 z.symm),M1.keep M (nL M I.dM)]; exact I.mM
    ·rw [O9 I.e2]; exact vV2
    ·rw [D5]; exact I.vl
    ·refine ⟨by rw [D5,D5,M1.len]; exact I.g.len,fun x hx hn=>?_⟩;have:=I.dH;have:=I.dV;rw [O9 (by omega),O9 (by omega),M1.keep x hn];exact I.g.keep x hx hn
    ·rw [D5,D5,M1.len]; exact hl
   ·rw [bP p] at c;exact ⟨_,rfl,_,_,X2 c rfl,h,sv,_,rfl,I,hl,hP0' p pi⟩)
  ⟨h,sv,_,rfl,I,rfl,p0⟩
 rw [<- Zq] at e;rw [E5] at pe;exact ⟨A',h',sv',b9,Zj (jq (n:=ks.length) (by omega) (Jp (Q4 rfl rfl) (by rw [Ks,O1]))) e,I',hl,pe⟩
structure DC (S0:Q0) (n:Nat) (A:Q0) (Hc M V C:Nat) (cg:List Int):Prop where
 c:A[C]?=some (.lst (cg.map .int))
 cn:cg.length=n
 c0:∀ k:Nat,0<=cg.getD k 0
 dC:S0.length<=C
 f1:C≠Hc
 f2:C≠M
 f3:C≠V
theorem dr3 {S0:Q0} {L n kl:Nat} {Hc M V C:Nat} {q s r k:PV} (mom:Nat) (P:List Tr->List Int->List Int->Prop) (hP:∀ (t:Tr) (ts:List Tr) (h cg:List Int) (d:Int),t.1.1 < h.length->t.1.2 < cg.length->0<=d->d<=h.getD t.1.1 0->d<=t.2->P (t :: ts) h cg->P ts (h.set t.1.1 (h.getD t.1.1 0 - d)) (cg.set t.1.2 (cg.getD t.1.2 0 + d))) (hP0:∀ (t:Tr) (ts:List Tr) (h cg:List Int),0<=t.2->P (t :: ts) h cg->P ts h cg) {w:Wt} (hw:w=[]) (a9:Option PV):∀ (ts:List Tr) (A:Q0) (h:List Int) (ms:List Mv4) (sv cg:List Int) (a11 a12 a13 a14:Option PV),(∀ t∈ts,t.1.1 < n/\t.1.2 < n/\0<=t.2/\t.2<=1000000)->ms.length + ts.length<=5000->DI S0 L n kl A Hc M V h ms sv->DC S0 n A Hc M V C cg->P ts h cg ->
  ∃ A' h' ms' cg' b11 b12 b13 b14,W1 (Jr (Qf (Q5 11) (Qf (Q5 12) (Qf (Q5 13) Js)))) Je w (ts.map trV) (dG L q s r k (some (.ref Hc)) (some (.ref M)) (some (.ref V)) (some (.int (mom:Int))) a9 (some (.ref C)) a11 a12 a13 a14) A=.nx (dG L q s r k (some (.ref Hc)) (some (.ref M)) (some (.ref V)) (some (.int (mom:Int))) a9 (some (.ref C)) b11 b12 b13 b14) A'/\DI S0 L n kl A' Hc M V h' ms' sv/\DC S0 n A' Hc M V C cg'/\ms'.length<=ms.length + ts.length/\A'.length=A.length/\P [] h' cg'
 | [],A,h,ms,sv,cg,a11,a12,a13,a14,_,_,I,J,p0=>⟨A,h,ms,cg,a11,a12,a13,a14,U5 (by rw [hw]; exact Qv _),I,J,O8 _,rfl,p0⟩
 | t :: ts,A,h,ms,sv,cg,a11,a12,a13,a14,ht,hl,I,J,p0=>by
  obtain ⟨t1,t2,t3,t4⟩:=ht t D1;rw [E7] at hl;have hh:t.1.1 < h.length:=by have:=I.hn; omega
  have hcg:t.1.2 < cg.length:=by have:=J.cn; omega
  have h0:=I.h0 t.1.1;obtain ⟨v,hv⟩:∃ v,(if h.getD t.1.1 0 < t.2 then h.getD t.1.1 0 else t.2)=v:=⟨_,rfl⟩;have hv1:0<=v/\v<=1000000/\v<=h.getD t.1.1 0/\v<=t.2:=by
   rw [<- hv]
   split <;> omega
  obtain ⟨d,A1,hd,T1,M1,e1⟩:=Qet I.T v hv1.1 hv1.2.1;have nL:∀ c,S0.length<=c->c≠L:=fun c hc z=>by have:=I.dL; omega
  have vV1:A1[V]?=some (.lst (sv.map .int)):=by rw [M1.keep V (nL V I.dV)]; exact I.vV
  have hH1:A1[Hc]?=some (.lst (h.map .int)):=by rw [M1.keep Hc (nL Hc I.dH)]; exact I.hH
  have mM1:A1[M]?=some (.lst (ms.map mvV)):=by rw [M1.keep M (nL M I.dM)]; exact I.mM
  have cC1:A1[C]?=some (.lst (cg.map .int)):=by rw [M1.keep C (nL C J.dC)]; exact J.c
  have g1:Gw (fun t=>t=L) S0 A1:=⟨by rw [M1.len]; exact I.g.len,fun x hx hn=>by rw [M1.keep x hn]; exact I.g.keep x hx hn⟩;have s1:Qr 14 (Qe 2 Qd (Q1 (Q3 0) (Q1 (mOp Qz (Qm Xy (Q1 (Q3 13) (Q1 (mOp oIx (Q3 5) (Q3 11)) Q6))) (mC (.int 1))) Q6))) (dG L q s r k (some (.ref Hc)) (some (.ref M)) (some (.ref V)) (some (.int (mom:Int))) a9 (some (.ref C)) (some (.int (t.1.1:Int))) (some (.int (t.1.2:Int))) (some (.int t.2)) a14) A=.nx (dG L q s r k (some (.ref Hc)) (some (.ref M)) (some (.ref V)) (some (.int (mom:Int))) a9 (some (.ref C)) (some (.int (t.1.1:Int))) (some (.int (t.1.2:Int))) (some (.int t.2)) (some (.int d))) A1:=
   Qj (Qp (n:=2) (Q4 rfl (Q4 (Q7 (Jp (Q4 rfl (Q4 (Q7 rfl rfl (yh I.hH hh)) rfl)) (Kr A t.2 (h.getD t.1.1 0))) rfl (by rw [hv]; exact Xv _ _ _)) rfl)) rfl e1)
  have hw':∀ T,wOk w T:=fun T=>by rw [hw]; exact Qv _
  by_cases p:0 < d
  ·have hMl:=(O0.mp mM1).1;have hHl:=(O0.mp hH1).1;have hCl:=(O0.mp cC1).1;obtain ⟨m,hm⟩:∃ m:Mv4,m=⟨mom,t.1.1,t.1.2,d⟩:=⟨_,rfl⟩;obtain ⟨A2,hA2⟩:∃ A2,A1.set M (.lst ((ms ++ [m]).map mvV))=A2:=⟨_,rfl⟩;have happ:Qq A1 (.ref M) [mvV m]=.ok .non A2:=by
    rw [V6 mM1 (by rw [O1]; omega),<- hA2,E3]; rfl
   have hH2:A2[Hc]?=some (.lst (h.map .int)):=by rw [<- hA2,O9 (fun z=>I.e1 z.symm)]; exact hH1
   obtain ⟨A3,hA3⟩:∃ A3,A2.set Hc (.lst ((h.set t.1.1 (h.getD t.1.1 0 - d)).map .int))=A3:=⟨_,rfl⟩;have cC3:A3[C]?=some (.lst (cg.map .int)):=by rw [<- hA3,O9 (fun z=>J.f1 z.symm),<- hA2,O9 (fun z=>J.f2 z.symm)]; exact cC1
   obtain ⟨A4,hA4⟩:∃ A4,A3.set C (.lst ((cg.set t.1.2 (cg.getD t.1.2 0 + d)).map .int))=A4:=⟨_,rfl⟩;have len4:A4.length=A1.length:=by rw [<- hA4,D5,<- hA3,D5,<- hA2,D5]
   have at4:∀ x,x≠C->x≠Hc->x≠M->A4[x]?=A1[x]?:=fun x x1 x2 x3=>by rw [<- hA4,O9 (fun z=>x1 z.symm),<- hA3,O9 (fun z=>x2 z.symm),<- hA2,O9 (fun z=>x3 z.symm)]
   have hbody:Je (dG L q s r k (some (.ref Hc)) (some (.ref M)) (some (.ref V)) (some (.int (mom:Int))) a9 (some (.ref C)) (some (.int (t.1.1:Int))) (some (.int (t.1.2:Int))) (some (.int t.2)) a14) A=.nx (dG L q s r k (some (.ref Hc)) (some (.ref M)) (some (.ref V)) (some (.int (mom:Int))) a9 (some (.ref C)) (some (.int (t.1.1:Int))) (some (.int (t.1.2:Int))) (some (.int t.2)) (some (.int d))) A4:=
    Qb s1 (Q1h (J9 (Q7 rfl rfl ((Qj8 A1 p)))) (Qb (Ve rfl (Jb mM1) (Q4 (Qw (Q4 rfl (Q4 rfl (Q4 rfl (Q4 rfl rfl)))) (show 4<=1000000 by decide)) rfl) (by rw [hm] at happ; exact happ)) (Qb (Q3p (Q7 (Q7 rfl rfl (yh hH2 hh)) rfl rfl) rfl rfl ((xx hH2 hh _).trans (by rw [hA3]))) (Q3p (Q7 (Q7 rfl rfl (yh cC3 hcg)) rfl (Xv _ _ _)) rfl rfl ((xx cC3 hcg _).trans (by rw [hA4]))))))
   have I4:DI S0 L n kl A4 Hc M V (h.set t.1.1 (h.getD t.1.1 0 - d)) (ms ++ [m]) sv:=by
    refine ⟨T1.of (at4 L (fun z=>nL C J.dC z.symm) (fun z=>nL Hc I.dH z.symm) (fun z=>nL M I.dM z.symm)),?_,by rw [D5]; exact I.hn,yj h _ _ (by omega) I.h0,?_,fun x hx=>?_,?_,I.vl,⟨by rw [len4]; exact g1.len,fun x hx hn=>?_⟩,I.dL,I.dH,I.dM,I.dV,I.e1,I.e2,I.e3⟩
    ·rw [<- hA4,O9 J.f1,<- hA3];exact D4 (by rw [<- hA2,D5]; exact hHl)
    ·rw [<- hA4,O9 J.f2,<- hA3,O9 I.e1,<- hA2];exact D4 hMl
    ·rcases D0.mp hx with hx | hx
     ·exact I.mi x hx
     ·have:x=m:=by simpa using hx
      rw [this,hm];exact ⟨⟨by show (0:Int)<=(t.1.1:Int); omega,by show (t.1.1:Int) < _; omega⟩,by show (0:Int)<=(t.1.2:Int); omega,by show (t.1.2:Int) < _; omega⟩
    ·rw [at4 V (fun z=>J.f3 z.symm) (fun z=>I.e2 z.symm) (fun z=>I.e3 z.symm)]; exact vV1
    ·have:=I.dH;have:=I.dM;have:=J.dC;rw [at4 x (by omega) (by omega) (by omega)];exact g1.keep x hx hn
   have J4:DC S0 n A4 Hc M V C (cg.set t.1.2 (cg.getD t.1.2 0 + d)):=⟨by rw [<- hA4]; exact D4 (by rw [<- hA3,D5,<- hA2,D5]; exact hCl),by rw [D5]; exact J.cn,yj cg _ _ (by have:=J.c0 t.1.2; omega) J.c0,J.dC,J.f1,J.f2,J.f3⟩;obtain ⟨A',h',ms',cg',b11,b12,b13,b14,e,I',J',hl',hA',pe⟩:=dr3 mom P hP hP0 hw a9 ts A4 _ _ sv _ _ _ _ _ (fun x hx=>ht x (O7 _ hx)) (by rw [O4]; simp; omega) I4 J4 (hP t ts h cg d hh hcg hd.1 (by omega) (by omega) p0)
   refine ⟨A',h',ms',cg',b11,b12,b13,b14,Ud (hw' _) rfl hbody e,I',J',?_,?_,pe⟩
   ·rw [O4] at hl';rw [E7];simp at hl';omega
   ·rw [hA',len4,M1.len]
  ·have I1:DI S0 L n kl A1 Hc M V h ms sv:=⟨T1,hH1,I.hn,I.h0,mM1,I.mi,vV1,I.vl,g1,I.dL,I.dH,I.dM,I.dV,I.e1,I.e2,I.e3⟩;have J1:DC S0 n A1 Hc M V C cg:=⟨cC1,J.cn,J.c0,J.dC,J.f1,J.f2,J.f3⟩;obtain ⟨A',h',ms',cg',b11,b12,b13,b14,e,I',J',hl',hA',pe⟩:=dr3 mom P hP hP0 hw a9 ts A1 h ms sv cg (some (.int (t.1.1:Int))) (some (.int (t.1.2:Int))) (some (.int t.2)) (some (.int d)) (fun x hx=>ht x (O7 _ hx)) (by omega) I1 J1 (hP0 t ts h cg t3 p0)
   exact ⟨A',h',ms',cg',b11,b12,b13,b14,Ud (hw' _) rfl (Qb s1 (X2 (J9 (Q7 rfl rfl (Q93 A1 p))) rfl)) e,I',J',by rw [E7]; omega,by rw [hA',M1.len],pe⟩
theorem Qi7 (a b:List Int) (h:a.length=b.length) (ha:∀ k:Nat,0<=a.getD k 0) (hb:∀ k:Nat,0<=b.getD k 0) (k:Nat):0<=((a.zip b).map fun z=>z.1 + z.2).getD k 0:=by
 rw [O3,E8];have h1:=ha k;have h2:=hb k;rw [O3] at h1 h2
 by_cases q:k < a.length
 ·rw [O2 (by rw [List.length_zip]; omega),List.getElem_zip];rw [O2 q] at h1;rw [O2 (by omega)] at h2;have h1:0<=a[k]:=h1;have h2:0<=b[k]:=h2;show 0<=a[k] + b[k];omega
 ·rw [L0 (by rw [List.length_zip]; omega)]; exact Int.le_refl _
def hS (c:List (Nat × Nat)) (mom:Nat) (h:List Int):Int:=Yh h.length fun i=>if (i,mom)∈c then 0 else h.getD i 0
def sS (ks:List Tr) (c:List (Nat × Nat)) (sv:List Int):Int:=Yh ks.length fun k=>if ((ks.getD k ((0,0),0)).1.2,(ks.getD k ((0,0),0)).1.1)∈c then 0 else sv.getD k 0
theorem Q1j (h:List Int) {i:Nat} (hi:i < h.length) (v:Int) (j:Nat):(h.set i v).getD j 0=if j=i then v else h.getD j 0:=by
 rw [O3]
 by_cases e:j=i
 ·subst e; rw [D4 hi,bN rfl]; rfl
 ·rw [O9 (fun z=>e z.symm),bO e,O3]
theorem Qbg {p:Nat->Prop} [DecidablePred p] (n:Nat) (h:List Int) {i:Nat} (hi:i < h.length) (hn:i < n) (v:Int):Yh n (fun j=>if p j then 0 else (h.set i v).getD j 0)=Yh n (fun j=>if p j then 0 else h.getD j 0) + if p i then 0 else v - h.getD i 0:=by
 rw [<- Q88 hn (fun i=>if p i then 0 else v - h.getD i 0),<- Q0g];refine Jw fun j _=>?_
 rw [Q1j h hi]
 by_cases e:j=i
 ·subst e
  by_cases q:p j <;> simp [q]; omega
 ·by_cases q:p j <;> simp [q,e]
theorem Q7k (c:List (Nat × Nat)) (mom:Nat) (h:List Int) {i:Nat} (hi:i < h.length) (v:Int):hS c mom (h.set i v)=hS c mom h + if (i,mom)∈c then 0 else v - h.getD i 0:=by
 unfold hS;rw [D5];exact Qbg (p:=fun j=>(j,mom)∈c) h.length h hi hi v
theorem Qkm (ks:List Tr) (c:List (Nat × Nat)) (sv:List Int) (hk:k < ks.length) (hs:k < sv.length) (v:Int):sS ks c (sv.set k v)=sS ks c sv + if ((ks.getD k ((0,0),0)).1.2,(ks.getD k ((0,0),0)).1.1)∈c then 0 else v - sv.getD k 0:=Qbg (p:=fun k=>((ks.getD k ((0,0),0)).1.2,(ks.getD k ((0,0),0)).1.1)∈c) ks.length sv hs hk v
theorem jj {f g:Nat->Int} (h:∀ i,i < n->f i<=g i):Yh n f<=Yh n g:=by
 induction n with
 | zero=>exact Int.le_refl _
 | succ n ih=>rw [Jf,Jf]; have:=ih fun i hi=>h i (by omega); have:=h n (by omega); omega
theorem Qnt (c:List (Nat × Nat)) (m:Nat) (a b:List Int) (h:a.length=b.length):hS c m ((a.zip b).map fun z=>z.1 + z.2)=hS c m a + hS c m b:=by
 unfold hS;rw [O1,List.length_zip,<- h,Nat.min_self,<- Q0g];refine Jw fun i hi=>?_
 rw [O3,E8,O2 (by rw [List.length_zip]; omega),List.getElem_zip,O3,O2 hi,O3,O2 (show i < b.length by omega)]
 by_cases q:(i,m)∈c <;> simp [q]
theorem Qv5 (c:List (Nat × Nat)) (m:Nat) (l:List Int):hS c m (l.map fun _=>0)=0:=by
 unfold hS;rw [Jw (g:=fun _=>0) fun i _=>?_,Vn]
 rw [O3,E8];cases l[i]? <;> simp
structure PB (ks:List Tr) (kz:Nat->Nat->Prop) (sv:List Int):Prop where
 z:∀ k,k < ks.length->kz k (ks.getD k ((0,0),0)).1.1->sv.getD k 0=0
 b:∀ k,k < ks.length->sv.getD k 0<=(ks.getD k ((0,0),0)).2
def wBm (rs:List (List Tr)) (c:List (Nat × Nat)) (m:Nat):Int:=Yh m fun t=>wR c t (rs.getD t [])
structure PM (xs:List Int) (rs:List (List Tr)) (ks:List Tr) (mom:Nat) (h sv:List Int):Prop where
 b:PB ks (fun _ m=>mom<=m) sv
 p:mom<=rs.length->∀ c,Clo rs.length c->hS c mom h + sS ks c sv<=wA xs c + wBm rs c mom
 f:mom=rs.length + 1->∀ c,Clo rs.length c->sS ks c sv<=wA xs c + wB rs c
structure P2 (xs:List Int) (rs:List (List Tr)) (ks:List Tr) (mom k:Nat) (h sv:List Int):Prop where
 b:PB ks (fun k' m=>mom < m\/m=mom/\k<=k') sv
 p:∀ c,Clo rs.length c->hS c mom h + sS ks c sv<=wA xs c + wBm rs c mom
theorem Qhb {mom:Nat} (k:Nat) (h sv:List Int) (d:Int) (hk:k < ks.length) (hm:(ks.getD k ((0,0),0)).1.1=mom) (hi:(ks.getD k ((0,0),0)).1.2 < h.length) (hs:sv.length=ks.length) (h3:d<=(ks.getD k ((0,0),0)).2) (p:P2 xs rs ks mom k h sv):P2 xs rs ks mom (k + 1) (h.set (ks.getD k ((0,0),0)).1.2 (h.getD (ks.getD k ((0,0),0)).1.2 0 - d)) (sv.set k d):=by
 have z0:=p.b.z k hk (.inr ⟨hm,O8 _⟩);refine ⟨⟨fun k' hk' hz=>?_,fun k' hk'=>?_⟩,fun c hc=>?_⟩
 ·rw [Q1j sv (by omega)]
  by_cases e:k'=k
  ·subst e; rcases hz with hz | hz <;> omega
  ·rw [bO e];exact p.b.z k' hk' (hz.imp id fun z=>⟨z.1,by omega⟩)
 ·rw [Q1j sv (by omega)]
  by_cases e:k'=k
  ·subst e; rw [bN rfl]; exact h3
  ·rw [bO e]; exact p.b.b k' hk'
 ·have:=p.p c hc;rw [Q7k c mom h hi,Qkm ks c sv hk (by omega),z0,hm]
  by_cases q:((ks.getD k ((0,0),0)).1.2,mom)∈c
  ·rw [bN q,bN q]; omega
  ·rw [bO q,bO q]; omega
theorem Qhc {mom:Nat} (k:Nat) (h sv:List Int) (hm:(ks.getD k ((0,0),0)).1.1≠mom) (p:P2 xs rs ks mom k h sv):P2 xs rs ks mom (k + 1) h sv:=⟨⟨fun k' hk' hz=>p.b.z k' hk' (hz.imp id fun z=>⟨z.1,by omega⟩),p.b.b⟩,p.p⟩
def P3 (xs:List Int) (rs:List (List Tr)) (ks:List Tr) (mom:Nat) (sv:List Int) (ts:List Tr) (h cg:List Int):Prop:=∀ c,Clo rs.length c->hS c mom h + hS c (mom + 1) cg + sS ks c sv + wR c mom ts<=wA xs c + wBm rs c mom + wR c mom (rs.getD mom [])
theorem Q3g (c:List (Nat × Nat)) (m:Nat) (t:Tr) (ts:List Tr):wR c m (t :: ts)=(if (t.1.1,m)∈c/\(t.1.2,m + 1)∉c then t.2 else 0) + wR c m ts:=by unfold wR; rw [D9,M6]
theorem Qh9 {mom:Nat} (t:Tr) (ts:List Tr) (h cg:List Int) (d:Int) (h1:t.1.1 < h.length) (h2:t.1.2 < cg.length) (h3:0<=d) (_:d<=h.getD t.1.1 0) (h4:d<=t.2) (p:P3 xs rs ks mom sv (t :: ts) h cg):P3 xs rs ks mom sv ts (h.set t.1.1 (h.getD t.1.1 0 - d)) (cg.set t.1.2 (cg.getD t.1.2 0 + d)):=fun c hc=>by
 have:=p c hc;rw [Q3g] at this;rw [Q7k c mom h h1,Q7k c (mom + 1) cg h2]
 by_cases q:(t.1.1,mom)∈c <;> by_cases q2:(t.1.2,mom + 1)∈c <;> simp only [q,q2,if_true,if_false,not_true,not_false_eq_true,and_true,and_false,true_and,false_and] at this ⊢ <;> omega
theorem Qha {mom:Nat} (t:Tr) (ts:List Tr) (h cg:List Int) (h4:0<=t.2) (p:P3 xs rs ks mom sv (t :: ts) h cg):P3 xs rs ks mom sv ts h cg:=fun c hc=>by
 have:=p c hc;rw [Q3g] at this
 split at this <;> omega
theorem Qi4 {r mom:Nat} (hc:Clo r c) (hm:mom < r) (h:List Int) (h0:∀ k:Nat,0<=h.getD k 0):hS c (mom + 1) h<=hS c mom h:=jj fun i _=>by
 have:=h0 i
 by_cases q:(i,mom)∈c
 ·rw [bN q,bN (hc i mom q hm)]; exact Int.le_refl _
 ·rw [bO q]; split <;> omega
theorem Qse (c:List (Nat × Nat)) (m:Nat) (h:List Int) (h0:∀ k:Nat,0<=h.getD k 0):0<=hS c m h:=Q4r fun i _=>by have:=h0 i; split <;> omega
theorem Qm3 (hs:sv.length=ks.length) (p:PM xs rs ks (rs.length + 1) h sv) (hc:Clo rs.length c):sv.sum<=wA xs c + wB rs c + wC ks c:=by
 have h1:=p.f rfl c hc;have h2:sv.sum<=sS ks c sv + wC ks c:=by
  unfold wC sS;rw [Q4w sv,hs,zd ks ((0,0),0)];show _<=_ + Yh ks.length _;rw [<- Q0g];refine jj fun k hk=>?_
  have:=p.b.b k hk
  split <;> omega
 omega
theorem Qgx (xs:List Int) (rs:List (List Tr)) (ks:List Tr) (hk:∀ t∈ks,0<=t.2):PM xs rs ks 0 xs (ks.map fun _=>0):=by
 have z:∀ k,(ks.map fun _=>(0:Int)).getD k 0=0:=fun k=>by
  rw [O3,E8];cases ks[k]? <;> rfl
 refine ⟨⟨fun k _ _=>z k,fun k hk'=>?_⟩,fun _ c _=>?_,fun z=>by omega⟩
 ·rw [z k,O3,O2 hk'];exact hk _ (F5 hk')
 ·have:sS ks c (ks.map fun _=>0)=0:=by
   unfold sS;rw [Jw (g:=fun _=>0) fun i _=>by rw [z i]; split <;> rfl,Vn]
  rw [this];show hS c 0 xs + 0<=wA xs c + 0;exact Int.le_refl _
theorem Qp0 (Q:Qok xs rs ks) {M V:Nat} {q:PV} (mom:Nat) (hmom:mom<=rs.length) (hml:ms.length<=4000) (I:DI S0 L xs.length ks.length A Hc M V h ms sv) (pm:PM xs rs ks mom h sv) (a9 a10 a11 a12 a13 a14:Option PV) :
  ∃ A' Hc' h' ms' sv' b9 b10 b11 b12 b13 b14,Z6 (dG L q (.tup (xs.map .int)) (.tup (rs.map tsV)) (.tup (ks.map trV)) (some (.ref Hc)) (some (.ref M)) (some (.ref V)) (some (.int (mom:Int))) a9 a10 a11 a12 a13 a14) A=.nx (dG L q (.tup (xs.map .int)) (.tup (rs.map tsV)) (.tup (ks.map trV)) (some (.ref Hc')) (some (.ref M)) (some (.ref V)) (some (.int (mom:Int))) b9 b10 b11 b12 b13 b14) A'/\DI S0 L xs.length ks.length A' Hc' M V h' ms' sv'/\ms'.length<=ms.length + 100/\PM xs rs ks (mom + 1) h' sv':=by
 have x4:=Q.x4;obtain ⟨A1,h1,sv1,b9,e1,I1,l1,q1⟩:=dr2 (fun t ht=>⟨(Q.kb t ht).2.1,by have:=(Q.kb t ht).2.2.1; omega,(Q.kb t ht).2.2.2⟩) (q:=q) (s:=.tup (xs.map .int)) (r:=.tup (rs.map tsV)) mom (P2 xs rs ks mom) (fun k h sv d u1 u2 u3 _ u4 _ _ u5 u6=>Qhb k h sv d u1 u2 u3 u4 u5 u6) Qhc a9 a10 a11 a12 a13 a14 I (by have:=Q.k5; omega) ⟨⟨fun k hk hz=>pm.b.z k hk (by rcases hz with hz | hz <;> omega),pm.b.b⟩,pm.p hmom⟩;have c2:=Jn (ga:=Q5 0) (me:=Y3) (w:=[]) (Γ0:=[none]) (st:=A1) (g:=PV.int) (f:=fun _=>PV.int 0) (Qv _) (ys:=xs) fun x _=>⟨_,rfl,rfl⟩
 rw [show xs.map (fun _:Int=>PV.int 0)=(xs.map fun _=>(0:Int)).map .int by rw [F4]; rfl] at c2
 obtain ⟨A2,hA2⟩:∃ A2,A1 ++ [Cell.lst ((xs.map fun _=>(0:Int)).map .int)]=A2:=⟨_,rfl⟩
 have lt:∀ {c:Nat} {o:Cell},A1[c]?=some o->c < A1.length/\A2[c]?=some o:=fun {c o} e=>by
  have:=(O0.mp e).1;exact ⟨this,by rw [<- hA2,O5 this]; exact e⟩
 have I2:DI S0 L xs.length ks.length A2 Hc M V h1 ms sv1:=by
  obtain ⟨c,hc⟩:=I1.T;refine ⟨⟨c,(lt hc).2⟩,(lt I1.hH).2,I1.hn,I1.h0,(lt I1.mM).2,I1.mi,(lt I1.vV).2,I1.vl,⟨by rw [<- hA2,O4]; have:=I1.g.len; omega,fun x hx hn=>?_⟩,I1.dL,I1.dH,I1.dM,I1.dV,I1.e1,I1.e2,I1.e3⟩;rw [<- hA2,O5 (E4 hx I1.g.len)];exact I1.g.keep x hx hn
 have J2:DC S0 xs.length A2 Hc M V A1.length (xs.map fun _=>0):=⟨by rw [<- hA2]; exact ye _ _,O1 _,fun k=>by
  rw [O3,E8];cases xs[k]? <;> exact Int.le_refl _,I1.g.len,fun z=>by have:=(lt I1.hH).1; omega,fun z=>by have:=(lt I1.mM).1; omega,fun z=>by have:=(lt I1.vV).1; omega⟩
 have step:∃ A3 h3 ms3 cg b11 b12 b13 b14,Yy (toB (mOp oLt (Q3 8) (Qm Y0 (Q1 (Q3 3) Q6)))) (Yz (Jr (Qf (Q5 11) (Qf (Q5 12) (Qf (Q5 13) Js)))) (Wj (mOp oIx (Q3 3) (Q3 8))) Je) Zd (dG L q (.tup (xs.map .int)) (.tup (rs.map tsV)) (.tup (ks.map trV)) (some (.ref Hc)) (some (.ref M)) (some (.ref V)) (some (.int (mom:Int))) b9 (some (.ref A1.length)) a11 a12 a13 a14) A2=.nx (dG L q (.tup (xs.map .int)) (.tup (rs.map tsV)) (.tup (ks.map trV)) (some (.ref Hc)) (some (.ref M)) (some (.ref V)) (some (.int (mom:Int))) b9 (some (.ref A1.length)) b11 b12 b13 b14) A3/\DI S0 L xs.length ks.length A3 Hc M V h3 ms3 sv1/\DC S0 xs.length A3 Hc M V A1.length cg/\ms3.length<=ms.length + 100/\(if mom < rs.length then P3 xs rs ks mom sv1 [] h3 cg else h3=h1/\True):=by
  have c:=J9 (Q7 (o:=oLt) (a:=Q3 8) (b:=Qm Y0 (Q1 (Q3 3) Q6)) (Γ:=dG L q (.tup (xs.map .int)) (.tup (rs.map tsV)) (.tup (ks.map trV)) (some (.ref Hc)) (some (.ref M)) (some (.ref V)) (some (.int (mom:Int))) b9 (some (.ref A1.length)) a11 a12 a13 a14) rfl (Jp (Q4 rfl rfl) (by rw [Ks,O1])) (Qdw A2 mom rs.length))
  by_cases p:(mom:Int) < (rs.length:Int)
  ·rw [bQ p] at c;have hm:rs.getD mom []∈rs:=by rw [O3,O2 (by omega)]; exact F5 _
   have tl:=(Q.rb _ hm).len;obtain ⟨A3,h3,ms3,cg,b11,b12,b13,b14,e,I3,J3,hl,_,q3⟩:=dr3 (q:=q) (s:=.tup (xs.map .int)) (r:=.tup (rs.map tsV)) (k:=.tup (ks.map trV)) mom (P3 xs rs ks mom sv1) Qh9 Qha (w:=[]) rfl b9 (rs.getD mom []) A2 h1 ms sv1 _ a11 a12 a13 a14 (fun t ht=>by
    obtain ⟨⟨g1,g2,_⟩,g3,g4⟩:=(Q.rb _ hm).ok t ht;exact ⟨g1,g2,by omega,g4⟩) (by omega) I2 J2 (fun c hc=>by have:=q1.p c hc; rw [Qv5]; omega)
   have ix:=Qj5 (rs:=rs) (t:=(mom:Int)) ⟨by omega,p⟩ A2;rw [Int.toNat_natCast] at ix;exact ⟨A3,h3,ms3,cg,b11,b12,b13,b14,Q1h c (Zj (Vv (Q7 rfl rfl ix) rfl (by rw [O1]; omega)) e),I3,J3,by omega,by rw [bN (by omega)]; exact q3⟩
  ·rw [bP p] at c;exact ⟨A2,h1,ms,_,a11,a12,a13,a14,X2 c rfl,I2,J2,by omega,by rw [bO (by omega)]; exact ⟨rfl,trivial⟩⟩
 obtain ⟨A3,h3,ms3,cg,b11,b12,b13,b14,e3,I3,J3,hl3,q3⟩:=step;have c4:=Jn (ga:=Jr (Qf (Q5 0) (Qf (Q5 1) Js))) (me:=Y2) (w:=[(Hc,.lst (h3.map .int))] ++ [(A1.length,.lst (cg.map .int))]) (Γ0:=[none,none]) (st:=A3) (g:=fun z:Int × Int=>PV.tup [.int z.1,.int z.2]) (f:=fun z=>PV.int (z.1 + z.2)) (fun x hx=>by
  rcases D0.mp hx with hx | hx
  ·have:x=(Hc,.lst (h3.map .int)):=by simpa using hx
   rw [this]; exact I3.hH
  ·have:x=(A1.length,.lst (cg.map .int)):=by simpa using hx
   rw [this]; exact J3.c) (ys:=h3.zip cg) fun z _=>⟨_,rfl,Q7 rfl rfl (Xv _ _ _)⟩
 rw [<- Qu3 PV.int PV.int,show (h3.zip cg).map (fun z:Int × Int=>PV.int (z.1 + z.2))=((h3.zip cg).map fun z=>z.1 + z.2).map .int by rw [F4]; rfl] at c4
 have i3n:=I3.hn;have j3n:=J3.cn;have lt3:∀ {c:Nat} {o:Cell},A3[c]?=some o->c < A3.length/\(A3 ++ [Cell.lst (((h3.zip cg).map fun z=>z.1 + z.2).map .int)])[c]?=some o:=fun {c o} e=>by
  have:=(O0.mp e).1;exact ⟨this,by rw [O5 this]; exact e⟩
 refine ⟨A3 ++ [.lst (((h3.zip cg).map fun z=>z.1 + z.2).map .int)],A3.length,(h3.zip cg).map fun z=>z.1 + z.2,ms3,sv1,b9,some (.ref A1.length),b11,b12,b13,b14,?_,?_,hl3,?_⟩
 ·exact Qb e1 (Qb ((Qj (Yv (Yu (Vv rfl rfl (by rw [O1]; omega)) c2))).trans (by rw [hA2]; rfl)) (Qb e3 (Qj (Yv (Yu (Qjd rfl rfl (Kx I3.hH) (Kx J3.c) (by rw [O1]; omega)) c4)))))
 ·obtain ⟨c,hc⟩:=I3.T;refine ⟨⟨c,(lt3 hc).2⟩,ye _ _,by rw [O1,List.length_zip]; omega,Qi7 h3 cg (by omega) I3.h0 J3.c0,(lt3 I3.mM).2,I3.mi,(lt3 I3.vV).2,I3.vl,⟨by rw [O4]; have:=I3.g.len; omega,fun x hx hn=>?_⟩,I3.dL,I3.g.len,I3.dM,I3.dV,fun z=>by have:=(lt3 I3.mM).1; omega,fun z=>by have:=(lt3 I3.vV).1; omega,I3.e3⟩
  rw [O5 (E4 hx I3.g.len)];exact I3.g.keep x hx hn
 ·refine ⟨⟨fun k hk hz=>q1.b.z k hk (.inl hz),q1.b.b⟩,fun hm c hc=>?_,fun hm c hc=>?_⟩
  ·rw [bN (by omega)] at q3;have u1:=q3 c hc;have u2:=Qi4 hc (show mom < rs.length by omega) h3 I3.h0;have u3:wBm rs c (mom + 1)=wBm rs c mom + wR c mom (rs.getD mom []):=Jf _ _;rw [Qnt c (mom + 1) h3 cg (by omega),u3];have u4:wR c mom []=0:=rfl;omega
  ·have hm:mom=rs.length:=by omega
   have u1:=q1.p c hc;have u2:=Qse c mom h1 I1.h0;rw [show wB rs c=wBm rs c mom by rw [hm]; rfl];omega
theorem Qer (Q:Qok xs rs ks) (T:Tp S L):∃ (S':Q0) (ms:List Mv4) (sv:List Int) (Mq Vq:Nat),Z0 [.ref L,qV xs rs ks] S=.ok (.tup [.ref Mq,.ref Vq]) S'/\S'[Mq]?=some (.lst (ms.map mvV))/\S'[Vq]?=some (.lst (sv.map .int))/\(∀ m∈ms,InN xs.length m)/\ms.length<=1000/\sv.length=ks.length/\Tp S' L/\Gw (fun t=>t=L) S S'/\S.length<=Mq/\S.length<=Vq/\∀ c,Clo rs.length c->sv.sum<=wA xs c + wB rs c + wC ks c:=by
 have r4:=Q.r4;have hL:=T.lt;have c1:=Jn (ga:=Q5 0) (me:=Z4) (w:=[]) (Γ0:=[none]) (st:=(S ++ [Cell.lst (xs.map .int)]) ++ [Cell.lst []]) (g:=trV) (f:=fun _=>PV.int 0) (Qv _) (ys:=ks) fun x _=>⟨_,rfl,rfl⟩
 rw [show ks.map (fun _:Tr=>PV.int 0)=(ks.map fun _=>(0:Int)).map .int by rw [F4]; rfl] at c1
 obtain ⟨A,hA⟩:∃ A,((S ++ [Cell.lst (xs.map .int)]) ++ [Cell.lst []]) ++ [Cell.lst ((ks.map fun _=>(0:Int)).map .int)]=A:=⟨_,rfl⟩
 have hA':A=S ++ [Cell.lst (xs.map .int),.lst [],.lst ((ks.map fun _=>(0:Int)).map .int)]:=by rw [<- hA]; simp
 have at_:∀ i,(A)[S.length + i]?=[Cell.lst (xs.map .int),.lst [],.lst ((ks.map fun _=>(0:Int)).map .int)][i]?:=fun i=>by rw [hA',D7 (by omega)]; congr 1; omega
 have I0:DI S L xs.length ks.length A S.length (S.length + 1) (S.length + 2) xs [] (ks.map fun _=>0):=by
  refine ⟨T.of (by rw [hA',O5 hL]),at_ 0,rfl,fun k=>?_,at_ 1,fun m hm=>(by cases hm),at_ 2,O1 _,by rw [hA']; exact Gw.add _ _ _,hL,O8 _,by omega,by omega,by omega,by omega,by omega⟩;rw [O3]
  by_cases p:k < xs.length
  ·rw [O2 p]; exact (Q.xb _ (F5 p)).1
  ·rw [L0 (by omega)]; exact Int.le_refl _
 obtain ⟨Γ',A',e,Hc,h,ms,sv,a8,a9,a10,a11,a12,a13,a14,rfl,I',hl,pe⟩:=Jm (g:=fun k:Nat=>PV.int (k:Int)) (xs:=List.range (rs.length + 1)) (ga:=Q5 8) (body:=Z6) (w:=[]) (Γ:=dG L (qV xs rs ks) (.tup (xs.map .int)) (.tup (rs.map tsV)) (.tup (ks.map trV)) (some (.ref S.length)) (some (.ref (S.length + 1))) (some (.ref (S.length + 2))) none none none none none none none) (st:=A)
  (fun i Γ st=>∃ Hc h ms sv a8 a9 a10 a11 a12 a13 a14,Γ=dG L (qV xs rs ks) (.tup (xs.map .int)) (.tup (rs.map tsV)) (.tup (ks.map trV)) (some (.ref Hc)) (some (.ref (S.length + 1))) (some (.ref (S.length + 2))) a8 a9 a10 a11 a12 a13 a14/\DI S L xs.length ks.length st Hc (S.length + 1) (S.length + 2) h ms sv/\ms.length<=100 * i/\PM xs rs ks i h sv)
  (fun _ _ _ _=>Qv _)
  (fun i x Γ st hx ⟨Hc,h,ms,sv,a8,a9,a10,a11,a12,a13,a14,hΓ,I,hl,pm⟩=>by
   obtain ⟨hm,rfl⟩:i < rs.length + 1/\x=i:=by
    obtain ⟨h1,h2⟩:=O0.mp hx;rw [E5] at h1;rw [List.getElem_range] at h2;exact ⟨h1,h2.symm⟩
   subst hΓ;obtain ⟨A1,Hc1,h1,ms1,sv1,b9,b10,b11,b12,b13,b14,e1,I1,hl1,pm1⟩:=Qp0 Q (q:=qV xs rs ks) x (by omega) (by omega) I pm a9 a10 a11 a12 a13 a14;exact ⟨_,rfl,_,_,e1,Hc1,h1,ms1,sv1,_,b9,b10,b11,b12,b13,b14,rfl,I1,by omega,pm1⟩)
  ⟨_,_,_,_,_,_,_,_,_,_,_,rfl,I0,Nat.zero_le _,Qgx xs rs ks fun t ht=>by have:=(Q.kb t ht).2.2.1; omega⟩
 rw [E5] at hl pe;rw [<- Zq] at e;refine ⟨A',ms,sv,S.length + 1,S.length + 2,?_,I'.mM,I'.vV,I'.mi,by omega,I'.vl,I'.T,I'.g,I'.dM,I'.dV,fun c hc=>Qm3 I'.vl pe hc⟩;have s1:Qr 5 (Yp (j8 (Q3 2))) (dG L (qV xs rs ks) (.tup (xs.map .int)) (.tup (rs.map tsV)) (.tup (ks.map trV)) none none none none none none none none none none) S=.nx (dG L (qV xs rs ks) (.tup (xs.map .int)) (.tup (rs.map tsV)) (.tup (ks.map trV)) (some (.ref S.length)) none none none none none none none none none) (S ++ [.lst (xs.map .int)]):=Qj (Yv (Qdx rfl rfl));have s2:Qr 6 (Yp (Yr Q6)) (dG L (qV xs rs ks) (.tup (xs.map .int)) (.tup (rs.map tsV)) (.tup (ks.map trV)) (some (.ref S.length)) none none none none none none none none none) (S ++ [.lst (xs.map .int)])=.nx (dG L (qV xs rs ks) (.tup (xs.map .int)) (.tup (rs.map tsV)) (.tup (ks.map trV)) (some (.ref S.length)) (some (.ref (S.length + 1))) none none none none none none none none) ((S ++ [.lst (xs.map .int)]) ++ [.lst []]):=by
  refine (Qj (Yv rfl)).trans ?_;rw [O4]; rfl
 have s3:Qr 7 (Yp (Qx [none] (Q5 0) (Wj (Q3 4)) Jk Z4)) (dG L (qV xs rs ks) (.tup (xs.map .int)) (.tup (rs.map tsV)) (.tup (ks.map trV)) (some (.ref S.length)) (some (.ref (S.length + 1))) none none none none none none none none) ((S ++ [.lst (xs.map .int)]) ++ [.lst []])=.nx (dG L (qV xs rs ks) (.tup (xs.map .int)) (.tup (rs.map tsV)) (.tup (ks.map trV)) (some (.ref S.length)) (some (.ref (S.length + 1))) (some (.ref (S.length + 2))) none none none none none none none) A:=by
  refine (Qj (Yv (Yu (Vv rfl rfl (by rw [O1]; have:=Q.k5; omega)) c1))).trans ?_;rw [hA,O4,O4]; rfl
 exact Kq (show Yx [some (.ref L),some (qV xs rs ks),none,none,none,none,none,none,none,none,none,none,none,none,none] S=_ from Qb (Q1t rfl rfl) (Qb s1 (Qb s2 (Qb s3 (Qb (Zj (jq (n:=rs.length + 1) (by omega) (Q7 (Jp (Q4 rfl rfl) (by rw [Ks,O1])) rfl (Xv _ _ _))) e) (Zy (Qw (Q4 rfl (Q4 rfl rfl)) (G6 rfl))))))))
theorem Qbp:∀ {l:List Int},(∀ x∈l,0<=x)->0<=l.sum
 | [],_=>Int.le_refl _
 | a :: l,h=>by
  have h1:=h a D1;have h2:=Qbp fun x hx=>h x (O7 _ hx)
  rw [M6]; omega
theorem Qdu {a:Nat × Nat} (h:LxP a a):False:=by unfold LxP at h; omega
theorem sx:∀ {a b:List (Nat × Nat)},a.Pairwise LxP->b.Pairwise LxP->(∀ z,z∈a <-> z∈b)->a=b
 | [],[],_,_,_=>rfl
 | [],b :: bs,_,_,h=>absurd ((h b).mpr D1) List.not_mem_nil
 | a :: as,[],_,_,h=>absurd ((h a).mp D1) List.not_mem_nil
 | a :: as,b :: bs,pa,pb,h=>by
  obtain ⟨a1,a2⟩:=List.pairwise_cons.mp pa;obtain ⟨b1,b2⟩:=List.pairwise_cons.mp pb;have e:a=b:=by
   rcases E2.mp ((h a).mp D1) with e | e
   ·exact e
   ·rcases E2.mp ((h b).mpr D1) with f | f
    ·exact f.symm
    ·have u:=b1 a e;have v:=a1 b f;unfold LxP at u v;omega
  subst e;rw [sx a2 b2 fun z=>⟨fun hz=>?_,fun hz=>?_⟩]
  ·rcases E2.mp ((h z).mp (O7 _ hz)) with rfl | w
   ·exact (Qdu (a1 z hz)).elim
   ·exact w
  ·rcases E2.mp ((h z).mpr (O7 _ hz)) with rfl | w
   ·exact (Qdu (b1 z hz)).elim
   ·exact w
theorem Qs7 {y z:Nat × Nat} (h:leL [(y.1:Int),(y.2:Int)] [(z.1:Int),(z.2:Int)]) (hn:¬ [(y.1:Int),(y.2:Int)]=[(z.1:Int),(z.2:Int)]):LxP y z:=by
 rcases (Q00 _ _).mp h with h | h
 ·exact absurd h hn
 ·unfold LxP;unfold W9 at h
  split at h
  ·unfold W9 at h
   split at h
   ·cases h
   ·have:=of_decide_eq_true h;omega
  ·have:=of_decide_eq_true h;omega
theorem Qp3 (T:FT ws ls F):∃ c:List (Nat × Nat),c.map rdV=(Vw (((kys F).filter fun v=>!decide (v=none)).map ndI)).map Xx/\(∀ z,z∈c <-> some z∈kys F)/\c.Pairwise LxP:=by
 obtain ⟨l,hl⟩:∃ l,Vw (((kys F).filter fun v=>!decide (v=none)).map ndI)=l:=⟨_,rfl⟩
 have mem:∀ x,x∈l <-> ∃ z,some z∈kys F/\x=ndI (some z):=fun x=>by
  rw [<- hl,(Xc _).mem_iff,D8];constructor
  ·rintro ⟨v,hv,rfl⟩;obtain ⟨h1,h2⟩:=List.mem_filter.mp hv;cases v with
   | none=>simp at h2
   | some z=>exact ⟨z,h1,rfl⟩
  ·rintro ⟨z,hz,rfl⟩;exact ⟨some z,List.mem_filter.mpr ⟨hz,by simp⟩,rfl⟩
 have nd:l.Nodup:=by
  rw [<- hl,(Xc _).nodup_iff];refine List.pairwise_map.mpr ((T.nd.filter _).imp_of_mem fun {a b} ha hb hab e=>hab ?_)
  have ha:=(List.mem_filter.mp ha).2;have hb:=(List.mem_filter.mp hb).2;cases a with
  | none=>simp at ha
  | some y=>cases b with
   | none=>simp at hb
   | some z=>
    have e:[(y.1:Int),(y.2:Int)]=[(z.1:Int),(z.2:Int)]:=e;simp at e;exact congrArg some (Prod.ext (by omega) (by omega))
 have so:l.Pairwise leL:=by rw [<- hl]; exact Xb _
 rw [hl];refine ⟨l.map fun x=>((x.getD 0 0).toNat,(x.getD 1 0).toNat),?_,fun z=>?_,?_⟩
 ·rw [F4];refine G8 fun x hx=>?_
  obtain ⟨z,_,rfl⟩:=(mem x).mp hx;rfl
 ·rw [D8];constructor
  ·rintro ⟨x,hx,rfl⟩;obtain ⟨y,hy,rfl⟩:=(mem x).mp hx;exact hy
  ·intro h;exact ⟨ndI (some z),(mem _).mpr ⟨z,h,rfl⟩,rfl⟩
 ·refine List.pairwise_map.mpr ((so.and nd).imp_of_mem fun {a b} ha hb hab=>?_)
  obtain ⟨y,_,rfl⟩:=(mem a).mp ha;obtain ⟨z,_,rfl⟩:=(mem b).mp hb;exact Qs7 hab.1 hab.2
def Ku (r:Nat):Nat->List (List (Nat × Nat))
 | 0=>[[]]
 | h + 1=>(Ku r h).flatMap fun c=>(List.range (r + 2)).map fun f=>c ++ Xs r h f
theorem Q0b {r:Nat} (hr:r<=4):∀ {n:Nat},n<=8->∀ c∈Ku r n,CutOk n r c/\c.length<=5 * n
 | 0,_,c,hc=>by
  rw [show c=[] by simpa [Ku] using hc];exact ⟨CutOk.nil 0 r,Nat.zero_le _⟩
 | n + 1,hn,c,hc=>by
  unfold Ku at hc;obtain ⟨c',h1,h2⟩:=List.mem_flatMap.mp hc;obtain ⟨f,_,rfl⟩:=D8.mp h2;obtain ⟨h3,h4⟩:=Q0b hr (by omega) c' h1;exact h3.add (n:=n + 1) (by omega) hr h4 (by omega)
theorem Q1v {r:Nat} (hr:r<=4):∀ n,(Ku r n).length<=6 ^ n
 | 0=>O8 _
 | n + 1=>by
  have ih:=Q1v hr n;unfold Ku;rw [List.length_flatMap];have:∀ l:List (List (Nat × Nat)),(l.map fun c=>((List.range (r + 2)).map fun f=>c ++ Xs r n f).length).sum=(r + 2) * l.length:=by
   intro l
   induction l with
   | nil=>rfl
   | cons a l ih=>rw [D9,M6,ih,O1,E5,E7,Nat.mul_succ,Nat.add_comm]
  rw [this,Nat.pow_succ,Nat.mul_comm];exact Nat.mul_le_mul ih (by omega)
theorem Q67 {r n:Nat} {c:List (Nat × Nat)} (hc:Clo r c):∀ d,d<=r + 1->∃ f,f<=r + 1/\∀ t,r + 1 - d<=t->t<=r->((n,t)∈c <-> f<=t)
 | 0,_=>⟨r + 1,O8 _,fun t h1 h2=>by omega⟩
 | d + 1,hd=>by
  obtain ⟨f,h1,h2⟩:=Q67 hc d (by omega)
  by_cases q:(n,r - d)∈c
  ·refine ⟨r - d,by omega,fun t h3 h4=>⟨fun _=>by omega,fun _=>?_⟩⟩
   have:∀ j,r - d + j<=r->(n,r - d + j)∈c:=by
    intro j
    induction j with
    | zero=>exact fun _=>q
    | succ j ih=>
     intro hj;have hj:r - d + j + 1<=r:=hj;exact hc n (r - d + j) (ih (by omega)) (by omega)
   have:=this (t - (r - d)) (by omega);rw [show r - d + (t - (r - d))=t by omega] at this;exact this
  ·by_cases z:f<=r - d
   ·by_cases y:d=0
    ·subst y;refine ⟨r + 1,O8 _,fun t h3 h4=>⟨fun w=>?_,fun w=>by omega⟩⟩
     rw [show t=r - 0 by omega] at w;exact absurd w q
    ·refine ⟨r - d + 1,by omega,fun t h3 h4=>?_⟩
     by_cases e:t=r - d
     ·rw [e]; exact ⟨fun w=>absurd w q,fun w=>by omega⟩
     ·rw [h2 t (by omega) h4]; omega
   ·refine ⟨f,h1,fun t h3 h4=>?_⟩
    by_cases e:t=r - d
    ·rw [e]; exact ⟨fun w=>absurd w q,fun w=>by omega⟩
    ·exact h2 t (by omega) h4
theorem Q5u {r:Nat} (hr:r<=4):∀ {n:Nat} {c:List (Nat × Nat)},n<=8->c.Pairwise LxP->(∀ z∈c,z.1 < n/\z.2<=r)->Clo r c->c∈Ku r n
 | 0,c,_,_,hp,_=>by
  cases c with
  | nil=>exact G7.mpr rfl
  | cons z c=>have:=(hp z D1).1; omega
 | n + 1,c,hn,hw,hp,hc=>by
  obtain ⟨f,hf1,hf2⟩:=Q67 (n:=n) hc (r + 1) (O8 _);obtain ⟨c',hc'⟩:∃ c',c.filter (fun z=>decide (z.1 < n))=c':=⟨_,rfl⟩
  have m':∀ z,z∈c' <-> z∈c/\z.1 < n:=fun z=>by rw [<- hc',List.mem_filter,decide_eq_true_iff]
  have i1:c'∈Ku r n:=Q5u hr (by omega) (by rw [<- hc']; exact hw.filter _) (fun z hz=>⟨((m' z).mp hz).2,(hp z ((m' z).mp hz).1).2⟩) fun h t h1 h2=>by
   have:=(m' _).mp h1;exact (m' _).mpr ⟨hc h t this.1 h2,this.2⟩
  obtain ⟨o1,o2⟩:=Q0b hr (by omega) c' i1;obtain ⟨o3,_⟩:=o1.add (n:=n + 1) (f:=f) (by omega) hr o2 (by omega);unfold Ku;refine List.mem_flatMap.mpr ⟨c',i1,D8.mpr ⟨f,G9.mpr (by omega),(sx hw o3.inc fun z=>?_).symm⟩⟩;rw [D0,m',col_mem];constructor
  ·intro hz;have:=hp z hz
   by_cases e:z.1 < n
   ·exact .inl ⟨hz,e⟩
   ·refine .inr ⟨by omega,(hf2 z.2 (by omega) this.2).mp ?_,this.2⟩;rw [show n=z.1 by omega]; exact hz
  ·rintro (h | ⟨h1,h2,h3⟩)
   ·exact h.1
   ·have:=(hf2 z.2 (by omega) h3).mpr h2;rw [<- h1] at this;exact this
def cuV (c:List (Nat × Nat)):PV:=.lst (c.map rdV)
abbrev acG (q:PV) (r:Nat) (V:PV) (a3 a4 a5 a6:Option PV):Gam:=[some q,some (.int (r:Int)),some V,a3,a4,a5,a6]
theorem ac3 {q:PV} {r:Nat} (hr:r<=4) {h:Nat} {V:PV} (hc:c.length<=100) {Lg:Nat} {acc:List (List (Nat × Nat))} (ha:acc.length<=10000) (hL:A[Lg]?=some (.lst (acc.map cuV))) (a6:Option PV) :
  ∃ A' b6,Zs (acG q r V (some (.int (h:Int))) (some (.ref Lg)) (some (cuV c)) a6) A=.nx (acG q r V (some (.int (h:Int))) (some (.ref Lg)) (some (cuV c)) b6) A'/\A'[Lg]?=some (.lst ((acc ++ (List.range (r + 2)).map fun f=>c ++ Xs r h f).map cuV))/\Gw (fun t=>t=Lg) A A':=by
 obtain ⟨Γ',A',e,b6,rfl,hL',g⟩:=Jm (g:=fun k:Nat=>PV.int (k:Int)) (xs:=List.range (r + 2)) (ga:=Q5 6) (body:=W2) (w:=[]) (Γ:=acG q r V (some (.int (h:Int))) (some (.ref Lg)) (some (cuV c)) a6) (st:=A)
  (fun i Γ st=>∃ b6,Γ=acG q r V (some (.int (h:Int))) (some (.ref Lg)) (some (cuV c)) b6/\st[Lg]?=some (.lst ((acc ++ (List.range i).map fun f=>c ++ Xs r h f).map cuV))/\Gw (fun t=>t=Lg) A st)
  (fun _ _ _ _=>Qv _)
  (fun i k Γ st hx ⟨b6,hΓ,hL,g⟩=>by
   subst hΓ;obtain ⟨hi,rfl⟩:i < r + 2/\k=i:=by
    obtain ⟨u1,u2⟩:=O0.mp hx;rw [E5] at u1;rw [List.getElem_range] at u2;exact ⟨u1,u2.symm⟩
   have cl:(Xs r h k).length<=5:=by unfold Xs; rw [O1,E5]; omega
   have hLl:=(O0.mp hL).1;have rg:Xp (Q1 (Q3 6) (Q1 (mOp Qz (Q3 1) (mC (.int 1))) Q6)) (acG q r V (some (.int (h:Int))) (some (.ref Lg)) (some (cuV c)) (some (.int (k:Int)))) st=.ok (Jc k (r + 1 - k),[]) st:=by
    rw [Q17,Q4 (p:=.int (k:Int)) rfl (Q4 (p:=.int ((r:Int) + 1)) (Q7 rfl rfl (Xv _ _ _)) (show Q6 _ _=.ok [] _ from rfl)),Qk];show (if -1000000<=(k:Int)/\(k:Int)<=1000000/\-1000000<=(r:Int) + 1/\(r:Int) + 1<=1000000 then Res.ok (Jc (k:Int) ((r:Int) + 1 - k).toNat,[]) st else .stuck)=_;rw [bN (by omega),show ((r:Int) + 1 - k).toNat=r + 1 - k by omega]
   have ad:Qz st (cuV c) (.lst ((Xs r h k).map rdV))=.ok (cuV (c ++ Xs r h k)) st:=by
    have:=Qpi (S:=st) (V:=cuV c) (W:=.lst ((Xs r h k).map rdV)) (.inl rfl) (.inl rfl) (by rw [O1,O1]; omega);rw [this]; unfold cuV; rw [E3]
   refine ⟨_,rfl,_,_,Ve rfl (Jb hL) (Q4 (Q7 rfl (qx (Yu rg (Qp9 rfl r h k st))) ad) rfl) (V6 hL (by rw [O1,O4,O1,E5]; omega) _),_,rfl,?_,g.trans (Gw.put (P:=fun t=>t=Lg) st rfl _)⟩;rw [D4 hLl,List.range_succ,E3 (l₁:=List.range k),<- L9,E3 (l₂:=List.map _ [k])]; rfl)
  ⟨_,rfl,by rw [List.range_zero,List.map_nil,F9]; exact hL,Gw.refl _ _⟩
 rw [<- Zq] at e;rw [E5] at hL';exact ⟨A',b6,Zj (jq (n:=r + 2) (by omega) (Q7 rfl rfl (Xv _ _ _))) e,hL',g⟩
theorem ac2 {q:PV} {r:Nat} (hr:r<=4) {h:Nat} {V:PV} {w:Wt} {Lg:Nat} (hwL:∀ x∈w,x.1≠Lg):∀ (cs:List (List (Nat × Nat))) (acc:List (List (Nat × Nat))) (A:Q0) (a5 a6:Option PV),(∀ c∈cs,c.length<=100)->acc.length + 6 * cs.length<=10000->wOk w A->A[Lg]?=some (.lst (acc.map cuV)) ->
  ∃ A' b5 b6,W1 (Q5 5) Zs w (cs.map cuV) (acG q r V (some (.int (h:Int))) (some (.ref Lg)) a5 a6) A=.nx (acG q r V (some (.int (h:Int))) (some (.ref Lg)) b5 b6) A'/\A'[Lg]?=some (.lst ((acc ++ cs.flatMap fun c=>(List.range (r + 2)).map fun f=>c ++ Xs r h f).map cuV))/\Gw (fun t=>t=Lg) A A'
 | [],acc,A,a5,a6,_,_,hw,hL=>⟨A,a5,a6,U5 hw,by rw [List.flatMap_nil,F9]; exact hL,Gw.refl _ _⟩
 | c :: cs,acc,A,a5,a6,hc,hl,hw,hL=>by
  rw [E7] at hl;obtain ⟨A1,c6,e1,hL1,g1⟩:=ac3 hr (q:=q) (h:=h) (V:=V) (hc c D1) (by omega) hL a6;obtain ⟨A',b5,b6,e,hL',g'⟩:=ac2 hr hwL cs _ A1 (some (cuV c)) c6 (fun x hx=>hc x (O7 _ hx)) (by rw [O4,O1,E5]; omega) (g1.w hw fun x hx=>hwL x hx) hL1
  exact ⟨A',b5,b6,Ud hw rfl e1 e,by rw [List.flatMap_cons,<- L9]; exact hL',g1.trans g'⟩
theorem Q6i (Q:Qok xs rs ks) (S:Q0):Jv [qV xs rs ks] S=.ok (.lst ((Ku rs.length xs.length).map cuV)) S:=by
 have r4:=Q.r4;have x4:=Q.x4;have x1:=Q.x1;have six:∀ n,n<=4->6 ^ n<=1296:=fun n hn=>F6 (Nat.pow_le_pow_right (by decide) hn) (by decide)
 obtain ⟨Γ',A',e,V,b3,b4,b5,b6,rfl,hV,g,hn⟩:=Jm (g:=fun k:Nat=>PV.int (k:Int)) (xs:=List.range xs.length) (ga:=Q5 3) (body:=W5) (w:=[]) (Γ:=acG (qV xs rs ks) rs.length (.lst [.lst []]) none none none none) (st:=S)
  (fun i Γ st=>∃ V b3 b4 b5 b6,Γ=acG (qV xs rs ks) rs.length V b3 b4 b5 b6/\LA st V ((Ku rs.length i).map cuV)/\Gw (fun _=>False) S st/\(1<=i->∃ R,V=.ref R/\S.length<=R))
  (fun _ _ _ _=>Qv _)
  (fun i k Γ st hx ⟨V,b3,b4,b5,b6,hΓ,hV,g,_⟩=>by
   subst hΓ;obtain ⟨hi,rfl⟩:i < xs.length/\k=i:=by
    obtain ⟨u1,u2⟩:=O0.mp hx;rw [E5] at u1;rw [List.getElem_range] at u2;exact ⟨u1,u2.symm⟩
   have len:=Q1v r4 k;have l6:=six k (by omega);have gA:Gw (fun _=>False) st (st ++ [.lst []]):=Gw.add _ _ _;have hV1:=Qj4 hV gA (fun _ _=>id);obtain ⟨w,ew,hw,hwx⟩:=Qe1 hV1;have hwL:∀ x∈w,x.1≠st.length:=fun x hx z=>by
    have:=hwx x hx;rcases hV with rfl | ⟨i,rfl,ei⟩
    ·cases this.2
    ·have e2:=this.2;cases e2;have:=(O0.mp ei).1;omega
   obtain ⟨A',d5,d6,e,hL,g'⟩:=ac2 r4 (q:=qV xs rs ks) (h:=k) (V:=V) hwL (Ku rs.length k) [] (st ++ [.lst []]) b5 b6 (fun c hc=>(Q0b r4 (by omega) c hc).1.len) (by rw [List.length_nil]; omega) hw (ye _ _)
   refine ⟨_,rfl,_,A',Qb (Qj (Yv rfl)) (Qb (Zj (Vv rfl ew (by rw [O1]; omega)) e) (Qj rfl)),.ref st.length,_,_,d5,d6,rfl,.inr ⟨st.length,rfl,?_⟩,?_,fun _=>⟨_,rfl,g.len⟩⟩
   ·rw [hL,List.nil_append]; rfl
   ·refine g.trans ⟨F6 gA.len g'.len,fun t ht _=>?_⟩;rw [g'.keep t (by rw [O4]; omega) (by show ¬ t=st.length; omega)];exact O5 ht)
  ⟨_,_,_,_,_,rfl,.inl rfl,Gw.refl _ _,fun h=>by omega⟩
 rw [<- Zq] at e;rw [E5] at hV hn;obtain ⟨R,rfl,hR⟩:=hn x1;rcases hV with z | ⟨i,z,hi⟩
 ·cases z
 ·cases z;have st:Y9 [some (qV xs rs ks),none,none,none,none,none,none] S=.rt (.ref R) A':=Qb (Qj (Jp (Q4 (Q7 rfl rfl rfl) rfl) (q_r S))) (Qb (Qj (Q7v (Q4 (Q7v (ps:=[]) rfl) rfl))) (Qb (Zj (jq (n:=xs.length) (by omega) (Jp (Q4 (Q7 rfl rfl rfl) rfl) (q_n S))) e) (Zy rfl)));exact (Zk (m:=Y9) (nl:=7) (ps:=[qV xs rs ks]) st).trans (Q05 g hi hR (by simp [J0,cuV,rdV]))
def Wg (xs:List Int) (rs:List (List Tr)) (ks:List Tr) (c:List (Nat × Nat)):Int:=wA xs c + wB rs c + wC ks c
theorem Qjf (Q:Qok xs rs ks):∀ w∈wsQ xs rs,0<=w.2.2:=by
 intro w hw;unfold wsQ at hw;rcases D0.mp hw with hw | hw
 ·unfold wsp at hw;obtain ⟨h,hh,rfl⟩:=D8.mp hw;exact (Q.xb _ (by rw [O3,O2 (G9.mp hh)]; exact F5 _)).1
 ·obtain ⟨t,ht,hw⟩:=List.mem_flatMap.mp hw;have ht:=G9.mp ht;rcases D0.mp hw with hw | hw
  ·unfold wst at hw;obtain ⟨h,hh,rfl⟩:=D8.mp hw;exact Qbp fun x hx=>(Q.xb x hx).1
  ·unfold wrd at hw;obtain ⟨z,hz,rfl⟩:=D8.mp hw;have:rs.getD t []∈rs:=by rw [O3,O2 ht]; exact F5 _
   have:=((Q.rb _ this).ok z hz).2.1;show 0<=z.2;omega
def FK (xs:List Int) (rs:List (List Tr)) (ks:List Tr) (svs ls:List Int) (sv:Int):Prop:=FJ (wsQ xs rs) ks svs ls sv
theorem fk0 (Q:Qok xs rs ks):FK xs rs ks [] ((wsQ xs rs).map fun _=>0) 0:=FJ.zero (Qjf Q)
theorem fk1 (svs ls:List Int) (sv a:Int) (F:Fd) (ns:List Nd) (ss:List (Nat × Bool)) (t:Tr) (h1:ks[svs.length]?=some t) (h2:ls.length=(wsQ xs rs).length) (h3:FK xs rs ks svs ls sv) (h4:FT (wsQ xs rs) ls F) (h5:Pt (wsQ xs rs) ls F (some (t.1.2,t.1.1)) ns ss) (h6:1<=a) (h7:∀ s∈ss,a<=room (wsQ xs rs) ls s) (_:a<=t.2 - sv):FK xs rs ks svs (push a ls ss) (sv + a):=FJ.push h3 h1 h2 h4 h5 h6 h7
theorem fk2 (svs ls:List Int) (sv:Int) (F:Fd) (t:Tr) (h1:ks[svs.length]?=some t) (_:ls.length=(wsQ xs rs).length) (h3:FK xs rs ks svs ls sv) (h4:sv<=t.2) (h5:FT (wsQ xs rs) ls F) (h6:∀ u∈kys F,Cld (wsQ xs rs) ls F u) (h7:sv=t.2\/some (t.1.2,t.1.1)∉kys F):FK xs rs ks (svs ++ [sv]) ls 0:=FJ.done h3 h1 h4 h5 h6 h7
theorem Q8a (Q:Qok xs rs ks) {svs:List Int} (h1:svs.length=ks.length) (h2:ls.length=(wsQ xs rs).length) (J:FK xs rs ks svs ls 0) (T:FT (wsQ xs rs) ls F) (hF:∀ u∈kys F,Cld (wsQ xs rs) ls F u):∃ c,(Vw (((kys F).filter fun v=>!decide (v=none)).map ndI)).map Xx=c.map rdV/\Clo rs.length c/\c∈Ku rs.length xs.length/\Wg xs rs ks c=svs.sum/\∀ c,Clo rs.length c->svs.sum<=Wg xs rs ks c:=by
 have x4:=Q.x4;obtain ⟨c,hc1,hc2,hc3⟩:=Qp3 T;obtain ⟨q1,q2⟩:=Qia Q J h2 (by omega) T hF hc2;rw [h1,List.take_length] at q2;refine ⟨c,hc1.symm,q1,Q5u Q.r4 (by omega) hc3 (fun z hz=>?_) q1,q2,fun c' hc'=>?_⟩
 ·rcases (Q7n Q T).1 _ ((hc2 z).mp hz) with y | ⟨y,e,y1,y2⟩
  ·cases y
  ·cases e; exact ⟨y1,y2⟩
 ·have:=Qi9 Q J h2 (by omega) hc' ks.length;rw [List.take_length,<- h1,List.take_length] at this;exact this
theorem Q7w (Q:Qok xs rs ks) (S:Q0):∃ m V c,Kv [qV xs rs ks] S=.ok (.tup [.int m,V,cuV c]) S/\Clo rs.length c/\c∈Ku rs.length xs.length/\Wg xs rs ks c=m/\∀ c,Clo rs.length c->m<=Wg xs rs ks c:=by
 obtain ⟨svs,ls,F,e,h1,h2,J,T,hF⟩:=Qij Q (FK xs rs ks) (fk0 Q) fk1 fk2 S;obtain ⟨c,hc,h⟩:=Q8a Q h1 h2 J T hF;rw [hc] at e;exact ⟨_,_,c,e,h⟩
theorem Qib (Q:Qok xs rs ks) (S:Q0):∃ (svs:List Int) (V:PV),Y5 [qV xs rs ks] S=.ok (.tup [.lst (svs.map .int),V]) S/\(∃ c,Clo rs.length c/\Wg xs rs ks c=svs.sum)/\∀ c,Clo rs.length c->svs.sum<=Wg xs rs ks c:=by
 obtain ⟨svs,ls,F,e,h1,h2,J,T,hF⟩:=Qfi Q (FK xs rs ks) (fk0 Q) fk1 fk2 S;obtain ⟨c,hc,a1,a2,a3,a4⟩:=Q8a Q h1 h2 J T hF;refine ⟨svs,.tup [.lst ((mvs (wsQ xs rs) ls).map mvV),.lst (svs.map .int)],?_,⟨c,a1,a3⟩,a4⟩;have hst:Wb [some (qV xs rs ks),none] S=.rt (.tup [.lst (svs.map .int),.tup [.lst ((mvs (wsQ xs rs) ls).map mvV),.lst (svs.map .int)]]) S:=
  Qb (Qej (Qp (n:=1) (Q4 rfl rfl) rfl (Q5r Q S))) (Qb (Qj (Qp (n:=1) (Q4 rfl rfl) rfl e)) (Zy (Qw (Q4 (Q7 rfl rfl rfl) (Q4 (Qw (Q4 (Q7 rfl rfl rfl) (Q4 (Jp (Q4 (Q7 rfl rfl rfl) rfl) rfl) rfl)) (G6 rfl)) rfl)) (G6 rfl))))
 exact (Zk (m:=Wb) (nl:=2) (ps:=[qV xs rs ks]) hst).trans (ym (by simp [J0,mvV,Xx]))
theorem Q49 (l:List α) (d:α) {i:Nat} (hi:i < l.length) (v:α) (j:Nat):(l.set i v).getD j d=if j=i then v else l.getD j d:=by
 rw [O3]
 by_cases e:j=i
 ·subst e; rw [D4 hi,bN rfl]; rfl
 ·rw [O9 (fun z=>e z.symm),bO e,O3]
def Gr (xs:List Int) (rs:List (List Tr)) (ks:List Tr) (v:PV):Prop:=∃ xs' rs',v=qV xs' rs' ks/\Qok xs' rs' ks/\rs'.length=rs.length/\∀ c,Wg xs rs ks c<=Wg xs' rs' ks c
theorem Qe8 (Q:Qok xs rs ks) (h9:∀ x∈xs,x<=999999) {i:Nat} (hi:i < xs.length):Gr xs rs ks (qV (xs.set i (xs.getD i 0 + 1)) rs ks):=by
 have hm:xs.getD i 0∈xs:=by rw [O3,O2 hi]; exact F5 hi
 refine ⟨_,rs,rfl,⟨by rw [D5]; exact Q.x1,by rw [D5]; exact Q.x4,fun x hx=>?_,Q.r4,by rw [D5]; exact Q.rb,Q.k5,by rw [D5]; exact Q.kb⟩,rfl,fun c=>?_⟩
 ·rcases List.mem_or_eq_of_mem_set hx with h | h
  ·exact Q.xb x h
  ·rw [h];have:=h9 _ hm;have:=(Q.xb _ hm).1;omega
 ·have:wA xs c<=wA (xs.set i (xs.getD i 0 + 1)) c:=by
   unfold wA;rw [D5];refine jj fun j _=>?_
   rw [Q49 xs 0 hi]
   split
   ·exact Int.le_refl _
   ·split
    ·rename_i e; rw [e]; omega
    ·exact Int.le_refl _
  unfold Wg;omega
theorem Q94 (Q:Qok xs rs ks) {t:Nat} (ht:t < rs.length) (h1:TsOk xs.length ts) (h2:∀ c,wR c t (rs.getD t [])<=wR c t ts):Gr xs rs ks (qV xs (rs.set t ts) ks):=by
 refine ⟨xs,_,rfl,⟨Q.x1,Q.x4,Q.xb,by rw [D5]; exact Q.r4,fun u hu=>?_,Q.k5,by rw [D5]; exact Q.kb⟩,D5,fun c=>?_⟩
 ·rcases List.mem_or_eq_of_mem_set hu with h | h
  ·exact Q.rb u h
  ·rw [h]; exact h1
 ·have:wB rs c<=wB (rs.set t ts) c:=by
   unfold wB;rw [D5];refine jj fun j _=>?_
   rw [Q49 rs [] ht]
   split
   ·rename_i e; rw [e]; exact h2 c
   ·exact Int.le_refl _
  unfold Wg;omega
theorem Qjg (c:List (Nat × Nat)) (t:Nat) (ts:List Tr) (hk:k < ts.length) (h1:z.1=(ts.getD k ((0,0),0)).1) (h2:(ts.getD k ((0,0),0)).2<=z.2):wR c t ts<=wR c t (ts.set k z):=by
 unfold wR;rw [zd ts ((0,0),0),zd (ts.set k z) ((0,0),0),D5];refine jj fun j _=>?_
 rw [Q49 ts ((0,0),0) hk]
 by_cases e:j=k
 ·rw [bN e,e,h1]; split <;> omega
 ·rw [bO e]; exact Int.le_refl _
theorem Qjn (h:TsOk n ts) (hk:k < ts.length) (h1:z.1=(ts.getD k ((0,0),0)).1) (h2:1<=z.2/\z.2<=1000000):TsOk n (ts.set k z):=by
 have hm:ts.getD k ((0,0),0)∈ts:=by rw [O3,O2 hk]; exact F5 hk
 refine ⟨fun t ht=>?_,?_,by rw [D5]; exact h.len⟩
 ·rcases List.mem_or_eq_of_mem_set ht with q | q
  ·exact h.ok t q
  ·rw [q];exact ⟨by rw [h1]; exact (h.ok _ hm).1,h2⟩
 ·have:(ts.set k z).map Prod.fst=ts.map Prod.fst:=by
   rw [List.map_set];refine List.ext_getElem? fun i=>?_
   by_cases e:k=i
   ·subst e;rw [D4 (by rw [O1]; exact hk),E8,O2 hk,h1,O3,O2 hk]; rfl
   ·rw [O9 e]
  rw [this]; exact h.inc
theorem Q4j {as bs:List PV} (S:Q0) (h:as.length + bs.length<=1000000):Qz S (.tup as) (.tup bs)=.ok (.tup (as ++ bs)) S:=bN h
theorem xu {i:Nat} {mi mv:ME} (h1:m Γ S=.ok (.tup l) S) (h2:mi Γ S=.ok (.int (i:Int)) S) (h3:mv Γ S=.ok v S) (hi:i < l.length) (hl:l.length<=1000):mOp Qz (mOp Qz (mSl m Jq (Yq mi)) (Jd (Q1 mv Q6))) (mSl m (Yq (mOp Qz mi (mC (.int 1)))) Jq) Γ S=.ok (.tup (l.set i v)) S:=by
 have s1:mSl m Jq (Yq mi) Γ S=.ok (.tup (l.take i)) S:=by
  have p:Yq mi Γ S=.ok (some (i:Int)) S:=by unfold Yq; rw [h2,Qk]
  rw [Qdn,h1,Qk,show Jq Γ S=.ok none S from rfl,Qk,p,Qk];show Res.ok (PV.tup (cut l none (some (i:Int)))) S=_;rw [yq]
 have s2:mSl m (Yq (mOp Qz mi (mC (.int 1)))) Jq Γ S=.ok (.tup (l.drop (i + 1))) S:=by
  have p:Yq (mOp Qz mi (mC (.int 1))) Γ S=.ok (some (((i + 1:Nat)):Int)) S:=by unfold Yq; rw [Q7 h2 rfl (Xv _ _ _),Qk]; rfl
  rw [Qdn,h1,Qk,p,Qk,show Jq Γ S=.ok none S from rfl,Qk];show Res.ok (PV.tup (cut l (some ((i + 1:Nat):Int)) none)) S=_;rw [Q6c]
 refine (Q7 (Q7 s1 (Qw (Q4 h3 rfl) (G6 rfl)) (Q4j S (by rw [List.length_take,List.length_singleton]; omega))) s2 (Q4j S (by rw [O4,List.length_take,List.length_singleton,List.length_drop]; omega))).trans ?_;rw [List.set_eq_take_append_cons_drop,bN hi,L9]; rfl
theorem Qn6 (S:Q0) (ts:List Tr):oNe S (.tup (ts.map trV)) (.tup [])=.ok (.bl (!ts.isEmpty)) S:=by
 have g:J0 dep (.tup (ts.map trV))=true:=by simp [J0,dep,trV]
 unfold oNe;rw [show der S (.tup (ts.map trV))=.tup (ts.map trV) from rfl,show der S (.tup [])=.tup [] from rfl,bN ⟨g,rfl⟩];cases ts <;> simp [peq,peqL]
theorem Qhz (h:mr Γ S=.ok ps S1) (hl:ps.length<=1000000:=by decide):Yr mr Γ S=.ok ps S1:=by
 unfold Yr;rw [h,Qk];exact bN hl
abbrev agG (L:Nat) (q s r k:PV) (a5:Option PV) (R:Nat) (a7 a8 a9 a10 a11 a12:Option PV):Gam:=[some (.ref L),some q,some s,some r,some k,a5,some (.ref R),a7,a8,a9,a10,a11,a12]
theorem Qi5 (Q:Qok xs rs ks) {q:PV} (T:Tp S L) {vs:List PV} (hR:S[R]?=some (.lst vs)) (hL:L≠R) (hv:∀ v∈vs,Gr xs rs ks v) (hl:vs.length<=100) {t:Nat} (ht:t < rs.length) (a5 a8 a9 a10 a11 a12:Option PV) :
  ∃ S' vs' b8 b9 b10 b11 b12,Zz (agG L q (.tup (xs.map .int)) (.tup (rs.map tsV)) (.tup (ks.map trV)) a5 R (some (.int (t:Int))) a8 a9 a10 a11 a12) S=.nx (agG L q (.tup (xs.map .int)) (.tup (rs.map tsV)) (.tup (ks.map trV)) a5 R (some (.int (t:Int))) b8 b9 b10 b11 b12) S'/\Tp S' L/\S'[R]?=some (.lst vs')/\(∀ v∈vs',Gr xs rs ks v)/\vs'.length<=vs.length + 1/\Gw (fun x=>x=L\/x=R) S S':=by
 have r4:=Q.r4;obtain ⟨ts,hts⟩:∃ ts,rs.getD t []=ts:=⟨_,rfl⟩;have tok:TsOk xs.length ts:=by rw [<- hts]; exact Q.rb _ (by rw [O3,O2 ht]; exact F5 ht)
 have tl:=tok.len;have ix:∀ S:Q0,oIx S (.tup (rs.map tsV)) (.int (t:Int))=.ok (.tup (ts.map trV)) S:=fun S=>by
  have:=Qj5 (rs:=rs) (t:=(t:Int)) ⟨by omega,by omega⟩ S;rw [Int.toNat_natCast,hts] at this;exact this
 have hRl:=(O0.mp hR).1;have rset:∀ ts',(rs.map tsV).set t (tsV ts')=(rs.set t ts').map tsV:=fun ts'=>by rw [List.map_set]
 have c1:=J9 (Γ:=agG L q (.tup (xs.map .int)) (.tup (rs.map tsV)) (.tup (ks.map trV)) a5 R (some (.int (t:Int))) a8 a9 a10 a11 a12) (Q7 (o:=oNe) (a:=mOp oIx (Q3 3) (Q3 7)) (b:=Jd Q6) (Q7 rfl rfl (ix S)) rfl (Qn6 S ts))
 by_cases p:ts=[]
 ·rw [p] at c1
  by_cases p2:(1:Int) < (xs.length:Nat)
  ·have ok1:TsOk xs.length [((0,1),2)]:=⟨fun z hz=>by rw [G7.mp hz]; exact ⟨⟨by show 0 < xs.length; omega,by show 1 < xs.length; omega,by decide⟩,by decide,by decide⟩,List.pairwise_singleton _ _,by decide⟩
   have gr:=Q94 Q ht ok1 fun c=>by
    rw [hts,p];show (0:Int)<=wR c t [((0,1),2)];rw [Q3g];show (0:Int)<=_ + 0
    split <;> decide
   have val:=xu (m:=Q3 3) (mi:=Q3 7) (mv:=Jd (Q1 (Jd (Q1 (mC (.int 0)) (Q1 (mC (.int 1)) (Q1 (mC (.int 2)) Q6)))) Q6)) (v:=tsV [((0,1),2)]) (Γ:=agG L q (.tup (xs.map .int)) (.tup (rs.map tsV)) (.tup (ks.map trV)) a5 R (some (.int (t:Int))) a8 a9 a10 a11 a12) (S:=S) rfl rfl rfl (by rw [O1]; exact ht) (by rw [O1]; omega);rw [rset] at val;refine ⟨_,vs ++ [qV xs (rs.set t [((0,1),2)]) ks],a8,a9,a10,a11,a12,X2 c1 (Q1h (J9 (Q7 (Jp (Q4 rfl rfl) (q_n S)) rfl (Qj8 S p2))) (Ve rfl (Jb hR) (Q4 (Qw (Q4 rfl (Q4 val (Q4 rfl rfl))) (G6 rfl)) rfl) (V6 hR (by omega) _))),T.of (by rw [O9 (fun z=>hL z.symm)]),D4 hRl,fun v h=>?_,by rw [O4]; exact O8 _,Gw.put S (.inr rfl) _⟩;rcases D0.mp h with h | h
   ·exact hv v h
   ·rw [G7.mp h]; exact gr
  ·exact ⟨S,vs,a8,a9,a10,a11,a12,X2 c1 (X2 (J9 (Q7 (Jp (Q4 rfl rfl) (q_n S)) rfl (Q93 S p2))) rfl),T,hR,hv,by omega,Gw.refl _ _⟩
 ·have hpos:1<=ts.length:=by cases ts with
   | nil=>exact absurd rfl p
   | cons _ _=>exact Nat.succ_pos _
  rw [show ts.isEmpty=false by cases ts with
   | nil=>exact absurd rfl p
   | cons _ _=>rfl] at c1
  obtain ⟨k,S1,hk,T1,M1,e1⟩:=J7 T ts.length hpos (by omega);have hR1:S1[R]?=some (.lst vs):=by rw [M1.keep R (fun z=>hL z.symm)]; exact hR
  have hRl1:=(O0.mp hR1).1;obtain ⟨z,hz⟩:∃ z,ts.getD k ((0,0),0)=z:=⟨_,rfl⟩;have zm:z∈ts:=by rw [<- hz,O3,O2 hk]; exact F5 hk
  have zb:=(tok.ok z zm).2;have ixz:oIx S1 (.tup (ts.map trV)) (.int (k:Int))=.ok (trV z) S1:=by rw [Qj6 hk,hz]
  obtain ⟨v,hv'⟩:∃ v,(if z.2 + 1 < 1000000 then z.2 + 1 else 1000000)=v:=⟨_,rfl⟩;have vb:1<=v/\v<=1000000/\z.2<=v:=by rw [<- hv']; split <;> omega
  have ok1:TsOk xs.length (ts.set k (z.1,v)):=Qjn tok hk (by rw [hz]) ⟨vb.1,vb.2.1⟩;have gr:=Q94 Q ht ok1 fun c=>by rw [hts]; exact Qjg c t ts hk (by rw [hz]) (by rw [hz]; exact vb.2.2)
  have mn:Xy S1 [.int 1000000,.int (z.2 + 1)]=.ok (.int v) S1:=(Kr _ _ _).trans (by rw [hv']);obtain ⟨Γ2,hΓ2⟩:∃ Γ2,Γ2=agG L q (.tup (xs.map .int)) (.tup (rs.map tsV)) (.tup (ks.map trV)) a5 R (some (.int (t:Int))) (some (.int (k:Int))) (some (.int (z.1.1:Int))) (some (.int (z.1.2:Int))) (some (.int z.2)) a12:=⟨_,rfl⟩;have val1:=xu (m:=mOp oIx (Q3 3) (Q3 7)) (mi:=Q3 8) (mv:=Jd (Q1 (Q3 9) (Q1 (Q3 10) (Q1 (Qm Xy (Q1 (mOp Qaa (mC (.int 10)) (mC (.int 6))) (Q1 (mOp Qz (Q3 11) (mC (.int 1))) Q6))) Q6)))) (v:=trV (z.1,v)) (Γ:=Γ2) (S:=S1) (by rw [hΓ2]; exact Q7 rfl rfl (ix S1)) (by rw [hΓ2]; rfl) (by rw [hΓ2]; exact Qw (Q4 rfl (Q4 rfl (Q4 (Jp (Q4 (Q7 rfl rfl rfl) (Q4 (Q7 rfl rfl (Xv _ _ _)) rfl)) mn) rfl))) (G6 rfl)) (by rw [O1]; exact hk) (by rw [O1]; omega);rw [hΓ2,<- List.map_set] at val1;obtain ⟨Γ3,hΓ3⟩:∃ Γ3,Γ3=agG L q (.tup (xs.map .int)) (.tup (rs.map tsV)) (.tup (ks.map trV)) a5 R (some (.int (t:Int))) (some (.int (k:Int))) (some (.int (z.1.1:Int))) (some (.int (z.1.2:Int))) (some (.int z.2)) (some (tsV (ts.set k (z.1,v)))):=⟨_,rfl⟩
  have val2:=xu (m:=Q3 3) (mi:=Q3 7) (mv:=Q3 12) (v:=tsV (ts.set k (z.1,v))) (Γ:=Γ3) (S:=S1) (by rw [hΓ3]; rfl) (by rw [hΓ3]; rfl) (by rw [hΓ3]; rfl) (by rw [O1]; exact ht) (by rw [O1]; omega);rw [hΓ3,rset] at val2;refine ⟨_,vs ++ [qV xs (rs.set t (ts.set k (z.1,v))) ks],_,_,_,_,_,Q1h c1 (Qb (Qj (Qp (n:=2) (Q4 rfl (Q4 (Jp (Q4 (Q7 rfl rfl (ix S)) rfl) (by rw [Ks,O1])) rfl)) rfl e1)) (Qb (Q1t (Q7 (Q7 rfl rfl (ix S1)) rfl ixz) rfl) (Qb (Qj val1) (Ve rfl (Jb hR1) (Q4 (Qw (Q4 rfl (Q4 val2 (Q4 rfl rfl))) (G6 rfl)) rfl) (V6 hR1 (by omega) _))))),T1.of (by rw [O9 (fun z=>hL z.symm)]),D4 hRl1,fun v h=>?_,by rw [O4]; exact O8 _,?_⟩
  ·rcases D0.mp h with h | h
   ·exact hv v h
   ·rw [G7.mp h]; exact gr
  ·exact ⟨by rw [D5,M1.len]; exact O8 _,fun x _ hx=>by rw [O9 (fun z=>hx (.inr z.symm)),M1.keep x fun z=>hx (.inl z)]⟩
theorem Q7m (Q:Qok xs rs ks) (h9:∀ x∈xs,x<=999999) (T:Tp S L):∃ S' vs,Zw [.ref L,qV xs rs ks] S=.ok (.ref S.length) S'/\Tp S' L/\S'[S.length]?=some (.lst vs)/\(∀ v∈vs,Gr xs rs ks v)/\vs.length<=100/\Gw (fun x=>x=L) S S':=by
 have r4:=Q.r4;have x4:=Q.x4;have hL:=T.lt;obtain ⟨i,S1,hi,T1,M1,e1⟩:=J7 T xs.length Q.x1 (by omega);have ixi:oIx S1 (.tup (xs.map .int)) (.int (i:Int))=.ok (.int (xs.getD i 0)) S1:=by
  show okO S1 (atI (xs.map PV.int) (i:Int))=_;rw [Uq PV.int 0 xs hi]; rfl
 obtain ⟨Γ1,hΓ1⟩:∃ Γ1:Gam,Γ1=[some (.ref L),some (qV xs rs ks),some (.tup (xs.map .int)),some (.tup (rs.map tsV)),some (.tup (ks.map trV)),some (.int (i:Int)),none,none,none,none,none,none,none]:=⟨_,rfl⟩;have val:=xu (m:=Q3 2) (mi:=Q3 5) (mv:=mOp Qz (mOp oIx (Q3 2) (Q3 5)) (mC (.int 1))) (v:=.int (xs.getD i 0 + 1)) (Γ:=Γ1) (S:=S1) (by rw [hΓ1]; rfl) (by rw [hΓ1]; rfl) (by rw [hΓ1]; exact Q7 (Q7 rfl rfl ixi) rfl (Xv _ _ _)) (by rw [O1]; exact hi) (by rw [O1]; omega);rw [hΓ1,<- List.map_set] at val;have T2:Tp (S1 ++ [.lst [qV (xs.set i (xs.getD i 0 + 1)) rs ks]]) L:=T1.of (by rw [O5 T1.lt]);have l1:=M1.len;obtain ⟨Γ',S',e,vs,b7,b8,b9,b10,b11,b12,rfl,T',hR,hv,hl,g⟩:=Jm (g:=fun k:Nat=>PV.int (k:Int)) (xs:=List.range rs.length) (ga:=Q5 7) (body:=Zz) (w:=[]) (Γ:=agG L (qV xs rs ks) (.tup (xs.map .int)) (.tup (rs.map tsV)) (.tup (ks.map trV)) (some (.int (i:Int))) S.length none none none none none none) (st:=S1 ++ [.lst [qV (xs.set i (xs.getD i 0 + 1)) rs ks]])
  (fun j Γ st=>∃ vs b7 b8 b9 b10 b11 b12,Γ=agG L (qV xs rs ks) (.tup (xs.map .int)) (.tup (rs.map tsV)) (.tup (ks.map trV)) (some (.int (i:Int))) S.length b7 b8 b9 b10 b11 b12/\Tp st L/\st[S.length]?=some (.lst vs)/\(∀ v∈vs,Gr xs rs ks v)/\vs.length<=1 + j/\Gw (fun x=>x=L\/x=S.length) (S1 ++ [.lst [qV (xs.set i (xs.getD i 0 + 1)) rs ks]]) st)
  (fun _ _ _ _=>Qv _)
  (fun j k Γ st hx ⟨vs,b7,b8,b9,b10,b11,b12,hΓ,T,hR,hv,hl,g⟩=>by
   subst hΓ;have hj:=(O0.mp hx).1;rw [E5] at hj;have hk:k < rs.length:=G9.mp (F3 hx);obtain ⟨S2,vs',d8,d9,d10,d11,d12,e,T2,hR2,hv2,hl2,g2⟩:=Qi5 Q (q:=qV xs rs ks) T hR (by omega) hv (by omega) hk (some (.int (i:Int))) b8 b9 b10 b11 b12;exact ⟨_,rfl,_,S2,e,vs',_,d8,d9,d10,d11,d12,rfl,T2,hR2,hv2,by omega,g.trans g2⟩)
  ⟨[qV (xs.set i (xs.getD i 0 + 1)) rs ks],_,_,_,_,_,_,rfl,T2,by rw [<- l1]; exact ye _ _,fun v h=>by rw [G7.mp h]; exact Qe8 Q h9 hi,O8 _,Gw.refl _ _⟩
 rw [<- Zq] at e;rw [E5] at hl;refine ⟨S',vs,?_,T',hR,hv,by omega,?_⟩
 ·rw [show S.length=S1.length from l1.symm] at e ⊢;exact Kq (m:=Vc) (nl:=13) (ps:=[.ref L,qV xs rs ks]) (Qb (Q1t rfl rfl) (Qb (Qj (Qp (n:=2) (Q4 rfl (Q4 (Jp (Q4 rfl rfl) (q_n S)) rfl)) rfl e1)) (Qb (Qj (Yv (Qhz (Q4 (Qw (Q4 val (Q4 rfl (Q4 rfl rfl))) (G6 rfl)) rfl) (G6 rfl)))) (Qb (Zj (jq (n:=rs.length) (by omega) (Jp (Q4 rfl rfl) (q_r _))) e) (Zy rfl)))))
 ·refine ⟨by have:=g.len; rw [O4] at this; omega,fun x h1 h2=>?_⟩;rw [g.keep x (by rw [O4]; omega) (fun z=>z.elim h2 (by omega)),O5 (by omega)]
  exact M1.keep x h2
theorem Q65 {g:List Int->Option PV} {a:Nat} {ns:List Int} (h:S[a]?=some (.lst (ns.map .int))):Yg g S [.ref a]=okO S (g ns):=by
 have:Ye S (.ref a)=some (ns.map .int):=Jb h;simp only [Yg,this,Option.bind_some,Q1d]
theorem Qjz (S:Q0) (l:List Int):Yg (fun ns=>some (.int ns.sum)) S [.lst (l.map .int)]=.ok (.int l.sum) S:=qg _ _ _
theorem Qdi {l:List Int} (h:S[W]?=some (.lst (l.map .int))) {m:Int} (h1:m∈l) (h2:∀ x∈l,m<=x):Xy S [.ref W]=.ok (.int m) S:=by
 show Yg (fun ns=>(Qhn ns).map .int) S [.ref W]=_
 rw [Q65 h];cases l with
 | nil=>cases h1
 | cons a l=>
  obtain ⟨m',e,u1,u2⟩:=Qdj a l;rw [e,show m'=m from Int.le_antisymm (u2 m h1) (h2 m' u1)]; rfl
theorem Qi3 {cs:List (List (Nat × Nat))} (h:c∈cs):oIn true S (cuV c) (.lst (cs.map cuV))=.ok (.bl false) S:=by
 have g:∀ c,J0 dep (cuV c)=true:=fun c=>by simp [J0,dep,cuV,rdV]
 show (if J0 dep (der S (cuV c))=true/\(cs.map cuV).all (J0 dep)=true then Res.ok (PV.bl (((cs.map cuV).any fun y=>peq y (der S (cuV c))) != true)) S else .stuck)=_
 rw [show der S (cuV c)=cuV c from rfl,bN ⟨g c,by rw [List.all_map]; exact M5.mpr fun c _=>g c⟩,show ((cs.map cuV).any fun y=>peq y (cuV c))=true from List.any_eq_true.mpr ⟨cuV c,D8.mpr ⟨c,h,rfl⟩,jv (g c)⟩]
 rfl
abbrev lwG (ns:List Int) (a1 a2 a3 a4 a5 a6 a7 a8 a9 a10 a11 a12:Option PV):Gam:=[some (.fro (ns.map .int)),a1,a2,a3,a4,a5,a6,a7,a8,a9,a10,a11,a12]
theorem Qbe {ns:List Int} {xs:List Int} {rs:List (List Tr)} {ks:List Tr} (Q:Qok xs rs ks) {a1 a2 a4 a5 a6:Option PV} {W:Nat} (a9 a10 a11 a12:Option PV):∀ (cs:List (List (Nat × Nat))) (acc:List Int) (A:Q0) (a8:Option PV),acc.length + cs.length<=10000->A[W]?=some (.lst (acc.map .int)) ->
  ∃ A' b8,W1 (Q5 8) Q4h [] (cs.map cuV) (lwG ns a1 a2 (some (qV xs rs ks)) a4 a5 a6 (some (.ref W)) a8 a9 a10 a11 a12) A=.nx (lwG ns a1 a2 (some (qV xs rs ks)) a4 a5 a6 (some (.ref W)) b8 a9 a10 a11 a12) A'/\A'[W]?=some (.lst ((acc ++ cs.map (Wg xs rs ks)).map .int))/\Gw (fun t=>t=W) A A'
 | [],acc,A,a8,_,hW=>⟨A,a8,U5 (Qv _),by rw [List.map_nil,F9]; exact hW,Gw.refl _ _⟩
 | c :: cs,acc,A,a8,hl,hW=>by
  rw [E7] at hl;have ew:=Q7x Q (S:=A) (c:=c) (V:=cuV c) (.inl rfl);have hWl:=(O0.mp hW).1;obtain ⟨A',b8,e,h,g⟩:=Qbe Q a9 a10 a11 a12 cs (acc ++ [Wg xs rs ks c]) (A.set W (.lst ((acc ++ [Wg xs rs ks c]).map .int))) (some (cuV c)) (by rw [O4,List.length_singleton]; omega) (D4 hWl);have ap:Qq A (.ref W) [.int (wA xs c + wB rs c + wC ks c)]=.ok .non (A.set W (.lst ((acc ++ [Wg xs rs ks c]).map .int))):=by
   rw [V6 hW (by rw [O1]; omega),E3]; rfl
  exact ⟨A',b8,Ud (Qv _) rfl (Ve rfl (Jb hW) (Q4 (Qp (n:=2) (Q4 rfl (Q4 rfl rfl)) rfl ew) rfl) ap) e,by rw [D9,List.append_cons]; exact h,(Gw.put (P:=fun t=>t=W) A rfl _).trans g⟩
theorem Qp2 {ns:List Int} (Q:Qok xs rs ks) {a1 a4 a5 a6:Option PV} {m:Int} {c0:List (Nat × Nat)} (hc0:Clo rs.length c0) (hm:Wg xs rs ks c0=m) (hall:∀ c,Clo rs.length c->m<=Wg xs rs ks c) {ws:List Int} (h1:m∈ws) (h2:∀ x∈ws,m<=x) (hLW:L≠W) (a8 a9 a10 a11 a12:Option PV) (T:Tp A L) (hW:A[W]?=some (.lst (ws.map .int))) :
  ∃ A' b9,Yz (Q5 9) (Ja (Q1 (mC (.int 3)) Q6)) Q08 (lwG ns a1 (some (.ref L)) (some (qV xs rs ks)) a4 a5 a6 (some (.ref W)) a8 a9 a10 a11 a12) A=.nx (lwG ns a1 (some (.ref L)) (some (qV xs rs ks)) a4 a5 a6 (some (.ref W)) a8 b9 a10 a11 a12) A'/\Tp A' L:=by
 obtain ⟨Γ',A',e,b9,rfl,T',_⟩:=Jm (g:=fun k:Nat=>PV.int (k:Int)) (xs:=List.range 3) (ga:=Q5 9) (body:=Q08) (w:=[]) (Γ:=lwG ns a1 (some (.ref L)) (some (qV xs rs ks)) a4 a5 a6 (some (.ref W)) a8 a9 a10 a11 a12) (st:=A)
  (fun _ Γ st=>∃ b9,Γ=lwG ns a1 (some (.ref L)) (some (qV xs rs ks)) a4 a5 a6 (some (.ref W)) a8 b9 a10 a11 a12/\Tp st L/\st[W]?=some (.lst (ws.map .int)))
  (fun _ _ _ _=>Qv _)
  (fun i k Γ st _ ⟨b9,hΓ,T,hW⟩=>by
   subst hΓ;obtain ⟨S',ms,sv,Mq,Vq,e,v1,v2,_,_,_,T',g,_,_,le⟩:=Qer Q T;have hW':=g.at hW (fun z=>hLW z.symm);have hs:=Q65 (g:=fun ns=>some (.int ns.sum)) v2
   have:=le c0 hc0;have hn:¬ m < sv.sum:=by
    have h:Wg xs rs ks c0=wA xs c0 + wB rs c0 + wC ks c0:=rfl;omega
   exact ⟨_,rfl,_,S',X2 (J9 (Q7 (Jp (Q4 (Q7 (Qp (n:=2) (Q4 rfl (Q4 rfl rfl)) rfl e) rfl rfl) rfl) hs) (Jp (Q4 rfl rfl) (Qdi hW' h1 h2)) (Q93 S' hn))) rfl,_,rfl,T',hW'⟩)
  ⟨_,rfl,T,hW⟩
 rw [<- Zq] at e;exact ⟨A',b9,Zj (jq (n:=3) (by decide) rfl) e,T'⟩
theorem Qe9 {ns:List Int} {xs:List Int} {rs:List (List Tr)} {ks:List Tr} (Q:Qok xs rs ks) {a1 a2 a5 a6:Option PV} {m:Int} {c0:List (Nat × Nat)} (hc0:Clo rs.length c0) (hm:Wg xs rs ks c0=m) (hall:∀ c,Clo rs.length c->m<=Wg xs rs ks c) {w:Sm.Wt} {A:Q0} (hw:wOk w A) (a7 a8 a9 a11 a12:Option PV):∀ (vs:List PV) (a10:Option PV),(∀ v∈vs,Gr xs rs ks v)->∃ b10,W1 (Q5 10) Q4g w vs (lwG ns a1 a2 (some (qV xs rs ks)) (some (.int m)) a5 a6 a7 a8 a9 a10 a11 a12) A=.nx (lwG ns a1 a2 (some (qV xs rs ks)) (some (.int m)) a5 a6 a7 a8 a9 b10 a11 a12) A
 | [],a10,_=>⟨a10,U5 hw⟩
 | v :: vs,a10,hv=>by
  obtain ⟨xs',rs',rfl,Q',hl,le⟩:=hv v D1;obtain ⟨m',V,c',e,c1,_,c3,_⟩:=Q7w Q' A;rw [hl] at c1;have hn:¬ m' < m:=by
   have:=hall c' c1;have:=le c';omega
  obtain ⟨b10,e2⟩:=Qe9 Q hc0 hm hall hw a7 a8 a9 a11 a12 vs (some (qV xs' rs' ks)) fun x hx=>hv x (O7 _ hx)
  exact ⟨b10,Ud hw rfl (X2 (J9 (Q7 (Q7 (Qp (n:=1) (Q4 rfl rfl) rfl e) rfl rfl) rfl (Qdv A hn))) rfl) e2⟩
theorem Qfq (ks:List Tr) (t:Tr) (c:List (Nat × Nat)):wC (ks ++ [t]) c=wC ks c + if (t.1.2,t.1.1)∈c then t.2 else 0:=by
 unfold wC;rw [E3,List.sum_append];simp
theorem Qga (ns:List Int) (k:Nat) (S:Q0) (a2 a3 a4 a5 a6 a7 a8 a9 a10 a11 a12:Option PV):∃ b2 b3 b4 b5 b6 b7 b8 b9 b10 b11 b12 S',Q09 (lwG ns (some (.int (k:Int))) a2 a3 a4 a5 a6 a7 a8 a9 a10 a11 a12) S=.nx (lwG ns (some (.int (k:Int))) b2 b3 b4 b5 b6 b7 b8 b9 b10 b11 b12) S':=by
 obtain ⟨x,e1⟩:=Qfh ns k S;have T1:Tp (S ++ [.lst [.int x]]) S.length:=⟨x,ye _ _⟩;obtain ⟨xs,rs,ks,S2,Q,h9,k5,T2,e2⟩:=Qch T1;have x4:=Q.x4;have r4:=Q.r4;have hL:=T2.lt;obtain ⟨m,V,c0,e3,q1,q2,q3,q4⟩:=Q7w Q S2;have six:∀ n,n<=4->6 ^ n<=1296:=fun n hn=>F6 (Nat.pow_le_pow_right (by decide) hn) (by decide)
 have len:=Q1v r4 xs.length;have l6:=six xs.length x4;obtain ⟨S3,hS3⟩:∃ S3,S2 ++ [Cell.lst []]=S3:=⟨_,rfl⟩;have W3:S3[S2.length]?=some (.lst (([]:List Int).map .int)):=by rw [<- hS3]; exact ye _ _
 have T3:Tp S3 S.length:=T2.of (by rw [<- hS3,O5 hL]);obtain ⟨S4,b8,e4,W4,g4⟩:=Qbe Q (ns:=ns) (a1:=some (.int (k:Int))) (a2:=some (.ref S.length)) (a4:=some (.int m)) (a5:=some V) (a6:=some (cuV c0)) (W:=S2.length) a9 a10 a11 a12 (Ku rs.length xs.length) [] S3 a8 (by rw [List.length_nil]; omega) W3;rw [List.nil_append] at W4;have T4:Tp S4 S.length:=by obtain ⟨y,hy⟩:=T3; exact ⟨y,g4.at hy (by show ¬ S.length=S2.length; omega)⟩
 have m1:m∈(Ku rs.length xs.length).map (Wg xs rs ks):=D8.mpr ⟨c0,q2,q3⟩;have m2:∀ x∈(Ku rs.length xs.length).map (Wg xs rs ks),m<=x:=fun x hx=>by
  obtain ⟨c,hc,rfl⟩:=D8.mp hx;have ok:=(Q0b r4 (by omega) c hc).1;exact q4 c fun h t a b=>ok.cls (h,t) a b
 obtain ⟨S5,b9,e5,T5⟩:=Qp2 Q q1 q3 q4 (ns:=ns) (a1:=some (.int (k:Int))) (a4:=some (.int m)) (a5:=some V) (a6:=some (cuV c0)) (W:=S2.length) m1 m2 (L:=S.length) (by omega) b8 a9 a10 a11 a12 T4 W4;obtain ⟨S6,vs,e6,T6,R6,hv,vl,g6⟩:=Q7m Q h9 T5;obtain ⟨b10,e7⟩:=Qe9 Q q1 q3 q4 (ns:=ns) (a1:=some (.int (k:Int))) (a2:=some (.ref S.length)) (a5:=some V) (a6:=some (cuV c0)) (w:=[(S5.length,.lst vs)]) (xr R6) (some (.ref S2.length)) b8 b9 a11 a12 vs a10 hv;obtain ⟨d1,S7,hd1,T7,M7,f7⟩:=J7 T6 (rs.length + 1) (by omega) (by omega);rw [show ((rs.length + 1:Nat):Int)=(rs.length:Int) + 1 by push_cast; rfl] at f7;obtain ⟨d2,S8,hd2,T8,M8,f8⟩:=J7 T7 xs.length Q.x1 (by omega);obtain ⟨d3,S9,hd3,T9,M9,f9⟩:=J7 T8 5 (by decide) (by decide);rw [show ((5:Nat):Int)=5 from rfl] at f9;obtain ⟨t,ht⟩:∃ t:Tr,t=((d1,d2),1 + (d3:Int)):=⟨_,rfl⟩;have htr:trV t=.tup [.int (d1:Int),.int (d2:Int),.int (1 + (d3:Int))]:=by rw [ht]; rfl
 have t2:t.2=1 + (d3:Int):=by rw [ht]
 have Q2:Qok xs rs (ks ++ [t]):=⟨Q.x1,Q.x4,Q.xb,Q.r4,Q.rb,by rw [O4,List.length_singleton]; omega,fun z hz=>by
  rcases D0.mp hz with h | h
  ·exact Q.kb z h
  ·rw [G7.mp h,ht];exact ⟨by show d1<=rs.length; omega,hd2,by show 1<=1 + (d3:Int); omega,by show 1 + (d3:Int)<=1000000; omega⟩⟩
 obtain ⟨m',V',c',e10,p1,_,p3,p4⟩:=Q7w Q2 S9;have sn:∀ c,Wg xs rs (ks ++ [t]) c=Wg xs rs ks c + if (t.1.2,t.1.1)∈c then t.2 else 0:=fun c=>by
  show wA xs c + wB rs c + wC (ks ++ [t]) c=wA xs c + wB rs c + wC ks c + _;rw [Qfq]; omega
 have le1:¬ m' < m:=by
  have u1:=q4 c' p1;rw [sn] at p3
  split at p3 <;> omega
 have le2:¬ m + (1 + (d3:Int)) < m':=by
  have u1:=p4 c0 q1;rw [sn] at u1
  split at u1 <;> omega
 obtain ⟨svs,V2,e11,⟨c2,r1,r2⟩,r3⟩:=Qib Q S9;have es:svs.sum=m:=by
  have u1:=r3 c0 q1;have u2:=q4 c2 r1;omega
 have hs:=Qjz S9 svs;rw [es] at hs;have ad:Qz S9 (.tup (ks.map trV)) (.tup [.tup [.int (d1:Int),.int (d2:Int),.int (1 + (d3:Int))]])=.ok (.tup ((ks ++ [t]).map trV)) S9:=by
  rw [Q4j S9 (by rw [O1,List.length_singleton]; omega),E3,<- htr]; rfl
 subst hS3;exact ⟨_,_,_,_,_,_,_,_,_,_,_,S9,Qb (Qj (Qp (n:=2) (Q4 rfl (Q4 rfl rfl)) rfl e1)) (Qb (Qj (Qp (n:=2) (Q4 rfl (Q4 rfl rfl)) rfl e2)) (Qb (Q1t (Qp (n:=1) (Q4 rfl rfl) rfl e3) rfl) (Qb (Qj (Yv rfl)) (Qb (Zj (Vv (Qp (n:=1) (Q4 rfl rfl) rfl (Q6i Q _)) rfl (by rw [O1]; omega)) e4) (Qb (X2 (Qmr (J9 (Q7 (Jp (Q4 rfl rfl) (Qdi W4 m1 m2)) rfl (Qj2 S4 _))) (J9 (Q7 rfl (Qp (n:=1) (Q4 rfl rfl) rfl (Q6i Q S4)) (Qi3 q2)))) rfl) (Qb e5 (Qb (Zj (Vv (Qp (n:=2) (Q4 rfl (Q4 rfl rfl)) rfl e6) (Kx R6) (by omega)) e7) (Qb (Qj (Qw (Q4 (Qp (n:=2) (Q4 rfl (Q4 (Q7 (Jp (Q4 (Q7 rfl rfl rfl) rfl) (q_r S6)) rfl (Xv _ _ _)) rfl)) rfl f7) (Q4 (Qp (n:=2) (Q4 rfl (Q4 (Jp (Q4 (Q7 rfl rfl rfl) rfl) (q_n S7)) rfl)) rfl f8) (Q4 (Q7 rfl (Qp (n:=2) (Q4 rfl (Q4 rfl rfl)) rfl f9) (Xv _ _ _)) rfl))) (G6 rfl))) (Qb (Qj (Q7 (Qp (n:=1) (Q4 (Qw (Q4 (Q7 rfl rfl rfl) (Q4 (Q7 rfl rfl rfl) (Q4 (Q7 (Q7 rfl rfl rfl) (Qw (Q4 rfl rfl) (G6 rfl)) ad) rfl))) (G6 rfl)) rfl) rfl e10) rfl rfl)) (X2 (Qmr (J9 (Q7 rfl rfl (Qdv S9 le1))) (Qmr (J9 (Q7 rfl (Q7 rfl (Q7 rfl rfl rfl) (Xv _ _ _)) (Q93 S9 le2))) (J9 (Q7 (Jp (Q4 (Q7 (Qp (n:=1) (Q4 rfl rfl) rfl e11) rfl rfl) rfl) hs) rfl (Qj2 S9 _))))) rfl))))))))))⟩
theorem Qdz (ns:List Int):Q9i [.fro (ns.map .int)] []=.ok (.bl true) []:=by
 obtain ⟨j,hj1,hj2,hmx⟩:∃ j:Int,1<=j/\j<=4/\Qm Qb3 (Q1 (mC (.int 1)) (Q1 (Qm Xy (Q1 (mC (.int 4)) (Q1 (Qm Y0 (Q1 (Q3 0) Q6)) Q6))) Q6)) (lwG ns none none none none none none none none none none none none) []=.ok (.int j) []:=by
  refine ⟨if (if (ns.length:Int) < 4 then (ns.length:Int) else 4) > 1 then (if (ns.length:Int) < 4 then (ns.length:Int) else 4) else 1,by split <;> omega,by split <;> (try split) <;> omega,?_⟩;exact Jp (Q4 rfl (Q4 (Jp (Q4 rfl (Q4 (Jp (Q4 rfl rfl) (by rw [Qf4,O1])) rfl)) (Kr _ _ _)) rfl)) (Qf3 _ _ _)
 obtain ⟨n,rfl⟩:∃ n:Nat,j=n:=⟨j.toNat,by omega⟩;obtain ⟨Γ',S1,e1,c1,c2,c3,c4,c5,c6,c7,c8,c9,c10,c11,c12,rfl⟩:=Jm (g:=fun k:Nat=>PV.int (k:Int)) (xs:=List.range n) (ga:=Q5 1) (body:=Q09) (w:=[]) (Γ:=lwG ns none none none none none none none none none none none none) (st:=[])
  (fun _ Γ st'=>∃ c1 c2 c3 c4 c5 c6 c7 c8 c9 c10 c11 c12,Γ=lwG ns c1 c2 c3 c4 c5 c6 c7 c8 c9 c10 c11 c12)
  (fun _ _ _ _=>Qv _)
  (fun i k Γ st' _ ⟨c1,c2,c3,c4,c5,c6,c7,c8,c9,c10,c11,c12,g1⟩=>by
   subst g1;obtain ⟨d2,d3,d4,d5,d6,d7,d8,d9,d10,d11,d12,S2,h⟩:=Qga ns k st' c2 c3 c4 c5 c6 c7 c8 c9 c10 c11 c12;exact ⟨_,rfl,_,S2,h,_,_,_,_,_,_,_,_,_,_,_,_,rfl⟩)
  ⟨_,_,_,_,_,_,_,_,_,_,_,_,rfl⟩
 rw [<- Zq] at e1;have hfin:∀ S,fin [] (.bl true) S=.ok (.bl true) []:=fun S=>by simp [fin,fz]
 have hr:Xp (Q1 (mC (.int 0)) (Q1 (Qm Qb3 (Q1 (mC (.int 1)) (Q1 (Qm Xy (Q1 (mC (.int 4)) (Q1 (Qm Y0 (Q1 (Q3 0) Q6)) Q6))) Q6))) Q6)) (lwG ns none none none none none none none none none none none none) []=.ok (Jc 0 n,[]) []:=by
  rw [Q17,Q4 (p:=.int 0) rfl (Q4 hmx (show Q6 _ _=.ok [] _ from rfl)),Qk];show (if -1000000<=(0:Int)/\(0:Int)<=1000000/\-1000000<=(n:Int)/\(n:Int)<=1000000 then Res.ok (Jc 0 ((n:Int) - 0).toNat,[]) [] else .stuck)=_;rw [bN (by omega),Int.sub_zero,Int.toNat_natCast]
 exact (Zk (m:=Qdm) (nl:=13) (ps:=[.fro (ns.map .int)]) (Qb (Zj hr e1) (Zy rfl))).trans (hfin S1)
theorem Qi1:∀ ns:List Int,ns.length<=63->∃ st',Q9i [.fro (ns.map .int)] []=.ok (.bl true) st':=fun ns _=>⟨[],Qdz ns⟩
theorem all_mk {l:PySem.W.OpenLaw} {w:aJ} {h:Heap} {fa f1 f2 f3 f4 f5 f6 f7 f8 f9 f10 f11 f12 f13 f14 f15 f16 f17 f18 f19 f20 f21 f22 f23 f24 f25 f26 f27 f28 f29 f30 f31 f32 f33 f34 f35:aB} (X:K.In h) (G:h.Ns aR mg) (hfa:mg "law" = some (.ref fa))
  {od35 an35:Option aB} {sl35:Array (Option aA)} {oc35 kV35 dc35 pm35 cd35 ct35:aA}
  {e_NoPlan:aB}
  {t_MOST_HOUSES_OF_PLAN:Tok}
  {t_MOST_ROUNDS_OF_PLAN:Tok}
  {t_MOST_TAKINGS:Tok}
  {t_MOST_AT_ONCE:Tok}
  {t_SPRING:Tok}
  (a35:PySem.W.nsIn K aR "law" = some (some (.ref f35)))
  (l35:K.lookup f35=some ⟨oc35,od35,.func (PySem.W.fnOf "law" "law" (Ya jp) (Z2 jp) (Q9 jp) .none kV35 dc35 pm35 an35 cd35 ct35),sl35⟩)
  (c35:PySem.W.codeIn K cd35 "law" = true)
  (k35:PySem.W.keepIn K (.ref f35)=true)
  (z_all:PySem.W.nsIn K aR "all" = some none)
  (z_bool:PySem.W.nsIn K aR "bool" = some none)
  (z_enumerate:PySem.W.nsIn K aR "enumerate" = some none)
  (z_int:PySem.W.nsIn K aR "int" = some none)
  (z_isinstance:PySem.W.nsIn K aR "isinstance" = some none)
  (z_len:PySem.W.nsIn K aR "len" = some none)
  (z_list:PySem.W.nsIn K aR "list" = some none)
  (z_max:PySem.W.nsIn K aR "max" = some none)
  (z_min:PySem.W.nsIn K aR "min" = some none)
  (z_range:PySem.W.nsIn K aR "range" = some none)
  (z_sorted:PySem.W.nsIn K aR "sorted" = some none)
  (z_sum:PySem.W.nsIn K aR "sum" = some none)
  (z_tuple:PySem.W.nsIn K aR "tuple" = some none)
  (z_zip:PySem.W.nsIn K aR "zip" = some none)
  (v_MOST_HOUSES_OF_PLAN:PySem.W.nsIn K aR "MOST_HOUSES_OF_PLAN" = some (some (.int 6 t_MOST_HOUSES_OF_PLAN)))
  (v_MOST_ROUNDS_OF_PLAN:PySem.W.nsIn K aR "MOST_ROUNDS_OF_PLAN" = some (some (.int 10 t_MOST_ROUNDS_OF_PLAN)))
  (v_MOST_TAKINGS:PySem.W.nsIn K aR "MOST_TAKINGS" = some (some (.int 20 t_MOST_TAKINGS)))
  (v_MOST_AT_ONCE:PySem.W.nsIn K aR "MOST_AT_ONCE" = some (some (.int 1000000 t_MOST_AT_ONCE)))
  (v_SPRING:PySem.W.nsIn K aR "SPRING" = some (some (.str "spring" t_SPRING)))
  (n_NoPlan:PySem.W.nsIn K aR "NoPlan" = some (some (.ref e_NoPlan)))
  (h1:FA K "is_whole" qz f1)
  (h2:FA K "is_between" Xe f2)
  (h3:FA K "is_rising" K4 f3)
  (h4:FA K "is_sized_tuple" Wp f4)
  (h5:FA K "is_road" zy f5)
  (h6:FA K "is_start" j0 f6)
  (h7:FA K "is_road_with_most" Yi f7)
  (h8:FA K "are_roads_of_one_round" Z8 f8)
  (h9:FA K "are_roads_of_plan" Yj f9)
  (h10:FA K "is_place" j1 f10)
  (h11:FA K "is_taking" K3 f11)
  (h12:FA K "are_takings" Uj f12)
  (h13:FA K "is_question" Ui f13)
  (h14:FA K "need_question" V9 f14)
  (h15:FA K "ways_of" zu f15)
  (h16:FA K "ways_by_end" Uh f16)
  (h17:FA K "other_end" K2 f17)
  (h18:FA K "reached" zx f18)
  (h19:FA K "steps_back" Xd f19)
  (h20:FA K "room_by" zw f20)
  (h21:FA K "serve" Q3r f21)
  (h22:FA K "moves_by" qy f22)
  (h23:FA K "all_served" Xf f23)
  (h24:FA K "best" Q6x f24)
  (h25:FA K "first_served" Vy f25)
  (h26:FA K "_law_acell" Xh f26)
  (h27:FA K "_law_atape" Xg f27)
  (h28:FA K "_law_adigit" Uk f28)
  (h29:FA K "_law_ahow" K5 f29)
  (h30:FA K "_law_aquestion" Wq f30)
  (h31:FA K "_law_aweight" Vz f31)
  (h32:FA K "_law_adrawn_plan" Yw f32)
  (h33:FA K "_law_aall_cuts" Wr f33)
  (h34:FA K "_law_agreater" Va f34)
  (x_NoPlan:PySem.W.excIn K e_NoPlan Qfd "ValueError.__new__" = true)
  (hL:noL K=true) :
  ∃ fd:aP,(∀ (s:aC) (v:aA),BindsTo s fd ⟨[v],[]⟩ [("script",v)])/\∀ base:Heap,K.In base->base.Ns aR mg->FnOk l.prog w K mg base (CXD l.prog w) 10 fa fd ["script"] (Q3m K):=by
 have e:=hfa.symm.trans (PySem.W.mg_of X G a35);cases e;have T:Txt mg:=⟨PySem.W.mg_none_of X G z_all,PySem.W.mg_none_of X G z_bool,PySem.W.mg_none_of X G z_enumerate,PySem.W.mg_none_of X G z_int,PySem.W.mg_none_of X G z_isinstance,PySem.W.mg_none_of X G z_len,PySem.W.mg_none_of X G z_list,PySem.W.mg_none_of X G z_max,PySem.W.mg_none_of X G z_min,PySem.W.mg_none_of X G z_range,PySem.W.mg_none_of X G z_sorted,PySem.W.mg_none_of X G z_sum,PySem.W.mg_none_of X G z_tuple,PySem.W.mg_none_of X G z_zip,⟨_,PySem.W.mg_of X G v_MOST_HOUSES_OF_PLAN⟩,⟨_,PySem.W.mg_of X G v_MOST_ROUNDS_OF_PLAN⟩,⟨_,PySem.W.mg_of X G v_MOST_TAKINGS⟩,⟨_,PySem.W.mg_of X G v_MOST_AT_ONCE⟩,⟨_,PySem.W.mg_of X G v_SPRING⟩⟩;have C_NoPlan:∃ C,mg "NoPlan" = some (.ref C)/\PySem.W.excIn K C Qfd "ValueError.__new__" = true:=⟨_,PySem.W.mg_of X G n_NoPlan,x_NoPlan⟩;obtain ⟨_,A1⟩:=Yb ["thing"] X G h1;obtain ⟨_,A2⟩:=Yb ["thing", "least", "most"] X G h2
 obtain ⟨_,A3⟩:=Yb ["things"] X G h3;obtain ⟨_,A4⟩:=Yb ["thing", "least", "most"] X G h4;obtain ⟨_,A5⟩:=Yb ["n", "thing"] X G h5;obtain ⟨_,A6⟩:=Yb ["thing"] X G h6;obtain ⟨_,A7⟩:=Yb ["n", "thing"] X G h7;obtain ⟨_,A8⟩:=Yb ["n", "thing"] X G h8;obtain ⟨_,A9⟩:=Yb ["n", "thing"] X G h9;obtain ⟨_,A10⟩:=Yb ["n", "rounds", "house", "moment"] X G h10;obtain ⟨_,A11⟩:=Yb ["n", "rounds", "thing"] X G h11;obtain ⟨_,A12⟩:=Yb ["n", "rounds", "thing"] X G h12;obtain ⟨_,A13⟩:=Yb ["thing"] X G h13;obtain ⟨_,A14⟩:=Yb ["question"] X G h14;obtain ⟨_,A15⟩:=Yb ["question"] X G h15;obtain ⟨_,A16⟩:=Yb ["ways"] X G h16;obtain ⟨_,A17⟩:=Yb ["way", "load", "end"] X G h17;obtain ⟨_,A18⟩:=Yb ["ways", "loads"] X G h18;obtain ⟨_,A19⟩:=Yb ["ways", "found", "place"] X G h19;obtain ⟨_,A20⟩:=Yb ["ways", "loads", "steps"] X G h20;obtain ⟨_,A21⟩:=Yb ["ways", "loads", "taking"] X G h21;obtain ⟨_,A22⟩:=Yb ["ways", "loads"] X G h22
 obtain ⟨_,A23⟩:=Yb ["question"] X G h23;obtain ⟨_,A24⟩:=Yb ["question"] X G h24;obtain ⟨_,A25⟩:=Yb ["question"] X G h25;obtain ⟨_,A26⟩:=Yb ["script", "k"] X G h26;obtain ⟨_,A27⟩:=Yb ["script", "k"] X G h27;obtain ⟨_,A28⟩:=Yb ["tape", "many"] X G h28;obtain ⟨_,A29⟩:=Yb ["tape", "few"] X G h29;obtain ⟨_,A30⟩:=Yb ["tape", "most"] X G h30;obtain ⟨_,A31⟩:=Yb ["question", "cut"] X G h31;obtain ⟨_,A32⟩:=Yb ["tape", "question"] X G h32;obtain ⟨_,A33⟩:=Yb ["question"] X G h33;obtain ⟨_,A34⟩:=Yb ["tape", "question"] X G h34;have A35:=Qph (st:=jp) (ps:=["script"]) X G a35 l35 c35 k35 fun _ _ _ _ _ _ us hl=>match us,hl with | [_],_=>rfl
 refine ⟨PySem.W.fnOf "law" "law" (Ya jp) (Z2 jp) (Q9 jp) .none kV35 dc35 pm35 an35 cd35 ct35,fun s v=>.of_eq rfl,fun base kb nb=>?_⟩;have D_is_whole:=A1.d l.prog w base rfl (Q5h A1.F T    );have D_is_between:=A2.d l.prog w base rfl (Q25 A2.F T   D_is_whole );have D_is_rising:=A3.d l.prog w base rfl (Q3y A3.F T    );have D_is_sized_tuple:=A4.d l.prog w base rfl (jy A4.F T    );have D_is_road:=A5.d l.prog w base rfl (Q77 A5.F T   D_is_between );have D_is_start:=A6.d l.prog w base rfl (Q5i A6.F T   D_is_sized_tuple D_is_between );have D_is_road_with_most:=A7.d l.prog w base rfl (K9 A7.F T   D_is_sized_tuple D_is_road D_is_between );have D_are_roads_of_one_round:=A8.d l.prog w base rfl (Ua A8.F T   D_is_road_with_most D_is_rising );have D_are_roads_of_plan:=A9.d l.prog w base rfl (Ka A9.F T   D_is_sized_tuple D_are_roads_of_one_round );have D_is_place:=A10.d l.prog w base rfl (Q5j A10.F T   D_is_between )
 have D_is_taking:=A11.d l.prog w base rfl (Q3x A11.F T   D_is_sized_tuple D_is_place D_is_between );have D_are_takings:=A12.d l.prog w base rfl (Q12 A12.F T   D_is_sized_tuple D_is_taking );have D_is_question:=A13.d l.prog w base rfl (Q11 A13.F T   D_is_sized_tuple D_is_start D_are_roads_of_plan D_are_takings );have D_need_question:=A14.d l.prog w base rfl (y0 A14.F T  C_NoPlan D_is_question );have D_ways_of:=A15.d l.prog w base rfl (Q74 A15.F T    );have D_ways_by_end:=A16.d l.prog w base rfl (Q10 A16.F T    );have D_other_end:=A17.d l.prog w base rfl (Q3w A17.F T    );have D_reached:=A18.d l.prog w base rfl (Q76 A18.F T   D_ways_by_end D_other_end );have D_steps_back:=A19.d l.prog w base rfl (Q24 A19.F T    );have D_room_by:=A20.d l.prog w base rfl (Q75 A20.F T    );have D_serve:=A21.d l.prog w base rfl (Qdb A21.F T   D_reached D_steps_back D_room_by );have D_moves_by:=A22.d l.prog w base rfl (Q5g A22.F T    )
 have D_all_served:=A23.d l.prog w base rfl (Q26 A23.F T   D_ways_of D_serve D_reached D_moves_by );have D_best:=A24.d l.prog w base rfl (Qhi A24.F T   D_need_question D_all_served );have D_first_served:=A25.d l.prog w base rfl (xh A25.F T   D_need_question D_all_served );have D__law_acell:=A26.d l.prog w base rfl (Q28 A26.F T    );have D__law_atape:=A27.d l.prog w base rfl (Q27 A27.F T   D__law_acell );have D__law_adigit:=A28.d l.prog w base rfl (Q13 A28.F T    );have D__law_ahow:=A29.d l.prog w base rfl (Q3z A29.F T   D__law_adigit );have D__law_aquestion:=A30.d l.prog w base rfl (jz A30.F T   D__law_adigit D__law_ahow );have D__law_aweight:=A31.d l.prog w base rfl (xk A31.F T    );have D__law_adrawn_plan:=A32.d l.prog w base rfl (qk A32.F T   D__law_adigit );have D__law_aall_cuts:=A33.d l.prog w base rfl (z8 A33.F T    );have D__law_agreater:=A34.d l.prog w base rfl (y3 A34.F T   D__law_adigit )
 exact Qi0 hL (Qn2 A35.F T   D__law_atape D__law_aquestion D_best D__law_aall_cuts D__law_aweight D__law_adrawn_plan D__law_agreater D__law_adigit D_first_served ) Qi1
end Lw
namespace PySem.W.Fast
local macro_rules|`(command|open $n*)=>return Lean.mkNullNode (<-n.mapM λn=>`(command|theorem $n:ident:True:=trivial))
open tw8657260262470832578 tw3091799562022730149 tw7895491397957346920 tw16295988672210072522 tw10177968472309681814 tw11152693609551840166 tw10241414265013584073 tw4990686500917283073 tw8840118328356587855 te3476146672806853357 te859878230013678663 te10777065529614100823 te9162567757474309970 te13576408848026071473 te7095385337821114988 te9927630233579204844 te17639249831573728215 te7405003237580632766 te16909645954642618314 te16029966790404388728 te1082539365602756361 te3066142509967397974 te51084105756092938 te15910682720486441638 te733054664795352748 te1856356336167590840 te7957669737992783181 te16202128596180990663 te9703984232858985719 te606821905963327034 te11969590981186061389 te10950968978206970539 te10409575237814369421 te9871028223101930155 te9900733054444249283 te2248319074501632143 te2076602388078985080 te17244119111268427317 te5800451711349846086 te987700298099974697 te1320966945908830170 te2720264073706418250 te8379867056222992384 te15581149746428745987 te700422911869316346 te5933976762389202088 te9854355600715239264 te3604343888644564266 te16480341563839595966 te2423866706340255260 te14439479914446604472 te13237193681961394021 te10906405940925260625 te7635895763013775829 te9736411834210586116 te282550042204580854 te1600086465163296893 te10944364267297494225 te10659139020612209084 te5167304184178038783 te3251264568976247390 te12992925633753265232 te12430941671399840369 te7349288005890325634 te17380629580282209372 te10497907029181632888 te3965446805828401833 te18361884076659881841 te1191450039485098283 te15124716583738246826 te1780451069798415485 te2475178826569444776 te13974265003641888472 te15647776014876809540 te17389020708122362169 te13052149427439316001 te14497088922062234456 te11877453416035246695 te14102202320670123381 te13613722615707084349 te15094448188825603366 te9977924030638971991 te10816727109873900886 te319944068399802251 te11766781391180793464 te6247331218114042482 te13186004640588844656 te14847126765192616012 te10674811209923236735 te4568909317324633734 te12857077791658386819 te17835560643291476178 te3927015311149505794 te15760184894136650344 te3826916249163228787 te11633686003447997193 te7093986961449127975 te12790981358535339243 te12335439554139084163 te10813227130297375540 te6183668984663150318 te13199154704565948204 te14090158332812832893 te6269213020314623297 te11152036787625127581 te11084989856278647353 te11019914954225044184 te2585568619045787554 te17254099093728993505 te3076495487242036635 te5942913724704143360 te16913677487627875965 te9374353493866441103 te12640467848321584523 te17546474115494176271 te5925666936936869797 te11116726701676225527 te9648851474567154378 te3926158537525408016 te11153163403076329546 te1950298764479929810 te14170149050500628790 te5585350895170870092 te15318010873684985539 te11701328804871009584 te5266746337892997210 te17904920918217772755 te8717617201906471846 te3221054549894348331 te11047730971685689618 te5059495624407942535 te3831960018857491627 te16503912206956016652 te8163730533433065664 te1087407485188953633
end PySem.W.Fast
open PySem PySem.W PyProof.Rows Sm
set_option maxRecDepth 100000 in
set_option maxHeartbeats 0 in
theorem PySem.Challenge.cw_lendwharf_k49_whole_least_of_all_cuts_holds : PySem.Challenge.rw_lendwharf_k49_whole_least_of_all_cuts.Holds := by
 w_on; o_law; k_head; (case hw=>w_witness2)
 k_fill
 refine Sm.walkS (l:=PySem.Challenge.rw_lendwharf_k49_whole_least_of_all_cuts) (k:=10) rfl ⟨rfl,by decide,by decide⟩ rfl (fun w h Y=>PySem.W.kIn_of Y) ?F
 case F=>
  intro w mg fa h KX G hmg;refine' Lw.all_mk KX G hmg ..
  any_goals k_is
  any_goals exact FA.mk (by k_is) (by k_is) (by k_is) (by k_is)
  any_goals k_exc
  all_goals first | rfl | decide
