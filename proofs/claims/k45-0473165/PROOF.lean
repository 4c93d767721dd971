import PyProof.Rows.All
import Wide.All
import OpenK.AllK
import Wide.FinOn
import Lean
import PyProof.EqAt
import PyProof.EqKinds
import PyProof.TupleCall
import PyProof.ZipIter
import PyProof.Draws
import PyProof.SumAny
import PyProof.EnumMake
import PyProof.WalkInts
import PyProof.ExcArgsOwn
import PyProof.ExcAttrAll.ValueError
import PyProof.NsDelKeeps
import KE.KTryMore
import OpenK.KOwn
import PyProof.ListMulRoad
import PyProof.FactsAll.tuple_2
import PyProof.NeKinds
import PyProof.Rows.RuleIs
import PyProof.ExcInit
import PyProof.ExcClass3
import OpenK.KCls
import PyProof.InstStoreFacts
import OpenK.KMake
import PyProof.DictRoads
import PyProof.Rows.CountFlat
import PyProof.ListRange
import PyProof.Rows.SetFrom
import PyProof.CollectStr
import PyProof.Rows.TupMore
import PyProof.AttrMissHeap
import KE.KDictOf
import PyProof.DictWalks
import KE.KSortTup
import PyProof.DictItemsLoops
import KE.KDictList
import PyProof.CallStr
import PyProof.StrWalks
import PyProof.StrOps
import PyProof.StrCalls2
import KE.KRevIter
import PyProof.Rows.StrOrd
import PyProof.Rows.StrNews
import PyProof.JoinWalk
import PyProof.CollectIter
import PyProof.Conv_int
import PyProof.FactsAll.str
import PyProof.Conv_int_bool
import PySem.Challenge.RW_lendwharf_k45_plans_looked_at
open Lean Parser Command in
local macro_rules|`(command|def $i:declId $s:optDeclSig $v:declVal)=>`(command|noncomputable def $i $s:optDeclSig $v:declVal)
open Lean Parser Command in
local macro_rules|`(command|abbrev $i:declId $s:optDeclSig $v:declVal)=>`(command|noncomputable abbrev $i $s:optDeclSig $v:declVal)
set_option Elab.async false
set_option linter.all false
set_option maxRecDepth 100000
set_option maxHeartbeats 4000000
open Option renaming some -> zo,none -> zl
open Bool renaming true -> zi,false -> zb
open List renaming length_map -> O0,getElem?_eq_some_iff -> O1,getElem?_eq_getElem -> O2,getElem?_append_left -> O3,length_append -> O5,mem_cons_of_mem -> O6,getD_eq_getElem?_getD -> O7,getElem?_set_ne -> O8,size_toArray -> D0,mem_cons_self -> D3,mem_append -> D4,getElem?_set_self -> D5,getElem?_append_right -> D7,map_cons -> D8,mem_cons -> E2,length_cons -> E5,map_append -> E7,mem_map -> E8,length_set -> E9,mem_of_getElem? -> F0,map_map -> F3,getElem?_map -> F4,length_range -> F6,getElem_mem -> F9,append_nil -> G6,mem_append_right -> G7,all_eq_true -> G8,map_congr_left -> L5,getElem?_eq_none -> L7,nodup_cons -> L8,append_assoc -> M0,mem_append_left -> M5,length_nil -> M7
open PySem.Heap renaming get?_push_of_some -> O4,lt_size -> E3,get?_push_size -> E6,size_push -> G9,get?_update_other -> M6,get?_update_self -> M9
open Nat renaming le_refl -> O9,le_of_ble_eq_true -> D9,lt_of_lt_of_le -> E4,ne_of_lt -> F7,le_trans -> F8,sub_self -> L6
open Bool renaming false_ne_true -> F5,false_eq_true -> L0,and_eq_true -> L9
open PySem renaming Value -> aA,Addr -> aB,wpAny_bind -> aC,Shared -> aD,wpAny -> aF,Expr -> aH,model -> aI,World -> aJ,Stmt -> aK,eval -> aL,Program -> aM,starEach -> aN,FuncData -> aO,cLine -> aP,Around -> aQ,compareOp -> aR,mainGlobals -> aS,wpAny_field -> aU,IsPair -> aV,bootBuiltins -> aW,binaryOp -> aX,backTo -> aY,sysModules -> aZ,wpAny_call_entry -> aa,rawInt -> ae,wpAny_holding -> af,pyNext -> ag,cellsFrom -> ah,wpAny_rule -> ak,wpAny_mono -> ao,Paired -> aq,NameKind -> ar,assignEach -> au,wpAny_truthy_bool -> av,foldedSetIterable -> aw,wpAny_setField_rec -> ay,holding -> az,wpAny_newObj_type -> bA,attributeBase -> bB,wpAny_seqItems -> bC,call_meets -> bD,wpAny_passesOwn -> bF,sliceBounds -> bG,valueAt -> bH,behindInMarks -> bI,wpAny_isInstance -> bJ,wpAny_pyIter_tuple -> bK,codeAny_mono -> bL,wpAny_typeOf -> bM,raiseNew -> bN
open PySem.W renaming Frag -> bS,nsIn -> bZ,fnOf -> bc,mg_none_of -> be,kia_one -> bo,mg_of -> cB,keepIn -> cC,codeIn -> cP,excIn -> cU,hideAll -> db,hideAll_get -> df,instObj -> eO,methodObj -> eP,lookIn -> eQ,kitOne -> eR,cellsFrom_some -> eS,OpenLaw -> fA,of_hideAll -> fh,hideAll_none -> fi,plainGet -> fq,findIn -> ft,kitx_list -> fw,kitx_dict -> fx,WalkO -> gI
open List renaming range -> bT,replicate -> bV,toArray -> bn,all_cons -> bp,mem_range -> bq,lookup_cons -> bu,find?_cons -> bv,mem_singleton -> bw,nodup_append -> bx,all_map -> cA,pairwise_cons -> cF,sum_cons -> cH,mem_filter -> cM,of_mem_zip -> cN,length -> cO,replicate_succ -> cQ,foldl_cons -> cS,any_map -> cT,length_take -> ca,length_drop -> cb,flatten_cons -> ce,getD -> ci,any_cons -> cj,nodup_nil -> cm,prefix_refl -> cp,prefix_append -> cq,getElem?_range -> cr,length_zip -> cs,set_append_right -> cv,mem_filterMap -> cx,getElem?_cons_succ -> cy,filterMap_cons -> cz,zip_cons_cons -> dB,nil_append -> dE,forIn_cons -> dF,length_pos_iff -> dI,filter_cons -> dO,ext_getElem? -> dP,getElem_of_mem -> dQ,map_set -> dW,any_eq_true -> dZ,any_eq_false -> dg,reverse_cons -> di,foldl -> dj,forIn_nil -> dn,getElem?_set -> dy,drop_zero -> eA,ext_getElem -> eG,getElem?_of_mem -> eM,zip_nil_right -> eT,map_nil -> eY,take_length -> fC,range_succ_eq_map -> fD,pairwise_iff_getElem -> fH,drop_length -> fJ,zip_map -> fL,map_drop -> fM,getElem_range -> fN,flatMap_append -> fO,getElem_inj -> fV,getElem_map -> fW,range' -> fX,getElem?_cons_zero -> fb,getElem?_replicate -> gA,length_singleton -> gF,length_reverse -> gG,zipIdx_cons -> gM,zipIdx_nil -> gN,sum_append -> gO,mem_iff_getElem -> gQ,isEmpty_toArray -> gV,isEmpty_iff -> gW,drop_eq_getElem_cons -> gu,map_take -> gv,take_of_length_le -> hB,range_succ -> hW,flatMap_singleton -> hX,set_set -> hZ,all_eq_false -> iA,mem_flatMap -> iB,length_filterMap_le -> iC,length_filter_le -> iD,foldl_append -> iE,map_id -> iF
open Prod renaming fst -> bU,snd -> bi,ext -> eX
open PySem.Value renaming none -> bW,ref -> bX,int -> cJ,bool -> cL,str -> cW,type -> cY,builtin -> dX,isStr -> eL,isInt -> fS,isStrOf -> fT,float -> fe,notImplemented -> gB
open Option.some renaming inj -> bY,injEq -> iM
open PySem.Obj renaming mapSeq -> ba,mapFields -> cV,data_mapFields -> cf,data_mapDictKeys -> da,isFreed_of_dict -> eN,isFreed_of_fields -> fB,data_mapDict -> fc,cls_mapFields -> gL
open Nat renaming zero_le -> bb,lt_irrefl -> bg,ne_of_gt -> bj,lt_succ_of_lt -> cD,le_succ -> cE,le_of_lt -> cZ,lt_succ_self -> cw,add_assoc -> eI,sub_zero -> eJ,mul_comm -> ee,le_of_eq -> eu,eq_zero_or_pos -> fI,succ_mul -> gH,lt_of_le_of_lt -> gP,not_lt -> gR,add_sub_cancel -> gi,zero_add -> gt,le_total -> gw,min_eq_left -> gy,min_eq_right -> gz,mul_le_mul -> hG
open PySem.Str renaming ofString -> bf
open Int renaming toNat_natCast -> bh,le_refl -> cG,zero_add -> dS,sub_eq_add_neg -> fP,ediv_nonneg -> gJ,ediv_le_self -> gK
open Array renaming length_toList -> bt,getElem?_toList -> cX,getD_eq_getD_getElem? -> dJ,mem_toList_iff -> eK,getElem?_eq_some_iff -> fE,getElem?_eq_none -> fG,forIn_toList -> fU,mem_of_getElem? -> fY,getElem?_eq_getElem -> fZ,append_assoc -> fj,toList -> fk,getElem?_setIfInBounds_ne -> gY,perm_iff_toList_perm -> gj
open PySem renaming mem_of_lookup -> bz,boot_len -> dU,Env -> eB,call -> eh,Within -> fg,evalArgs_none -> gD,list_append -> gE,seqSlot_of -> gT
open Sum renaming inl -> cI,inr -> cK
open Bool renaming true_and -> cu,not_true -> dY,bne_false -> dz,decide_and -> eE,and_eq_true_iff -> eF,eq_iff_iff -> eH,and_false -> eZ,eq_false_iff -> fQ,false_and -> fo,or_eq_true_iff -> gU,and_true -> gr
open PyProof.Rows renaming callWith_type1 -> dA,slot_tuple_getitem -> dh,envOfC -> eC,callWith_builtin1 -> iG,lt_int -> iH,is_bool -> iI,isnot_bool -> iJ
open Array.Perm renaming refl -> dN
open Option renaming bind_some -> dR,isSome_map -> dq,isSome_iff_exists -> fy,getD_none -> gC,isSome_some -> gX,map_eq_some_iff -> gc
open List.Pairwise renaming nil -> dm
open List.Perm renaming refl -> du,swap -> iK,cons_inv -> iL
open PySem.F renaming slot_dict_keyiterator_next -> dw,slot_tuple_add -> eU,entry_tuple_add -> eV,args_tuple_add_2 -> eW,slot_dict_get -> fF,plainAttrs_list -> fK,excBase_ValueError -> gZ,entry_dict_get -> gf,args_dict_get_3 -> gg,plainAttrs_dict -> gh,slot_dict_iter -> gk,entry_dict_keyiterator_next -> gl,args_dict_keyiterator_next_1 -> gn,slot_dict_setdefault -> gq
open List.cons renaming inj -> eD
noncomputable section
local macro_rules|`(tactic|simp! [$a,*])=>`(tactic|simp -implicitDefEqProofs [$a,*])
theorem bO{c:Prop}{h:Decidable c}(B:c){α:Sort _}{t e:α}:ite c t e=t:=if_pos B
theorem bP{c:Prop}{h:Decidable c}(B:¬c){α:Sort _}{t e:α}:ite c t e=e:=if_neg B
theorem bQ{p:Prop}[i:Decidable p](h:¬p):decide p=zb:=decide_eq_false h
theorem bR{p:Prop}[i:Decidable p](h:p):decide p=zi:=decide_eq_true h
namespace L2
open PySem PySem.Spec PyProof.Rows
abbrev zAA:=List (aB × Obj)
abbrev zAB:=List (Option Nat)
abbrev zAC:=aA->aD->Prop
abbrev zAD:=Str->Option aA
variable{h:Heap}{a b it dx:aB}{α:Type}{es:Array DictEntry}{k t' n:Nat}{Q:Unit->aD->Prop}{us:List aA}{u:aA}{g':Array GenState}{d':Drawn}{ch fp:List aB}{M:Model}{A:aQ}{E:zAC}{c tg l:aH}{K:bS}{g:Int->Int->Int}{op:Operator}{f:aA->aA->Sem aA}{mA mg:zAD}{fd:aO}{ps:List Str}
section
abbrev Key:=Sum Int Str
def Q5m:Key->aA->Bool
 | .inl k,v=>fS k v
 | .inr x,v=>fT x v
def Qyu(w:aJ):Key->Int
 | .inl k=>hashInt k
 | .inr x=>hashStr w x
theorem Zk:∀ {k:Key} {v:aA},Q5m k v=zi->(∃ i t,k=cI i/\v=cJ i t)\/(∃ x t,k=cK x/\v=cW x t)
 | .inl i,v,h=>by
  obtain⟨t,e⟩:=Value.isInt_shape (k:=i) (v:=v) h;exact .inl ⟨i,t,rfl,e⟩
 | .inr x,v,h=>by
  obtain⟨t,e⟩:=Value.isStrOf_shape (x:=x) (v:=v) h;exact .inr ⟨x,t,rfl,e⟩
theorem Q17(i:Int)(t:Tok):Q5m (.inl i) (.int i t)=zi:=by simp[Q5m,fS]
theorem Q16(x:Str)(t:Tok):Q5m (.inr x) (.str x t)=zi:=by simp[Q5m,fT]
theorem Qsb(a b:Int):decide ((cI a:Key)=cI b)=(a == b):=by
 by_cases e:a=b
 ·subst e;simp
 ·have h:¬ (cI a:Key)=cI b:=λq=>e (Sum.inl.inj q)
  rw[bQ h];exact(beq_eq_false_iff_ne.mpr e).symm
theorem Qs8(a b:Str):decide ((cK a:Key)=cK b)=decide (a=b):=by
 by_cases e:a=b
 ·subst e;simp
 ·have h:¬ (cK a:Key)=cK b:=λq=>e (Sum.inr.inj q)
  rw[bQ h,bQ e]
theorem Qsa(a:Int)(b:Str):decide ((cI a:Key)=cK b)=zb:=bQ (λq=>nomatch q)
theorem Qs9(a:Str)(b:Int):decide ((cK a:Key)=cI b)=zb:=bQ (λq=>nomatch q)
def Yw(prog:aM)(w:aJ):PySem.KeyKind prog w Key where
 is:=Q5m
 hash:=Qyu w
 inj:=λv a b ha hb=>by
  rcases Zk ha with⟨i,t,rfl,rfl⟩ | ⟨x,t,rfl,rfl⟩
  ·rcases Zk hb with⟨j,u,rfl,e⟩ | ⟨y,u,rfl,e⟩
   ·injection e with e1 _;rw[e1]
   ·exact nomatch e
  ·rcases Zk hb with⟨j,u,rfl,e⟩ | ⟨y,u,rfl,e⟩
   ·exact nomatch e
   ·injection e with e1 _;rw[e1]
 byValue:=λk v h=>by
  rcases Zk h with⟨i,t,rfl,rfl⟩ | ⟨x,t,rfl,rfl⟩ <;> rfl
 pyHash:=λhv h=>by
  rcases Zk hv with⟨i,t,rfl,rfl⟩ | ⟨x,t,rfl,rfl⟩
  ·exact wpAny_pyHash_int h
  ·exact wpAny_pyHash_str h
 eqBool:=λhu hv h=>by
  rcases Zk hu with⟨i,t,rfl,rfl⟩ | ⟨x,t,rfl,rfl⟩
  ·rcases Zk hv with⟨j,u,rfl,rfl⟩ | ⟨y,u,rfl,rfl⟩
   ·rw[Qsb]at h;exact wpAny_eqBool_int h
   ·rw[Qsa]at h;exact SeqAt.EqAt.int_str i t y u _ _ _ _ h
  ·rcases Zk hv with⟨j,u,rfl,rfl⟩ | ⟨y,u,rfl,rfl⟩
   ·rw[Qs9]at h;exact SeqAt.EqAt.str_int x t j u _ _ _ _ h
   ·rw[Qs8]at h;exact wpAny_eqBool_str h
 «strs»:=λk x t v h=>by
  rcases Zk h with⟨i,u,rfl,e⟩ | ⟨y,u,rfl,e⟩
  ·exact nomatch e
  ·injection e with e1 _
   subst e1;cases v <;> rfl
inductive HK where
 | int (i:Int) | str (x:Str) | tup (l:List HK)
variable{xs:List (HK × aA × aA)}
instance:DecidableEq HK:=λ_ _=>Classical.propDecidable _
mutual
def KIs(h:Heap):HK->aA->Prop
 | .int i,v=>∃ t,v=.int i t
 | .str x,v=>∃ t,v=.str x t
 | .tup l,v=>∃ a items,v=.ref a/\IsTup h a items/\KIsL h l items.toList
def KIsL(h:Heap):List HK->List aA->Prop
 | [],vs=>vs=[]
 | k :: l,vs=>∃ v r,vs=v :: r/\KIs h k v/\KIsL h l r
end
def Dp:Nat->HK->Prop
 | _,.int _=>True
 | _,.str _=>True
 | 0,.tup _=>False
 | d + 1,.tup l=>∀ k∈l,Dp d k
theorem KIsL.len:∀ {l:List HK} {vs:List aA},KIsL h l vs->l.length=vs.length
 | [],_,r=>by cases r;rfl
 | k :: l,_,⟨v,r,e,_,q⟩=>by subst e;rw[E5,E5,q.len]
theorem KIsL.get:∀ {l:List HK} {vs:List aA},KIsL h l vs->∀ (j:Nat) (h1:j < l.length) (h2:j < vs.length),KIs h l[j] vs[j]
 | [],_,_,j,h1,_=>by simp at h1
 | k :: l,_,⟨v,r,e,q,t⟩,0,h1,h2=>by subst e;exact q
 | k :: l,_,⟨v,r,e,q,t⟩,j + 1,h1,h2=>by subst e;exact t.get j (by simpa using h1) (by simpa using h2)
theorem KIsL.of{h':Heap}:∀ {l:List HK} {vs:List aA},KIsL h l vs->(∀ k v,k∈l->KIs h k v->KIs h' k v)->KIsL h' l vs
 | [],_,r,_=>r
 | k :: l,_,⟨v,r,e,q,t⟩,f=>⟨v,r,e,f k v (by simp) q,t.of λk v B=>f k v (O6 _ B)⟩
theorem KIs.keep{h':Heap}(B:∀ a its,IsTup h a its->IsTup h' a its):∀ (d:Nat) {k:HK} {v:aA},Dp d k->KIs h k v->KIs h' k v
 | d,.int _,_,_,r=>r
 | d,.str _,_,_,r=>r
 | 0,.tup _,_,p,_=>p.elim
 | d + 1,.tup l,_,p,⟨a,its,e,i,r⟩=>⟨a,its,e,B a its i,r.of λk v I=>KIs.keep B d (p k I)⟩
theorem Qfk{x y:Array aA}(p:IsTup h a x)(q:IsTup h a y):x=y:=by
 obtain⟨o,h1,h2,n,J⟩:=p;obtain⟨o',B,g2,O,I⟩:=q;rw[h1]at B;cases B;rw[J]at I;cases I;rfl
theorem KIs.inj:∀ (d:Nat) {x y:HK} {v:aA},Dp d x->Dp d y->KIs h x v->KIs h y v->x=y:=by
 intro d
 induction d with
 | zero=>
  intro x y v dx B p q;cases x with
  | tup l=>exact dx.elim
  | int i=>
   obtain⟨t,rfl⟩:=p;cases y with
   | tup l=>exact B.elim
   | int j=>obtain⟨u,e⟩:=q;cases e;rfl
   | str j=>obtain⟨u,e⟩:=q;cases e
  | str i=>
   obtain⟨t,rfl⟩:=p;cases y with
   | tup l=>exact B.elim
   | int j=>obtain⟨u,e⟩:=q;cases e
   | str j=>obtain⟨u,e⟩:=q;cases e;rfl
 | succ d Y=>
  intro x y v dx B p q;cases x with
  | int i=>
   obtain⟨t,rfl⟩:=p;cases y with
   | tup l=>obtain⟨_,_,e,_⟩:=q;cases e
   | int j=>obtain⟨u,e⟩:=q;cases e;rfl
   | str j=>obtain⟨u,e⟩:=q;cases e
  | str i=>
   obtain⟨t,rfl⟩:=p;cases y with
   | tup l=>obtain⟨_,_,e,_⟩:=q;cases e
   | int j=>obtain⟨u,e⟩:=q;cases e
   | str j=>obtain⟨u,e⟩:=q;cases e;rfl
  | tup l=>
   obtain⟨a,its,rfl,U,p2⟩:=p;cases y with
   | int j=>obtain⟨u,e⟩:=q;cases e
   | str j=>obtain⟨u,e⟩:=q;cases e
   | tup m=>
    obtain⟨b,O,e,J,I⟩:=q;cases e;have e:=Qfk U J;subst e;have l1:=p2.len;have l2:=I.len;congr 1;refine eG (by omega) λj h1 h2=>?_
    exact Y (dx _ (F9 h1)) (B _ (F9 h2)) (p2.get j h1 (by omega)) (I.get j h2 (by omega))
theorem Qnf[DecidableEq α](d:α)(xs ys:List α):((bT (min xs.length ys.length)).all (λj=>decide (xs.getD j d=ys.getD j d)) && xs.length == ys.length)=decide (xs=ys):=by
 rw[eH];simp only[L9,G8,bq,decide_eq_true_eq,beq_iff_eq];constructor
 ·rintro ⟨h,e⟩;refine eG e λi h1 h2=>?_
  have:=h i (by omega);simpa[O7,h1,h2]using this
 ·rintro rfl;simp
section
variable{prog:aM}{w:aJ}
mutual
def hkH(prog:aM)(w:aJ):HK->Int
 | .int i=>(Yw prog w).hash (.inl i)
 | .str x=>(Yw prog w).hash (.inr x)
 | .tup l=>reduceHash (Builtin.Tuple.tupleHashOf (hkHL prog w l))
def hkHL(prog:aM)(w:aJ):List HK->List Int
 | []=>[]
 | k :: l=>hkH prog w k :: hkHL prog w l
end
mutual
def hkD:HK->Nat
 | .int _=>1
 | .str _=>1
 | .tup l=>hkDL l + 1
def hkDL:List HK->Nat
 | []=>0
 | k :: l=>hkD k + hkDL l
end
theorem Qi5(l:List HK):hkHL prog w l=l.map (hkH prog w):=by
 induction l with
 | nil=>rfl
 | cons k l B=>rw[hkHL,B];rfl
theorem Qi6(l m:List HK):hkDL (l ++ m)=hkDL l + hkDL m:=by
 induction l with
 | nil=>simp[hkDL]
 | cons k l B=>rw[List.cons_append,hkDL,hkDL,B];omega
variable{A:aQ}{E:zAC}
theorem Qne(xs ys:List HK):((bT (min xs.length ys.length)).all (λj=>decide (xs.getD j (.int 0)=ys.getD j (.int 0))) && xs.length == ys.length)=decide (xs=ys):=Qnf (.int 0) xs ys
theorem Q29:∀ (d:Nat) {A:aQ} {s:aD} {k:HK} {v:aA} {Q:Int->aD->Prop},Dp d k->A.units + d < aP->KIs s.heap k v->Q (hkH prog w k) { s with toks:=s.toks + hkD k } ->
  aF (aI prog w) A (pyHash v) Q E s:=by
 intro d
 induction d with
 | zero=>
  intro A s k v Q dk hu r q;cases k with
  | tup l=>exact dk.elim
  | int i=>obtain⟨t,rfl⟩:=r;exact(Yw prog w).pyHash (k:=.inl i) (Q17 i t) q
  | str i=>obtain⟨t,rfl⟩:=r;exact(Yw prog w).pyHash (k:=.inr i) (Q16 i t) q
 | succ d ih=>
  intro A s k v Q dk hu r q;cases k with
  | int i=>obtain⟨t,rfl⟩:=r;exact(Yw prog w).pyHash (k:=.inl i) (Q17 i t) q
  | str i=>obtain⟨t,rfl⟩:=r;exact(Yw prog w).pyHash (k:=.inr i) (Q16 i t) q
  | tup ks=>
   obtain⟨a,a1,rfl,⟨o,ho,hc,n,hd⟩,hi⟩:=r;have Y:s.TypeIs (.ref a) "tuple" := ⟨o,ho,hc⟩;have a2:A.units < aP:=by omega
   unfold pyHash;unfold pyHashByItsType;have nb:¬ (zo (dX "tuple.__hash__") == zo bW)=zi:=by rw[beq_builtin_none];exact F5
   have sp {Q:Option aA->aD->Prop} (h:Q (zo (.builtin "tuple.__hash__")) s):aF (aI prog w) A (specialOf (.ref a) "__hash__") Q E s:=wpAny_specialOf Y F.slot_tuple_hash.lookup h;refine aC (wpAny_cRoomFor_or (.inr a2) (aC (sp ?_)));show aF _ _ (if(zo (dX "tuple.__hash__") == zo bW)=zi then _ else _) _ _ _;rw[bP nb];refine aC (sp (aC (wpAny_callSpecialIfBoundUnlessNone?_slot Y F.slot_tuple_hash (aa F.slot_tuple_hash Y F.entry_tuple_hash ?_ (F.args_tuple_hash_1 _)))));show aF _ A.in1 (Builtin.Tuple.tupleItemsOf (.ref a) >>= _) _ _ s;refine aC (wpAny_tupleItemsOf ho hd (aC ?_));rw[<- fU];have O:A.in1.units + d < aP:=by show A.units + 1 + d < aP;omega
   refine wpAny_forIn_list _ (λrest (b:Array Int) s'=>∃ B I,ks=B ++ I/\KIsL s.heap I rest/\b.toList=B.map (hkH prog w)/\s'={ s with toks:=s.toks + hkDL B }) _ ?_ ?_ _ _ ⟨[],ks,rfl,hi,rfl,rfl⟩
   ·rintro x rest b s' ⟨B,I,rfl,J,U,rfl⟩;cases I with
    | nil=>cases J
    | cons k I=>
     obtain⟨v,r,e,h1,h2⟩:=J;cases e;refine aC (ih (s:={ s with toks:=s.toks + hkDL B }) (dk k (by simp)) O h1 ?_);exact wpAny_pure ⟨B ++ [k],I,by simp,h2,by simp[U],by simp[Qi6,hkDL,eI]⟩
   ·rintro b s' ⟨B,I,rfl,J,U,rfl⟩;cases I with
    | cons k I=>obtain⟨_,_,e,_⟩:=J;cases e
    | nil=>
     rw[G6]at q;show aF _ _ (retInt (Builtin.Tuple.tupleHashOf b.toList)) _ _ _;rw[U,<- Qi5];refine wpAny_ret_mkInt ?_;have q:Q (reduceHash (Builtin.Tuple.tupleHashOf (hkHL prog w B))) { s with toks:=s.toks + (hkDL B + 1) }:=q;generalize Builtin.Tuple.tupleHashOf (hkHL prog w B)=z at*;show aF _ _ (if(decide (-(2:Int) ^ 63<=z) && decide (z < 2 ^ 63))=zi then _ else _) Q E _;unfold reduceHash at q
     split
     ·rename_i Z;rw[bO Z]at q;exact wpAny_pure (by simpa[eI]using q)
     ·rename_i Z;rw[bP Z]at q;exact aC (ak (wpAny_pure (by simpa[eI]using q)))
theorem Qp6:∀ (d:Nat) {A:aQ} {s:aD} {x y:HK} {u v:aA},Dp d x->Dp d y->A.units + d < aP->KIs s.heap x u->KIs s.heap y v->SeqAt.EqAt A s u v (decide (x=y)):=by
 intro d;have J:∀ {A:aQ} {s:aD} {x y:HK} {u v:aA},(∀ l,x≠.tup l)->(∀ l,y≠.tup l)->KIs s.heap x u->KIs s.heap y v->SeqAt.EqAt A s u v (decide (x=y)):=by
  intro A s x y u v nx ny p q;cases x with
  | tup l=>exact absurd rfl (nx l)
  | int i=>
   obtain⟨t,rfl⟩:=p;cases y with
   | tup l=>exact absurd rfl (ny l)
   | int j=>
    obtain⟨t',rfl⟩:=q;have:=SeqAt.EqAt.int_int (A:=A) (s:=s) i t j t'
    rwa [show(i == j)=decide (HK.int i=HK.int j) by by_cases e:i=j <;> simp[e]]at this
   | str j=>
    obtain⟨t',rfl⟩:=q;rw[bQ (by simp)];exact SeqAt.EqAt.int_str _ _ _ _
  | str i=>
   obtain⟨t,rfl⟩:=p;cases y with
   | tup l=>exact absurd rfl (ny l)
   | int j=>
    obtain⟨t',rfl⟩:=q;rw[bQ (by simp)];exact SeqAt.EqAt.str_int _ _ _ _
   | str j=>
    obtain⟨t',rfl⟩:=q;have:=SeqAt.EqAt.str_str (A:=A) (s:=s) i t j t'
    rwa [show(i == j)=decide (HK.str i=HK.str j) by by_cases e:i=j <;> simp[e]]at this
 induction d with
 | zero=>
  intro A s x y u v dx Z hu p q;exact J (λl e=>by subst e;exact dx) (λl e=>by subst e;exact Z) p q
 | succ d ih=>
  intro A s x y u v dx Z hu p q;have I:A.units < aP:=by omega
  cases x with
  | tup l=>
   obtain⟨a,its,rfl,Y,p2⟩:=p;cases y with
   | int j=>
    obtain⟨t',rfl⟩:=q;rw[bQ (by simp)];exact SeqAt.EqAt.tuple_int _ _ Y I
   | str j=>
    obtain⟨t',rfl⟩:=q;rw[bQ (by simp)];exact SeqAt.EqAt.tuple_str _ _ Y I
   | tup m=>
    obtain⟨b,B,rfl,O,U⟩:=q
    by_cases e:a=b
    ·subst e;have e:=KIs.inj (d + 1) (h:=s.heap) dx Z ⟨a,its,rfl,Y,p2⟩ ⟨a,B,rfl,O,U⟩;rw[bR e];exact SeqAt.EqAt.same _
    ·have l1:=p2.len;have l2:=U.len;have he:∀ j (h1:j < its.size) (h2:j < B.size),SeqAt.EqAt A.in1 s its[j] B[j] (decide (l.getD j (.int 0)=m.getD j (.int 0))):=λj h1 h2=>by
      have k1:j < l.length:=by rw[l1,bt];exact h1
      have k2:j < m.length:=by rw[l2,bt];exact h2
      have e1:l.getD j (.int 0)=l[j]:=by rw[O7,O2 k1];rfl
      have e2:m.getD j (.int 0)=m[j]:=by rw[O7,O2 k2];rfl
      rw[e1,e2];exact ih (dx _ (F9 k1)) (Z _ (F9 k2)) (by show A.units + 1 + d < aP;omega) (p2.get j k1 (by simpa using h1)) (U.get j k2 (by simpa using h2))
     have rc:=SeqAt.RcAt.tuples Y O I he;have s1:its.size=l.length:=by rw[l1,bt]
     have s2:B.size=m.length:=by rw[l2,bt]
     rw[s1,s2,Qne]at rc;exact SeqAt.EqAt.of_refs e (by simpa using rc)
  | int i=>
   cases y with
   | tup m=>
    obtain⟨t',rfl⟩:=p;obtain⟨b,B,rfl,O,U⟩:=q;rw[bQ (by simp)];exact SeqAt.EqAt.int_tuple _ _ O I
   | _=>exact J (by simp) (by simp) p q
  | str i=>
   cases y with
   | tup m=>
    obtain⟨t',rfl⟩:=p;obtain⟨b,B,rfl,O,U⟩:=q;rw[bQ (by simp)];exact SeqAt.EqAt.str_tuple _ _ O I
   | _=>exact J (by simp) (by simp) p q
theorem Q3z:∀ (d:Nat) {A:aQ} {s:aD} {k:HK} {v:aA} {Q:Bool->aD->Prop} (m:Nat),d < m->Dp d k->KIs s.heap k v->Q zi s->aF (aI prog w) A (eqIsQuiet m v) Q E s:=by
 intro d;have B:∀ {A:aQ} {s:aD} {v:aA} {Q:Bool->aD->Prop} (m:Nat),carriedByValue v=zi->Q zi s->aF (aI prog w) A (eqIsQuiet m v) Q E s:=by
  intro A s v Q m hv q;rw[eqIsQuiet_byValue m hv];exact wpAny_pure q
 induction d with
 | zero=>
  intro A s k v Q m hm U r q;cases k with
  | tup l=>exact U.elim
  | int i=>obtain⟨t,rfl⟩:=r;exact B m rfl q
  | str i=>obtain⟨t,rfl⟩:=r;exact B m rfl q
 | succ d ih=>
  intro A s k v Q m hm U r q;cases k with
  | int i=>obtain⟨t,rfl⟩:=r;exact B m rfl q
  | str i=>obtain⟨t,rfl⟩:=r;exact B m rfl q
  | tup ks=>
   obtain⟨a,J,rfl,⟨o,Y,hc,n,hd⟩,hi⟩:=r;have Z:s.TypeIs (.ref a) "tuple" := ⟨o,Y,hc⟩;obtain⟨m,rfl⟩:∃ m',m=m' + 1:=⟨m - 1,by omega⟩;unfold eqIsQuiet;refine aC (wpAny_specialOf Z F.slot_tuple_eq.lookup ?_);show aF _ _ (isInstance (.ref a) (.type "tuple") >>= _) _ _ s;refine aC (bJ Z isSubtype_tuple_tuple ?_);simp only[dY,L0,if_false];refine aC (bC Y hd (aC ?_));show aF _ _ (forIn J _ _) _ _ s;rw[<- fU];refine wpAny_forIn_list _ (λrest r s'=>r.1=zl/\s'=s/\∃ l,KIsL s.heap l rest/\∀ k∈l,k∈ks) _ ?_ ?_ _ _ ⟨rfl,rfl,ks,hi,λ_ h=>h⟩
   ·rintro v rest r s' ⟨O,rfl,l,hl,I⟩;cases l with
    | nil=>cases hl
    | cons k l=>
     obtain⟨v',r',e,h1,h2⟩:=hl;cases e;refine aC (ih m (by omega) (U k (I k (by simp))) h1 ?_);simp only[dY,L0,if_false];exact wpAny_pure ⟨rfl,rfl,l,h2,λx hx=>I x (O6 _ hx)⟩
   ·rintro ⟨r1,r2⟩ s' ⟨O,rfl,_⟩;simp only at O;subst O;exact wpAny_pure q
def nk(prog:aM)(w:aJ):HeapKind prog w HK where
 is:=λh k a=>KIs h k (.ref a)/\Dp 5 k
 hash:=hkH prog w
 draws:=hkD
 room:=λA=>A.units + 5 < aP
 inj:=λhx hy=>KIs.inj 5 hx.2 hy.2 hx.1 hy.1
 keeps:=λ{h h' k a d o es ep} x ho hd hs=>⟨KIs.keep (λb its ⟨ob,h1,h2,n,h3⟩=>⟨ob,(hs.2 b λe=>by
  subst e;rw[ho]at h1;cases h1;rw[hd]at h3;cases h3).trans h1,h2,n,h3⟩) 5 x.2 x.1,x.2⟩
 pyHash:=λhu hk h=>Q29 5 hk.2 hu hk.1 h
 eqBool:=λhu hx hy h=>Qp6 5 hx.2 hy.2 hu hx.1 hy.1 prog w _ _ h
 quiet:=λhk h=>Q3z 5 8 (by decide) hk.2 hk.1 h
end
section
variable{prog:aM}{w:aJ}
def vE(prog:aM)(w:aJ)(x:HK × aA × aA):DictEntry:=⟨hkH prog w x.1,x.2.1,x.2.2⟩
theorem Q2p(B:es.toList=xs.map (vE prog w))(j:Nat):es[j]?=(xs[j]?).map (vE prog w):=by
 rw[<- cX,B,F4]
theorem yz(B:es.toList=xs.map (vE prog w)):es.size=xs.length:=by
 rw[<- bt,B,O0]
theorem Qpg(hn:(xs.map (·.1)).Nodup){i j:Nat}{k:HK}{p q:aA × aA}(h1:xs[i]?=zo (k,p))(h2:xs[j]?=zo (k,q)):i=j:=by
 have I:=(O1.mp h1).1;have B:=(O1.mp h2).1;refine(fV (xs:=xs.map (·.1)) (i:=i) (j:=j) (h₀:=by simpa using I) (h₁:=by simpa using B) hn).mp ?_;rw[fW,fW,(O1.mp h1).2,(O1.mp h2).2]
variable{A:aQ}{E:zAC}{s:aD}{d:aB}{o:Obj}{es:Array DictEntry}{ep:Nat}{xs:List (HK × aA × aA)}{k:HK}{key:aA}
theorem Q6b{stored:List aA}{Q:Bool->aD->Prop}(B:KIs s.heap k key/\Dp 5 k)(U:∀ v∈stored,∃ I,KIs s.heap I v/\Dp 5 I)(h:Q zb s):aF (aI prog w) A (tableMayTell key stored) Q E s:=by
 unfold tableMayTell
 by_cases q:stored.isEmpty=zi
 ·rw[bO q];exact wpAny_pure h
 rw[bP q];refine aC (Q3z 5 8 (by decide) B.2 B.1 ?_);simp only[dY,L0,if_false];refine aC (wpAny_forIn_list _ (λrest r s'=>(s'=s/\r=(zl,()))/\∀ v∈rest,∃ I,KIs s.heap I v/\Dp 5 I) _ ?_ ?_ _ _ ⟨⟨rfl,rfl⟩,U⟩)
 ·rintro v rest r s' ⟨⟨rfl,rfl⟩,Y⟩;obtain⟨I,J,O⟩:=Y v D3;refine aC (Q3z 5 8 (by decide) O J ?_);simp only[dY,L0,if_false];exact wpAny_pure ⟨⟨rfl,rfl⟩,λu Z=>Y u (O6 _ Z)⟩
 ·rintro r s' ⟨⟨rfl,rfl⟩,_⟩;exact wpAny_pure h
def vSeen(prog:aM)(w:aJ)(es:Array DictEntry)(xs:List (HK × aA × aA))(k:HK)(rest:List Nat)(hit:Option Nat):Prop:=
 ∃ i,rest=(fX i (es.size - i)).filter (λi=>(es[i]?.map (·.hash)) == zo (hkH prog w k))/\i<=es.size /\
  ((hit=zl/\∀ j p,j < i->xs[j]?≠zo (k,p))\/∃ j p,hit=zo j/\j < i/\xs[j]?=zo (k,p))
theorem vSeen.start:vSeen prog w es xs k (placesWithHash es.size (λi=>es[i]?.map (·.hash)) (hkH prog w k)) zl:=
 ⟨0,by rw[placesWithHash,List.range_eq_range',eJ],bb _,.inl ⟨rfl,λ_ _ h=>absurd h (Nat.not_lt_zero _)⟩⟩
theorem vSeen.step (he:es.toList=xs.map (vE prog w)) {x:Nat} {rest:List Nat} {B:Option Nat} (h:vSeen prog w es xs k (x :: rest) B) :
  ∃ O Y v,xs[x]?=zo (O,Y,v)/\es[x]?=zo ⟨hkH prog w O,Y,v⟩/\hkH prog w O=hkH prog w k/\(B=zl\/∃ j p,B=zo j/\j < x/\xs[j]?=zo (k,p))/\(O≠k->vSeen prog w es xs k rest B)/\(O=k->vSeen prog w es xs k rest (zo x)):=by
 obtain⟨i,hr,hi,hH⟩:=h;have hsz:=yz he;obtain⟨h1,h2,h3,h4,h5⟩:=filter_range'_cons _ _ _ _ _ hr.symm;have a1:x < es.size:=by omega
 obtain⟨⟨O,Y,v⟩,hx⟩:∃ y,xs[x]?=zo y:=⟨_,O2 (by omega)⟩;have Z:es[x]?=zo ⟨hkH prog w O,Y,v⟩:=by rw[Q2p he x,hx];rfl
 have hh:hkH prog w O=hkH prog w k:=by
  rw[Z]at h3;simpa using h3
 have J:rest=(fX (x + 1) (es.size - (x + 1))).filter (λi=>(es[i]?.map (·.hash)) == zo (hkH prog w k)):=by rw[h5];congr 2;omega
 have has:∀ (j:Nat) (p:aA × aA),xs[j]?=zo (k,p)->((es[j]?.map (·.hash)) == zo (hkH prog w k))=zi:=λj p hj=>by
  rw[Q2p he j,hj];simp[vE]
 have a2:(B=zl/\∀ j p,j < x->xs[j]?≠zo (k,p))\/∃ j p,B=zo j/\j < x/\xs[j]?=zo (k,p):=by
  rcases hH with⟨h0,U⟩ | ⟨j,p,q1,q2,q3⟩
  ·refine .inl ⟨h0,λj p hj I=>?_⟩
   by_cases z:j < i
   ·exact U j p z I
   ·have:=h4 j (by omega) hj;rw[has j p I]at this;cases this
  ·exact .inr ⟨j,p,q1,by omega,q3⟩
 refine⟨O,Y,v,hx,Z,hh,a2.imp (·.1) id,λa3=>⟨x + 1,J,a1,?_⟩,λe=>⟨x + 1,J,a1,.inr ⟨x,(Y,v),rfl,cw x,by rw[hx,e]⟩⟩⟩
 rcases a2 with⟨h0,U⟩ | ⟨j,p,q1,q2,q3⟩
 ·refine .inl ⟨h0,λj p hj I=>?_⟩
  by_cases z:j < x
  ·exact U j p z I
  ·have e:j=x:=by omega
   rw[e,hx]at I;cases I;exact a3 rfl
 ·exact .inr ⟨j,p,q1,by omega,q3⟩
theorem vSeen.fin(O:es.toList=xs.map (vE prog w)){B:Option Nat}(h:vSeen prog w es xs k [] B):(B=zl/\∀ (j:Nat) (p:aA × aA),xs[j]?≠zo (k,p))\/∃ (j:Nat) (p:aA × aA),B=zo j/\xs[j]?=zo (k,p):=by
 obtain⟨i,hr,hi,hH⟩:=h;have hsz:=yz O;rcases hH with⟨h0,I⟩ | ⟨j,p,U,q2,Y⟩
 ·refine .inl ⟨h0,λj p J=>?_⟩
  by_cases z:j < i
  ·exact I j p z J
  ·have Z:=(O1.mp J).1;have:=List.filter_eq_nil_iff.mp hr.symm j (List.mem_range'_1.mpr ⟨by omega,by omega⟩);rw[Q2p O j,J]at this;simp[vE]at this
 ·exact .inr ⟨j,p,U,Y⟩
theorem Q9p {Q:Option Nat->aD->Prop} (hu:A.units + 5 < aP) (I:KIs s.heap k key/\Dp 5 k) (ho:s.heap.get? d=zo o) (hd:o.data=.dict es ep) (he:es.toList=xs.map (vE prog w)) (a3:∀ x∈xs,KIs s.heap x.1 x.2.1/\Dp 5 x.1) (hn:(xs.map (·.1)).Nodup)
  (a5:(∀ (j:Nat) (p:aA × aA),xs[j]?≠zo (k,p))->Q zl s) (U:∀ (j:Nat) (p:aA × aA),xs[j]?=zo (k,p)->Q (zo j) s):aF (aI prog w) A (dictFind d key (hkH prog w k)) Q E s:=by
 have a9:∀ e∈es,∃ x∈xs,e=vE prog w x:=λe b2=>by
  have:e∈xs.map (vE prog w):=he ▸ eK.mpr b2;obtain⟨x,hx,rfl⟩:=E8.mp this;exact⟨x,hx,rfl⟩
 have b0:∀ {k':HK} {kv:aA} {Q:Bool->aD->Prop},KIs s.heap k' kv->Dp 5 k'->Q (decide (k'=k)) s->aF (aI prog w) A (eqBool kv key) Q E s:=λ{k' kv Q} h1 h2 h3=>Qp6 5 h2 I.2 hu h1 I.1 prog w _ _ h3
 obtain⟨Y,b6⟩:∃ Y,placesWithHash es.size (λi=>es[i]?.map (·.hash)) (hkH prog w k)=Y:=⟨_,rfl⟩
 have S0:vSeen prog w es xs k Y zl:=b6 ▸ vSeen.start;have a7:∀ v∈Y.filterMap (λi=>es[i]?.map (·.key)),∃ k',KIs s.heap k' v/\Dp 5 k':=λv hv=>by
  obtain⟨i,_,hi⟩:=cx.mp hv;cases Z:es[i]? with
  | none=>rw[Z]at hi;cases hi
  | some e=>
   rw[Z]at hi;obtain rfl:e.key=v:=by simpa using hi
   obtain⟨x,hx,rfl⟩:=a9 e (fY Z);exact⟨x.1,a3 x hx⟩
 have fin:∀ {B:Option Nat},vSeen prog w es xs k [] B->Q B s:=λ{B} h=>by
  rcases h.fin he with⟨rfl,z⟩ | ⟨j,p,rfl,z⟩
  ·exact a5 z
  ·exact U j p z
 have plain:aF (aI prog w) A (dictWalkPlain d key (hkH prog w k) es Y) Q E s:=by
  unfold dictWalkPlain;refine aC (wpAny_forIn_list _ (λrest b s'=>(s'=s/\b=(zl,()))/\vSeen prog w es xs k rest zl) _ ?_ ?_ _ _ ⟨⟨rfl,rfl⟩,S0⟩)
  ·rintro x rest b s' ⟨⟨rfl,rfl⟩,hS⟩;obtain⟨k',kv,v,hx,b1,hh,_,h1,h2⟩:=hS.step he;rw[b1];dsimp only;rw[bO (by rw[hh];simp)];have a4:=a3 _ (F0 hx);refine aC (wpAny_dictEpoch ho hd (aC (b0 a4.1 a4.2 (aC (wpAny_dictEpoch ho hd ?_)))));show aF _ _ (if(ep != ep)=zi then _ else _) _ E _;rw[bP (by simp)]
   by_cases e:k'=k
   ·rw[bR e];exact aC (ak (wpAny_pure (wpAny_pure (U x (kv,v) (by rw[hx,e])))))
   ·rw[bQ e];exact aC (ak (wpAny_pure ⟨⟨rfl,rfl⟩,h1 e⟩))
  ·rintro b s' ⟨⟨rfl,rfl⟩,hS⟩;exact wpAny_pure (fin hS)
 have J:∀ a1:Bool,a1=zb->aF (aI prog w) A (do
   if(a1 && decide ((Y.filterMap λi=>es[i]?.map (·.key)).length>=2))=zi then unsupported "dict.find:order-among-keys-of-one-hash"
   let mut B:Option Nat:=zl
   for i in Y do
    if let zo e:=es[i]? then
     if e.hash == hkH prog w k then
      let before <- dictEpoch d (keyPart key)
      let same <- eqBool e.key key
      if(<- dictEpoch d (keyPart key)) != before then unsupported "dict.changed-during-lookup"
      if same then
       if B.isSome then unsupported "dict.find:order-among-keys-of-one-hash"
       rule "dict.find.hit"
       if(Y.filterMap λi=>es[i]?.map (·.key)).length < 2 then return zo i
       B:=zo i
      else
       rule "dict.find.same-hash-other-key"
       if a1 && !(0<=hkH prog w k && hkH prog w k < 32)then unsupported "dict.find:asked-again-or-not-hangs-on-the-table"
   return B) Q E s:=by
  rintro _ rfl;rw[bP (by simp)];refine aC (wpAny_forIn_list _ (λrest b s'=>∃ B,(s'=s/\b=(zl,B))/\vSeen prog w es xs k rest B) _ ?_ ?_ _ _ ⟨zl,⟨rfl,rfl⟩,S0⟩)
  ·rintro x rest b s' ⟨B,⟨rfl,rfl⟩,hS⟩;obtain⟨k',kv,v,hx,b1,hh,hj,h1,h2⟩:=hS.step he;rw[b1];dsimp only;rw[bO (by rw[hh];simp)];have a4:=a3 _ (F0 hx);refine aC (wpAny_dictEpoch ho hd (aC (b0 a4.1 a4.2 (aC (wpAny_dictEpoch ho hd ?_)))));show aF _ _ (if(ep != ep)=zi then _ else _) _ E _;rw[bP (by simp)]
   by_cases e:k'=k
   ·rw[bR e];have h0:B=zl:=by
     rcases hj with z | ⟨j,p,_,z2,z3⟩
     ·exact z
     ·exact absurd (Qpg hn z3 (show xs[x]?=zo (k,kv,v) by rw[hx,e])) (by omega)
    subst h0
    first | rw[bO rfl] | skip
    simp only[Option.isSome_none,L0,if_false]
    first | refine aC (wpAny_pure ?_) | skip
    refine aC (ak ?_)
    split
    ·exact wpAny_pure (wpAny_pure (U x (kv,v) (by rw[hx,e])))
    ·exact wpAny_pure ⟨zo x,⟨rfl,rfl⟩,h2 e⟩
   ·rw[bQ e];simp only[L0,if_false];refine aC (ak ?_)
    first | rw[bP (by simp)] | skip
    first
     | exact wpAny_pure ⟨B,⟨rfl,rfl⟩,h1 e⟩
     | exact aC (wpAny_pure (wpAny_pure ⟨B,⟨rfl,rfl⟩,h1 e⟩))
  ·rintro b s' ⟨B,⟨rfl,rfl⟩,hS⟩;exact wpAny_pure (fin hS)
 unfold dictFind
 try with_reducible refine af ?_
 refine aC (wpAny_dictEntries ho hd ?_);dsimp only;rw[b6];have b5:∀ a,key=.ref a->¬ (es.any λe=>e.key == key && e.hash != hkH prog w k)=zi:=λa ea z=>by
  rw[<- Array.any_toList,dZ]at z;obtain⟨e,b2,hc⟩:=z;obtain⟨x,hx,rfl⟩:=a9 e (eK.mp b2);have hc:((x.2.1 == key) && (hkH prog w x.1 != hkH prog w k))=zi:=hc;rw[L9,beq_iff_eq,bne_iff_ne]at hc;have b3:=a3 x hx;rw[hc.1]at b3;exact hc.2 (by rw[KIs.inj 5 b3.2 I.2 b3.1 I.1])
 obtain⟨st,a6⟩:∃ st,Y.filterMap (λi=>es[i]?.map (·.key))=st:=⟨_,rfl⟩
 rw[a6]at a7;have O:=I;cases k with
 | int i=>
  obtain⟨t,rfl⟩:=I.1;dsimp only
  by_cases c:(cJ i t :: Y.filterMap (λi=>es[i]?.map (·.key))).all carriedByValue=zi
  ·rw[bO c];exact plain
  ·rw[bP c]
   by_cases h1:(Y.filterMap (λi=>es[i]?.map (·.key)) == [cJ i t])=zi
   ·rw[bO h1];exact aC (wpAny_pure (J zb rfl))
   ·rw[bP h1];exact aC (Q6b O (by rw[a6];exact a7) (J zb rfl))
 | tup l=>
  obtain⟨a,its,rfl,_⟩:=I.1;dsimp only
  by_cases c:(bX a :: Y.filterMap (λi=>es[i]?.map (·.key))).all carriedByValue=zi
  ·rw[bO c];exact plain
  ·rw[bP c,bP (b5 a rfl)]
   by_cases h1:(Y.filterMap (λi=>es[i]?.map (·.key)) == [bX a])=zi
   ·rw[bO h1];exact aC (wpAny_pure (J zb rfl))
   ·rw[bP h1];exact aC (Q6b O (by rw[a6];exact a7) (J zb rfl))
 | str x=>
  obtain⟨t,rfl⟩:=I.1;dsimp only
  by_cases a8:(es.all λe=>isExactStrKey e.key)=zi
  ·rw[bO a8];unfold foundByValue;have a2:∀ (j:Nat) (y:HK × aA × aA),xs[j]?=zo y->(y.2.1.isStr x=zi <-> y.1=.str x):=λj y hj=>by
    have hy:=a3 y (F0 hj);constructor
    ·intro z;obtain⟨k',kv,v⟩:=y;cases kv with
     | str z' t'=>
      have:z'=x:=by simpa[eL]using z
      subst this;exact KIs.inj 5 hy.2 O.2 hy.1 ⟨t',rfl⟩
     | _=>simp[eL]at z
    ·intro z;have b4:=hy.1;rw[z]at b4;obtain⟨t',e⟩:=b4;rw[e];simp[eL]
   cases hf:es.findIdx? (λe=>e.key.isStr x)with
   | none=>
    refine wpAny_pure (a5 λj p hj=>?_);have:=Array.findIdx?_eq_none_iff.mp hf (vE prog w (.str x,p)) (fY (by rw[Q2p he j,hj];rfl));have h2:=(a2 j (.str x,p) hj).mpr rfl;have h3:p.1.isStr x=zb:=this;rw[show((HK.str x,p).2.1)=p.1 from rfl]at h2;rw[h2]at h3;cases h3
   | some i=>
    obtain⟨c1,hi,_⟩:=Array.findIdx?_eq_some_iff_getElem.mp hf;have hsz:=yz he;obtain⟨y,hy⟩:∃ y,xs[i]?=zo y:=⟨_,O2 (by omega)⟩;have Z:es[i]?=zo (vE prog w y):=by rw[Q2p he i,hy];rfl
    have b9:es[i]=vE prog w y:=by rw[fZ c1]at Z;exact bY Z
    have b8:y.1=.str x:=(a2 i y hy).mp (by
     have:(es[i]).key.isStr x=zi:=hi;rw[b9]at this;exact this)
    have b7:=a3 y (F0 hy);dsimp only;rw[Z];dsimp only;refine aC (wpAny_dictEpoch ho hd (aC (b0 b7.1 b7.2 (aC (wpAny_dictEpoch ho hd ?_)))));show aF _ _ (if(ep != ep)=zi then _ else _) _ E _;rw[bP (by simp),bR b8];exact aC (ak (wpAny_pure (U i y.2 (by rw[hy,<- b8]))))
  ·rw[bP a8]
   by_cases c:(cW x t :: Y.filterMap (λi=>es[i]?.map (·.key))).all carriedByValue=zi
   ·rw[bO c];exact plain
   ·rw[bP c]
    by_cases h1:(Y.filterMap (λi=>es[i]?.map (·.key)) == [cW x t])=zi
    ·rw[bO h1];exact aC (wpAny_pure (J zb rfl))
    ·rw[bP h1];exact aC (Q6b O (by rw[a6];exact a7) (J zb rfl))
def vAt(xs:List (HK × aA × aA))(k:HK):Option (aA × aA):=(xs.find? λx=>decide (x.1=k)).map (·.2)
def Vu(k:HK)(v:aA)(x:HK × aA × aA):HK × aA × aA:=if x.1=k then(x.1,x.2.1,v)else x
def Q1t(xs:List (HK × aA × aA))(k:HK)(kv v:aA):List (HK × aA × aA):=if(vAt xs k).isSome=zi then xs.map (Vu k v)else xs ++ [(k,kv,v)]
def DictV(P:aM)(w:aJ)(h:Heap)(d:aB)(xs:List (HK × aA × aA)):Prop:=
 ∃ o es ep,h.get? d=zo o/\o.ExactDict/\o.data=.dict es ep/\es.toList=xs.map (vE P w)/\(∀ x∈xs,KIs h x.1 x.2.1/\Dp 5 x.1)/\(xs.map (·.1)).Nodup
theorem DictV.typeIs{P:aM}(J:DictV P w s.heap d xs):s.TypeIs (.ref d) "dict" := let ⟨o,_,_,B,I,_⟩:=J;⟨o,B,I.1⟩
theorem Q7p(x:HK × aA × aA)(xs:List (HK × aA × aA))(k:HK):vAt (x :: xs) k=if x.1=k then zo x.2 else vAt xs k:=by
 unfold vAt
 by_cases e:x.1=k
 ·rw[List.find?_cons_of_pos (by simpa using e),bO e];rfl
 ·rw[List.find?_cons_of_neg (by simpa using e),bP e]
theorem Q1y:∀ {xs:List (HK × aA × aA)},(xs.map (·.1)).Nodup->∀ {j:Nat} {k:HK} {p:aA × aA},xs[j]?=zo (k,p)->vAt xs k=zo p
 | [],_,_,_,_,h=>by simp at h
 | x :: xs,hn,0,k,p,h=>by
  rw[fb]at h;cases h;rw[Q7p,bO rfl]
 | x :: xs,hn,j + 1,k,p,h=>by
  rw[cy]at h;rw[D8,L8]at hn;rw[Q7p,bP λe=>hn.1 (by rw[e];exact E8.mpr ⟨_,F0 h,rfl⟩)]
  exact Q1y hn.2 h
theorem xc(h:∀ (j:Nat) (p:aA × aA),xs[j]?≠zo (k,p)):vAt xs k=zl:=by
 unfold vAt;rw[Option.map_eq_none_iff,List.find?_eq_none];intro x B e;obtain⟨j,I⟩:=eM B;have e:x.1=k:=of_decide_eq_true e;exact h j x.2 (by rw[I,<- e])
theorem KIs.stays{h':Heap}{v:aA}(x:KIs h k v/\Dp 5 k)(I:h.get? d=zo o)(hd:o.data=.dict es ep)(hs:Heap.SameBut d h h'):KIs h' k v/\Dp 5 k:=
 ⟨KIs.keep (λb its ⟨ob,h1,h2,n,B⟩=>⟨ob,(hs.2 b λe=>by
  subst e;rw[I]at h1;cases h1;rw[hd]at B;cases B).trans h1,h2,n,B⟩) 5 x.2 x.1,x.2⟩
theorem Qfh{Q:Option aA->aD->Prop}(Y:A.units + 5 < aP)(B:KIs s.heap k key/\Dp 5 k)(hm:DictV prog w s.heap d xs)(h:Q ((vAt xs k).map (·.2)) { s with toks:=s.toks + hkD k }):aF (aI prog w) A (dictGet d key) Q E s:=by
 obtain⟨o,es,ep,O,_,hd,U,I,hn⟩:=hm;unfold dictGet
 try with_reducible refine af ?_
 refine aC (Q29 5 B.2 Y B.1 (aC (Q9p (s:={ s with toks:=s.toks + hkD k }) Y B O hd U I hn (λJ=>?_) λj p Z=>?_)))
 ·rw[xc J]at h;exact wpAny_pure h
 ·rw[Q1y hn Z]at h;refine aC (wpAny_dictEntries (s:={ s with toks:=s.toks + hkD k }) O hd ?_);rw[Q2p U j,Z];exact wpAny_pure h
theorem Q7n(v:aA):∀ {xs:List (HK × aA × aA)} {j:Nat} {p:aA × aA},(xs.map (·.1)).Nodup->xs[j]?=zo (k,p)->(xs.map (vE prog w)).modify j (λe=>{ e with val:=v })=(xs.map (Vu k v)).map (vE prog w)
 | [],_,_,_,h=>by simp at h
 | x :: xs,0,p,hn,h=>by
  rw[fb]at h;cases h;rw[D8,L8]at hn;have e:xs.map (Vu k v)=xs:=(L5 λy B=>by
   unfold Vu;exact bP λz=>hn.1 (by rw[<- z];exact E8.mpr ⟨y,B,rfl⟩)).trans (List.map_id' xs)
  rw[D8,D8,D8,e];show _ :: _=vE prog w (if k=k then _ else _) :: _;rw[bO rfl];rfl
 | x :: xs,j + 1,p,hn,h=>by
  rw[cy]at h;rw[D8,L8]at hn;rw[D8,D8,D8,List.modify_succ_cons,Q7n v hn.2 h];have:Vu k v x=x:=by
   unfold Vu;exact bP λz=>hn.1 (by rw[z];exact E8.mpr ⟨_,F0 h,rfl⟩)
  rw[this]
theorem Qph(xs:List (HK × aA × aA))(v:aA):(xs.map (Vu k v)).map (·.1)=xs.map (·.1):=by
 rw[F3];refine L5 λx _=>?_
 show(Vu k v x).1=x.1;unfold Vu
 split <;> rfl
theorem Qnn {v:aA} {Q:Unit->aD->Prop} (hu:A.units + 5 < aP) (B:KIs s.heap k key/\Dp 5 k) (hm:DictV prog w s.heap d xs)
  (hQ:∀ h',DictV prog w h' d (Q1t xs k key v)->Heap.SameBut d s.heap h'->Q () { s with heap:=h',toks:=s.toks + hkD k }) (hsz:xs.length<=sizeLine):aF (aI prog w) A (dictSet d key v) Q E s:=by
 obtain⟨o,es,ep,J,hc,hd,Z,O,hn⟩:=hm;unfold dictSet
 try with_reducible refine af ?_
 refine aC (Q29 5 B.2 hu B.1 ?_);unfold dictSetHashed
 try with_reducible refine af ?_
 refine aC (Q9p (s:={ s with toks:=s.toks + hkD k }) hu B J hd Z O hn (λY=>?_) λj p hj=>?_)
 ·have U:Q1t xs k key v=xs ++ [(k,key,v)]:=by unfold Q1t;rw[xc Y];rfl
  refine aC (ak (wpAny_updateDictKeys (hz:=by have e:=yz Z;omega) (s:={ s with toks:=s.toks + hkD k }) J hd (hQ _ ⟨_,_,ep + 1,M9 _ J (eN (da hd _)),hc.mapDictKeys _,da hd _,?_,?_,?_⟩ (Heap.SameBut.update ..))))
  ·rw[U];simp[Z,vE]
  ·rw[U];intro x I;rcases D4.mp I with I | I
   ·exact KIs.stays (O x I) J hd (Heap.SameBut.update ..)
   ·rw[bw.mp I];exact KIs.stays B J hd (Heap.SameBut.update ..)
  ·rw[U,E7,bx];refine⟨hn,by simp,λx I y hy e=>?_⟩;rw[bw.mp hy]at e;obtain⟨z,hz,ez⟩:=E8.mp I;obtain⟨j,hj⟩:=eM hz;exact Y j z.2 (by rw[hj,show z=(z.1,z.2)from rfl,ez,e])
 ·have U:Q1t xs k key v=xs.map (Vu k v):=by unfold Q1t;rw[Q1y hn hj];rfl
  refine aC (ak (aC (wpAny_updateDict (s:={ s with toks:=s.toks + hkD k }) J hd (wpAny_point (hQ _ ⟨_,_,ep,M9 _ J (eN (fc hd _)),hc.mapDict _,fc hd _,?_,?_,?_⟩ (Heap.SameBut.update ..))))))
  ·rw[U];have:=Q7n (prog:=prog) (w:=w) v hn hj;rw[<- Z]at this;obtain⟨l⟩:=es;simpa using this
  ·rw[U];intro x I;obtain⟨y,hy,rfl⟩:=E8.mp I;unfold Vu
   split <;> exact KIs.stays (O y hy) J hd (Heap.SameBut.update ..)
  ·rw[U,Qph];exact hn
theorem Qnp{Q:Bool->aD->Prop}(U:A.units + 6 < aP)(B:KIs s.heap k key/\Dp 5 k)(hd:(d == aZ)=zb)(J:DictV prog w s.heap d xs)(h:Q (vAt xs k).isSome { s with toks:=s.toks + hkD k }):aF (aI prog w) A (contains (.ref d) key) Q E s:=by
 have T:=J.typeIs;have O:¬ (zo (dX "dict.__contains__") == zo bW)=zi:=by rw[beq_builtin_none];exact F5
 unfold contains
 try with_reducible refine af ?_
 refine aC (wpAny_specialOf T slot_dict_contains.lookup ?_);show aF _ _ (if(zo (dX "dict.__contains__") == zo bW)=zi then _ else _) _ E s;rw[bP O];refine aC (wpAny_callSpecialUnlessNone?_slot (name:=bf "__contains__") T slot_dict_contains (aa slot_dict_contains T entry_dict_contains ?_ (args_dict_contains _ _)));show aF _ _ (dictGet d key >>= _) _ _ s;refine aC (Qfh (A:=A.in1) (by show A.units + 1 + 5 < aP;omega) B J ?_);cases I:vAt xs k with
 | some p=>
  rw[I]at h;show aF _ _ (ret (.bool zi)) _ _ _;exact wpAny_pure ⟨_,rfl,av h⟩
 | none=>
  rw[I]at h;show aF _ _ (Builtin.Dict.pendingKey? d key >>= _) _ _ _;exact aC (wpAny_pendingKey_other hd (wpAny_pure ⟨_,rfl,av h⟩))
theorem Qxz{Q:zAC}(J:A.units + 6 < aP)(B:KIs s.heap k key/\Dp 5 k)(hd:(d == aZ)=zb)(I:DictV prog w s.heap d xs)(h:Q (.bool (vAt xs k).isSome) { s with toks:=s.toks + hkD k }):aF (aI prog w) A (aR .In key (.ref d)) Q E s:=
 aC (m:=contains (.ref d) key) (Qnp J B hd I (wpAny_pure h))
theorem Qju{Q:zAC}(J:A.units + 6 < aP)(B:KIs s.heap k key/\Dp 5 k)(hd:(d == aZ)=zb)(I:DictV prog w s.heap d xs)(h:Q (.bool (!(vAt xs k).isSome)) { s with toks:=s.toks + hkD k }):aF (aI prog w) A (aR .NotIn key (.ref d)) Q E s:=
 aC (m:=contains (.ref d) key) (Qnp J B hd I (wpAny_pure h))
theorem Qdb{p:aA × aA}{Q:zAC}(O:A.units + 6 < aP)(B:KIs s.heap k key/\Dp 5 k)(I:DictV prog w s.heap d xs)(J:vAt xs k=zo p)(h:Q p.2 { s with toks:=s.toks + hkD k }):aF (aI prog w) A (getItem (.ref d) key) Q E s:=by
 have T:=I.typeIs;unfold getItem
 try with_reducible refine af ?_
 refine aC (wpAny_sequenceKey T (by decide) (aC (wpAny_callSpecial?_slot (name:=bf "__getitem__") T slot_dict_getitem (aa slot_dict_getitem T entry_dict_getitem ?_ (args_dict_getitem _ _)))));show aF _ _ (dictGet d key >>= _) _ _ s;refine aC (Qfh (A:=A.in1) (by show A.units + 1 + 5 < aP;omega) B I ?_);rw[J];exact wpAny_pure ⟨p.2,rfl,wpAny_pure h⟩
theorem Qda {v:aA} {Q:Unit->aD->Prop} (Y:A.units + 6 < aP) (B:KIs s.heap k key/\Dp 5 k) (O:DictV prog w s.heap d xs)
  (U:∀ h',DictV prog w h' d (Q1t xs k key v)->Heap.SameBut d s.heap h'->Q () { s with heap:=h',toks:=s.toks + hkD k }) (hsz:xs.length<=sizeLine):aF (aI prog w) A (setItem (.ref d) key v) Q E s:=by
 have T:=O.typeIs;unfold setItem
 try with_reducible refine af ?_
 refine aC (wpAny_sequenceKey T (by decide) (aC (wpAny_callSpecial?_slot (name:=bf "__setitem__") T slot_dict_setitem (aa slot_dict_setitem T entry_dict_setitem ?_ (args_dict_setitem _ _ _)))));show aF _ _ (Builtin.Dict.notOrdered "__setitem__" ⟨[.ref d,key,v],[]⟩ >>= _) _ _ s;refine aC (wpAny_notOrdered_dict T ?_);show aF _ _ (dictSet d key v >>= _) _ _ s;exact aC (Qnn (A:=A.in1) (by show A.units + 1 + 5 < aP;omega) B O (λh' J I=>wpAny_pure ⟨.none,rfl,wpAny_pure (U h' J I)⟩) hsz)
theorem Q6c {v:aA} (hd:(d == aZ)=zb):MeetsIn prog w (Builtin.«dict.setdefault» ⟨[.ref d,key,v],[]⟩) (λA R s=>A.units + 6 < aP/\∃ k xs,(KIs s.heap k key/\Dp 5 k)/\DictV prog w s.heap d xs/\xs.length<=sizeLine /\
  (∀ p,vAt xs k=zo p->R (.ok (.ret p.2)) { s with toks:=s.toks + hkD k })/\(vAt xs k=zl->∀ h',DictV prog w h' d (Q1t xs k key v)->Heap.SameBut d s.heap h'->R (.ok (.ret v)) { s with heap:=h',toks:=s.toks + hkD k })):=
 .of_wp λA R s ⟨hu,k,xs,I,hm,hsz,h1,h2⟩=>by
  have T:=hm.typeIs;show aF _ _ (Builtin.Dict.keyAndDefault "setdefault" ⟨[.ref d,key,v],[]⟩ >>= _) _ _ s;refine aC ?_;unfold Builtin.Dict.keyAndDefault;refine aC (wpAny_notOrdered_dict T ?_);show aF _ _ (pure (d,key,zo v):Sem (aB × aA × Option aA)) _ _ s;refine wpAny_pure ?_;show aF _ _ (if(d == aZ)=zi then _ else _) _ _ s;rw[bP (by rw[hd];exact F5)];refine aC ?_;show aF _ _ (dictSetDefault d key v) _ _ s;obtain⟨o,es,ep,U,hc,B,he,Y,hn⟩:=hm;have Z:A.in1.units + 5 < aP:=by show A.units + 1 + 5 < aP;omega
  unfold dictSetDefault
  try with_reducible refine af ?_
  refine aC (Q29 5 I.2 Z I.1 (aC (Q9p (s:={ s with toks:=s.toks + hkD k }) Z I U B he Y hn (λJ=>?_) λj p hj=>?_)))
  ·have e0:Q1t xs k key v=xs ++ [(k,key,v)]:=by unfold Q1t;rw[xc J];rfl
   refine aC (ak (aC (wpAny_updateDictKeys (hz:=by have e:=yz he;omega) (s:={ s with toks:=s.toks + hkD k }) U B (wpAny_pure (wpAny_pure ⟨v,rfl,h2 (xc J) _ ⟨_,_,ep + 1,M9 _ U (eN (da B _)),hc.mapDictKeys _,da B _,?_,?_,?_⟩ (Heap.SameBut.update ..)⟩)))))
   ·rw[e0];simp[he,vE]
   ·rw[e0];intro x O;rcases D4.mp O with O | O
    ·exact KIs.stays (Y x O) U B (Heap.SameBut.update ..)
    ·rw[bw.mp O];exact KIs.stays I U B (Heap.SameBut.update ..)
   ·rw[e0,E7,bx];refine⟨hn,by simp,λx O y hy e=>?_⟩;rw[bw.mp hy]at e;obtain⟨z,hz,ez⟩:=E8.mp O;obtain⟨j,hj⟩:=eM hz;exact J j z.2 (by rw[hj,show z=(z.1,z.2)from rfl,ez,e])
  ·refine aC (wpAny_dictEntries (s:={ s with toks:=s.toks + hkD k }) U B ?_);rw[Q2p he j,hj];exact aC (ak (wpAny_pure (wpAny_pure ⟨p.2,rfl,h1 p (Q1y hn hj)⟩)))
theorem Qjv(hd:(d == aZ)=zb)(dflt:aA):MeetsIn prog w (Builtin.«dict.get» ⟨[.ref d,key,dflt],[]⟩) (λA R s=>A.units + 6 < aP/\∃ k xs,(KIs s.heap k key/\Dp 5 k)/\DictV prog w s.heap d xs/\R (.ok (.ret (((vAt xs k).map (·.2)).getD dflt))) { s with toks:=s.toks + hkD k }):=
 .of_wp λA R s ⟨O,k,xs,B,J,h⟩=>by
  show aF _ _ (dictGet d key >>= _) _ _ s;refine aC (Qfh (A:=A.in1) (by show A.units + 1 + 5 < aP;omega) B J ?_);cases I:(vAt xs k).map (·.2)with
  | some v=>rw[I]at h;exact wpAny_pure ⟨v,rfl,h⟩
  | none=>
   rw[I]at h;show aF _ _ (Builtin.Dict.missed d key >>= _) _ _ _;exact aC (wpAny_missed_other hd (wpAny_pure ⟨dflt,rfl,h⟩))
end
theorem Q8p(prog:aM)(w:aJ)(i:Int)(t:Tok):(Yw prog w).is (.inl i) (.int i t)=zi:=Q17 i t
theorem Q8n(prog:aM)(w:aJ)(x:Str)(t:Tok):(Yw prog w).is (.inr x) (.str x t)=zi:=Q16 x t
end
inductive V where
 | non | bl (b:Bool) | int (i:Int) | str (x:Str) | byt (b:Array UInt8) | flt (b:UInt64) | ref (a:aB) | ty (n:String)
 deriving DecidableEq
variable{v:V}{vs:List V}
def RelV:V->aA->Prop
 | .non,u=>u=bW
 | .bl b,u=>u=cL b
 | .int i,u=>∃ t,u=cJ i t
 | .str x,u=>∃ t,u=cW x t
 | .byt b,u=>∃ t,u=Value.bytes b t
 | .flt b,u=>∃ t,u=fe b t
 | .ref a,u=>u=bX a
 | .ty n,u=>u=cY n
abbrev Vals:List V->List aA->Prop:=aq RelV
theorem Vals.length{xs:List V}(r:Vals xs us):xs.length=us.length:=Paired.length r
theorem Vals.get:∀ {xs:List V} {us:List aA} {i:Nat} {x:V},Vals xs us->xs[i]?=zo x->∃ u,us[i]?=zo u/\RelV x u
 | _,_,_,_,.nil,e=>by simp at e
 | _,_,0,_,.cons r _,e=>by simp at e;subst e;exact⟨_,rfl,r⟩
 | _,_,i + 1,x,.cons _ t,e=>by
  obtain⟨u,h1,h2⟩:=Vals.get (i:=i) (x:=x) t (by simpa using e);exact⟨u,by simpa using h1,h2⟩
theorem Vals.set{x:V}(r:RelV x u):∀ {xs:List V} {us:List aA} (i:Nat),Vals xs us->Vals (xs.set i x) (us.set i u)
 | _,_,_,.nil=>.nil
 | _,_,0,.cons _ t=>.cons r t
 | _,_,i + 1,.cons q t=>.cons q (Vals.set r i t)
theorem Vals.append:∀ {xs ys:List V} {us ws:List aA},Vals xs us->Vals ys ws->Vals (xs ++ ys) (us ++ ws)
 | _,_,_,_,.nil,s=>s
 | _,_,_,_,.cons r t,s=>.cons r (Vals.append t s)
theorem Vals.take:∀ {xs:List V} {us:List aA} (n:Nat),Vals xs us->Vals (xs.take n) (us.take n)
 | _,_,0,_=>.nil
 | _,_,_ + 1,.nil=>.nil
 | _,_,n + 1,.cons r t=>.cons r (Vals.take n t)
theorem Vals.drop:∀ {xs:List V} {us:List aA} (n:Nat),Vals xs us->Vals (xs.drop n) (us.drop n)
 | _,_,0,r=>r
 | _,_,_ + 1,.nil=>.nil
 | _,_,n + 1,.cons _ t=>Vals.drop n t
def RelO:Option V->Option aA->Prop
 | some v,zo u=>RelV v u
 | none,zl=>True
 | _,_=>False
def KV{κ:Type}:List (κ × V)->List (κ × aA)->Prop:=aq λ(p:κ × V) (q:κ × aA)=>p.1=q.1/\RelV p.2 q.2
def kV:Key->V
 | .inl i=>.int i
 | .inr x=>.str x
inductive HO where
 | lst (xs:List V)
 | tup (xs:List V)
 | dK (kvs:List (Key × V)) | dT (kvs:List (HK × V))
 | set (S:Int->Bool) (n:Nat)
 | ins (C dx:aB) (fs:List (Str × V))
 | own (x:aB)
 | xd (fs:List (Str × V))
 | met (f x:aB)
 | rng (lo hi:Int)
 | frz (o:Obj) (u:HO)
 | tbl (ps:Array aA)
 | ext (φ:Heap->Prop)
variable{o:HO}
abbrev Hp:=aB->Option HO
variable{H:Hp}
def upd(H:Hp)(a:aB)(o:HO):Hp:=λb=>if b=a then zo o else H b
theorem Qx:upd H a o a=zo o:=by unfold upd;rw[bO rfl]
theorem Qc(h:b≠a):upd H a o b=H b:=by unfold upd;rw[bP h]
theorem Qhi{u:HO}(h:H a=zo o)(h':H b=zo u)(d:o≠u):a≠b:=by
 intro e;subst e;rw[h]at h';exact d (bY h')
theorem Qg(h:H a=zo o)(h':H b=zl):a≠b:=by
 intro e;subst e;rw[h]at h';cases h'
mutual
def KAt(H:Hp):HK->V->Prop
 | .int i,v=>v=.int i
 | .str x,v=>v=.str x
 | .tup l,v=>∃ a vs,v=.ref a/\H a=zo (.tup vs)/\KAtL H l vs
def KAtL(H:Hp):List HK->List V->Prop
 | [],vs=>vs=[]
 | k :: l,vs=>∃ v r,vs=v :: r/\KAt H k v/\KAtL H l r
end
mutual
theorem KAt.keep{H H':Hp}(B:∀ b xs,H b=zo (.tup xs)->H' b=zo (.tup xs)):∀ {k:HK} {v:V},KAt H k v->KAt H' k v
 | .int _,_,r=>r
 | .str _,_,r=>r
 | .tup _,_,⟨a,vs,e,h,r⟩=>⟨a,vs,e,B a vs h,KAtL.keep B r⟩
theorem KAtL.keep{H H':Hp}(B:∀ b xs,H b=zo (.tup xs)->H' b=zo (.tup xs)):∀ {l:List HK} {vs:List V},KAtL H l vs->KAtL H' l vs
 | [],_,r=>r
 | _ :: _,_,⟨v,r,e,h,t⟩=>⟨v,r,e,KAt.keep B h,KAtL.keep B t⟩
end
def KR(H:Hp)(k:HK)(b:V):Prop:=KAt H k b/\Dp 5 k
theorem KR.keep{H':Hp}{k:HK}{b:V}(r:KR H k b)(B:∀ b xs,H b=zo (.tup xs)->H' b=zo (.tup xs)):KR H' k b:=⟨r.1.keep B,r.2⟩
section
variable(P:aM)(w:aJ)
def ObjOk(H:Hp)(h:Heap)(a:aB):HO->Prop
 | .lst xs=>xs.length<=sizeLine/\∃ (its:List aA) (n:Nat),Vals xs its/\h.get? a=zo { cls:=.type "list",data:=.seq its.toArray n }
 | .tup xs=>xs.length<=sizeLine/\∃ its:List aA,Vals xs its/\IsTup h a its.toArray
 | .dK kvs=>kvs.length<=sizeLine/\(a == aZ)=zb/\∃ vs,KV kvs vs/\h.DictOf (Yw P w) a vs
 | .dT kvs=>kvs.length<=sizeLine/\(a == aZ)=zb/\∃ xs:List (HK × aA × aA),
   aq (λ(p:HK × V) (q:HK × aA × aA)=>p.1=q.1/\(∃ u,KR H p.1 u/\RelV u q.2.1)/\RelV p.2 q.2.2) kvs xs /\
   ∃ o es ep,h.get? a=zo o/\o.ExactDict/\o.data=.dict es ep/\es.toList=xs.map (vE P w)/\(xs.map (·.1)).Nodup
 | .set S n=>h.SetOf (intKind P w) a S n
 | .ins C dx fs=>H dx=zo (.own a)/\fs.length<=1000/\dx≠a/\h.get? a=zo (eO C dx) /\
   ∃ mA,h.Ns1 dx mA/\(∀ f,RelO (fs.lookup f) (mA f))/\fg mA (fs.map (·.1))
 | .own _=>∃ o,h.get? a=zo o
 | .xd fs=>∃ mA,h.Ns1 a mA/\∀ f,RelO (fs.lookup f) (mA f)
 | .rng lo hi=>∃ t u v,h.get? a=zo { cls:=.type "range",data:=.fields #[.int lo t,.int hi u,.int 1 v] }
 | .frz o u=>h.get? a=zo o/\ObjOk H h a u
 | .tbl ps=>h.get? a=zo { cls:=.none,data:=.fields ps }
 | .met f x=>h.get? a=zo (eP (.ref f) (.ref x))
 | .ext φ=>φ h/\(∃ o,h.get? a=zo o)/\∀ h1 h2:Heap,φ h1->(∀ o,h1.get? a=zo o->h2.get? a=zo o)->φ h2
def HOk(H:Hp)(h:Heap):Prop:=∀ a o,H a=zo o->ObjOk P w H h a o
end
variable{P:aM}{H H':Hp}{h h':Heap}{a:aB}{o:HO}
section
variable{w:aJ}
theorem ObjOk.lt(x:ObjOk P w H h a o):a < h.objs.size:=by
 cases o with
 | lst xs=>obtain⟨_,_,_,_,e⟩:=x;exact E3 e
 | tup xs=>obtain⟨_,_,_,p⟩:=x;exact p.lt
 | dK B=>obtain⟨_,_,_,_,o,_,_,e,_⟩:=x;exact E3 e
 | dT B=>obtain⟨_,_,_,_,o,_,_,e,_⟩:=x;exact E3 e
 | set S n=>obtain⟨o,_,_,_,e,_⟩:=x;exact E3 e
 | ins C dx fs=>obtain⟨_,_,_,e,_⟩:=x;exact E3 e
 | own y=>obtain⟨_,e⟩:=x;exact E3 e
 | xd fs=>obtain⟨_,⟨_,_,_,e,_⟩,_⟩:=x;exact E3 e
 | rng lo hi=>obtain⟨_,_,_,e⟩:=x;exact E3 e
 | frz ob u=>obtain⟨e,_⟩:=x;exact E3 e
 | tbl ps=>exact E3 (show h.get? a=zo _ from x)
 | met f y=>exact E3 (show h.get? a=zo _ from x)
 | ext I=>obtain⟨_,⟨_,e⟩,_⟩:=x;exact E3 e
theorem Paired.mapP{β:Type}{F G:α->β->Prop}:∀ {I:List α} {B:List β},aq F I B->(∀ a b,F a b->G a b)->aq G I B
 | _,_,.nil,_=>.nil
 | _,_,.cons r t,f=>.cons (f _ _ r) (Paired.mapP t f)
theorem ObjOk.stay (x:ObjOk P w H h a o) (k:∀ b u,(b=a\/H b=zo (.own a))->h.get? b=zo u->h'.get? b=zo u)
  (J:∀ b,H b=zo (.own a)->H' b=zo (.own a)) (O:∀ b xs,H b=zo (.tup xs)->H' b=zo (.tup xs)):ObjOk P w H' h' a o:=by
 induction o with
 | lst xs=>obtain⟨z,its,n,r,e⟩:=x;exact⟨z,its,n,r,k _ _ (.inl rfl) e⟩
 | tup xs=>obtain⟨z,its,r,ob,e,c⟩:=x;exact⟨z,its,r,ob,k _ _ (.inl rfl) e,c⟩
 | dK B=>obtain⟨z,y,vs,r,ob,es,ep,e,c⟩:=x;exact⟨z,y,vs,r,ob,es,ep,k _ _ (.inl rfl) e,c⟩
 | dT B=>
  obtain⟨z,y,xs,r,ob,es,ep,e,c⟩:=x;exact⟨z,y,xs,Paired.mapP r λp q z=>⟨z.1,(let ⟨u,a,b⟩:=z.2.1;⟨u,a.keep O,b⟩),z.2.2⟩,ob,es,ep,k _ _ (.inl rfl) e,c⟩
 | set S n=>obtain⟨ob,es,ep,t,e,c⟩:=x;exact⟨ob,es,ep,t,k _ _ (.inl rfl) e,c⟩
 | ins C dx fs=>
  obtain⟨d,z,ne,e,mA,⟨I,es,ep,e2,c⟩,r⟩:=x;exact⟨J _ d,z,ne,k _ _ (.inl rfl) e,mA,⟨I,es,ep,k _ _ (.inr d) e2,c⟩,r⟩
 | own y=>obtain⟨ob,e⟩:=x;exact⟨ob,k _ _ (.inl rfl) e⟩
 | xd fs=>obtain⟨mA,⟨I,es,ep,e,c⟩,r⟩:=x;exact⟨mA,⟨I,es,ep,k _ _ (.inl rfl) e,c⟩,r⟩
 | rng lo hi=>obtain⟨t,u,v,e⟩:=x;exact⟨t,u,v,k _ _ (.inl rfl) e⟩
 | frz ob u U=>obtain⟨e,q⟩:=x;exact⟨k _ _ (.inl rfl) e,U q⟩
 | tbl ps=>
  have e:h.get? a=zo { cls:=.none,data:=.fields ps }:=x;show h'.get? a=zo { cls:=.none,data:=.fields ps };exact k a _ (.inl rfl) e
 | met f y=>
  have e:h.get? a=zo (eP (.ref f) (.ref y)):=x;show h'.get? a=zo (eP (.ref f) (.ref y));exact k a _ (.inl rfl) e
 | ext Y=>obtain⟨p,⟨o,e⟩,st⟩:=x;exact⟨st _ _ p λo q=>k _ _ (.inl rfl) q,⟨o,k _ _ (.inl rfl) e⟩,st⟩
theorem HOk.lt(x:HOk P w H h)(e:H a=zo o):a < h.objs.size:=(x a o e).lt
theorem HOk.fresh(x:HOk P w H h)(e:h.objs.size<=a):H a=zl:=by
 cases q:H a with
 | none=>rfl
 | some u=>exact absurd (E4 (x.lt q) e) (bg _)
theorem HOk.kept(x:HOk P w H h)(k:∀ b u,h.get? b=zo u->h'.get? b=zo u):HOk P w H h':=λa o e=>
 (x a o e).stay (λb u _ q=>k b u q) (λ_ q=>q) λ_ _ q=>q
theorem HOk.laid(x:HOk P w H h)(k:∀ b u,h.get? b=zo u->h'.get? b=zo u)(I:h.objs.size<=a)(new:ObjOk P w (upd H a o) h' a o):HOk P w (upd H a o) h':=λb u e=>by
 have hn:=x.fresh I
 by_cases B:b=a
 ·subst B;rw[Qx]at e;cases e;exact new
 ·rw[Qc B]at e;exact(x b u e).stay (λc v _ q=>k c v q) (λc q=>by rw[Qc (Qg q hn)];exact q) λc xs q=>by rw[Qc (Qg q hn)];exact q
end
def Rd(H:Hp)(a:aB)(u:HO):Prop:=H a=zo u\/∃ o,H a=zo (.frz o u)
theorem Rd.ok{w:aJ}{u:HO}(r:Rd H a u)(x:HOk P w H h):ObjOk P w H h a u:=by
 rcases r with r | ⟨o,r⟩
 ·exact x a u r
 ·obtain⟨_,q⟩:=x a _ r;exact q
def Mut:Option HO->Prop
 | some (.lst _)=>True
 | some (.dK _)=>True
 | some (.dT _)=>True
 | some (.set _ _)=>True
 | some (.ins _ _ _)=>True
 | some (.ext _)=>True
 | _=>False
variable{x e:aB}{o':HO}
section
variable{w:aJ}
theorem HOk.write (ok:HOk P w H h) (U:Mut (H x)) (he:e=x\/H e=zo (.own x)) (k:∀ b u,b≠e->h.get? b=zo u->h'.get? b=zo u) (Z:∃ u,h'.get? e=zo u)
  (new:ObjOk P w (upd H x o') h' x o'):HOk P w (upd H x o') h':=λb u q=>by
 have I:∀ c y,H c=zo (.own y)->c≠x:=λc y r z=>by subst z;rw[r]at U;exact U
 have J:∀ c xs,H c=zo (.tup xs)->c≠x:=λc xs r z=>by subst z;rw[r]at U;exact U
 by_cases O:b=x
 ·subst O;rw[Qx]at q;cases q;exact new
 ·rw[Qc O]at q
  by_cases B:b=e
  ·have q':H b=zo (.own x):=by
    rcases he with z | z
    ·exact absurd (B.trans z) O
    ·rw[B];exact z
   rw[q]at q';cases q';obtain⟨v,hv⟩:=Z;exact⟨v,by rw[B];exact hv⟩
  ·refine(ok b u q).stay (λc v Y r=>k c v ?_ r) (λc r=>by rw[Qc (I c b r)];exact r) λc xs r=>by rw[Qc (J c xs r)];exact r
   rcases Y with rfl | Y
   ·exact B
   ·rintro rfl;rcases he with z | z
    ·exact I c b Y z
    ·rw[Y]at z;cases z;exact O rfl
end
structure Un(fs ex:List aB)(H H':Hp)(h h':Heap):Prop where
 keep:∀ b o,h.get? b=zo o->H b=zl->b∉fs->b∉ex->h'.get? b=zo o
 slot:∀ b o,h.get? b=zo o->H b=zl->b∈fs->b∉ex->∃ sl,h'.get? b=zo { o with slots:=sl }
 free:∀ b o,h.get? b=zo o->H b=zl->b∉ex->H' b=zl
 there:∀ b o,h.get? b=zo o->b∉ex->∃ o',h'.get? b=zo o'
 tups:∀ b xs,H b=zo (.tup xs)->H' b=zo (.tup xs)
 frzs:∀ b o u,H b=zo (.frz o u)->H' b=zo (.frz o u)
 tbls:∀ b ps,H b=zo (.tbl ps)->∃ more,H' b=zo (.tbl (ps ++ more))
variable{fs' ex ex':List aB}{H1 H2:Hp}{h1 h2:Heap}
section
variable{fs:List aB}
theorem Un.any(u:Un fs ex H H1 h h1){ob:Obj}(q:h.get? b=zo ob)(n:H b=zl)(I:b∉ex):∃ J,h1.get? b=zo { ob with slots:=J }:=by
 by_cases B:b∈fs
 ·exact u.slot b ob q n B I
 ·exact⟨ob.slots,u.keep b ob q n B I⟩
theorem Un.kept(k:∀ b u,h.get? b=zo u->h'.get? b=zo u):Un fs ex H H h h':=
 ⟨λb ob q _ _ _=>k b ob q,λb ob q _ _ _=>⟨ob.slots,k b ob q⟩,λ_ _ _ n _=>n,λb ob q _=>⟨ob,k b ob q⟩,λ_ _ q=>q,λ_ _ _ q=>q,λ_ ps q=>⟨#[],by rw[q];simp⟩⟩
theorem Un.refl:Un fs ex H H h h:=Un.kept λ_ _ q=>q
theorem Un.laid(k:∀ b u,h.get? b=zo u->h'.get? b=zo u)(B:h.objs.size<=a)(hn:H a=zl):Un fs ex H (upd H a o) h h' where
 keep:=λb u q _ _ _=>k b u q
 slot:=λb u q _ _ _=>⟨u.slots,k b u q⟩
 free:=λb u q n _=>by rw[Qc (F7 (E4 (E3 q) B))];exact n
 there:=λb u q _=>⟨u,k b u q⟩
 tups:=λb xs q=>by rw[Qc (Qg q hn)];exact q
 frzs:=λb u xs q=>by rw[Qc (Qg q hn)];exact q
 tbls:=λb ps q=>⟨#[],by rw[Qc (Qg q hn),q];simp⟩
theorem Un.write(I:Mut (H x))(Z:e=x\/H e=zo (.own x))(k:∀ b u,b≠e->h.get? b=zo u->h'.get? b=zo u)(J:∃ u,h'.get? e=zo u):Un fs ex H (upd H x o) h h':=by
 have U:∀ b,H b=zl->b≠x:=λb n z=>by subst z;rw[n]at I;exact I
 have Y:∀ b,H b=zl->b≠e:=λb n z=>by
  subst z;rcases Z with r | r
  ·exact U b n r
  ·rw[n]at r;cases r
 have O:∀ b u,H b=zo u->¬ Mut (zo u)->b≠x:=λb u q nm z=>by subst z;rw[q]at I;exact nm I
 refine⟨λb u q n _ _=>k b u (Y b n) q,λb u q n _ _=>⟨u.slots,k b u (Y b n) q⟩,λb u q n _=>by rw[Qc (U b n)];exact n,λb u q _=>?_,
  λb xs q=>by rw[Qc (O b _ q λz=>z)];exact q,λb u xs q=>by rw[Qc (O b _ q λz=>z)];exact q,λb ps q=>⟨#[],by rw[Qc (O b _ q λz=>z),q];simp⟩⟩
 by_cases B:b=e
 ·subst B;exact J
 ·exact⟨u,k b u B q⟩
end
def trk(h:Heap)(H:Hp):List aB:=(bT h.objs.size).filter λa=>(H a).isSome
def Q76(h:Heap)(H:Hp):Heap:=db h (trk h H)
theorem Qes(h:Heap)(H:Hp):(Q76 h H).objs.size=h.objs.size:=PySem.W.hideAll_size _ _
theorem Qi7{o:Obj}(e:h.get? b=zo o)(n:H b=zl):(Q76 h H).get? b=zo o:=
 df _ e λB=>by
  have q:(H b).isSome=zi:=(cM.mp B).2;rw[n]at q;simp at q
theorem Qmg{o:Obj}(e:(Q76 h H).get? b=zo o):h.get? b=zo o/\H b=zl:=by
 have B:h.get? b=zo o:=fh (trk h H) e;refine⟨B,?_⟩;cases q:H b with
 | none=>rfl
 | some x=>
  have I:b∈trk h H:=cM.mpr ⟨bq.mpr (E3 B),by simp[q]⟩;have z:(Q76 h H).get? b=zl:=fi (trk h H) I;rw[z]at e;cases e
def Qng(g h:Heap)(L:aB):zAA:=(bT h.objs.size).filterMap λa=>if a=L\/(g.get? a).isSome=zi then zl else(h.get? a).map λo=>(a,o)
def rest(g h:Heap)(L d:aB):zAA:=(Qng g h L).filter λp=>decide (p.1≠d)
structure Mod(K:bS)(mg:zAD)(base:Heap):Prop where
 kin:K.In base
 glob:base.Ns aS mg
 blt:∃ mb,base.Ns builtinsNs mb/\∀ x:Str,x≠"__name__" -> mb x=aW x
 nolimit:base.NoLimit
structure Cx where
 prog:aM
 w:aJ
 K:bS
 mg:Str->Option aA
 base:Heap
 A:aQ
 N:List Str
 s₀:aD
 H₀:Hp
 env:Env
 outer:List Env
 stack:List Env
 ex:List aB
 fn:Str->Bool
 calm:Bool
 pn:zAA
 xe:aA->aD->Prop
def frs(l:List Env):List aB:=l.filterMap (·.frame)
abbrev Cx.fs(X:Cx):List aB:=frs X.outer
def Vis(sc:Scope)(x:Str):Prop:=sc.names.lookup x=zo .local\/sc.names.lookup x=zo .cell\/sc.names.lookup x=zo .free
def Loc(sc:Scope)(x:Str):Prop:=sc.names.lookup x=zo .local\/sc.names.lookup x=zo .cell
def Qz7(env:Env)(h:Heap)(m:zAD)(x:Str)(u:aA):Prop:=
 (env.kindOf x=zo .local/\m x=zo u)\/((env.kindOf x=zo .cell\/env.kindOf x=zo .free)/\∃ c,env.cells.lookup x=zo c/\h.IsCell c (zo u))
structure Cx.Ok(X:Cx):Prop where
 mod:Mod X.K X.mg X.base
 kind:X.env.scope.kind=.function
 glob:X.env.globals=aS
 blt:X.env.builtins=builtinsNs
 above:X.s₀.heap.objs.size<=X.env.locals
 inj:∀ x y c,X.env.cells.lookup x=zo c->X.env.cells.lookup y=zo c->x=y
 has:∀ x,(X.env.kindOf x=zo .cell\/X.env.kindOf x=zo .free)->∃ c,X.env.cells.lookup x=zo c
 cab:∀ x c,X.fn x=zi->X.env.cells.lookup x=zo c->X.s₀.heap.objs.size<=c
 hd:X.calm=zi->X.A.handled=zl
 frames:X.A.frames=zo X.stack
 stk:X.stack=X.outer\/(X.stack=X.env :: X.outer/\X.env.frame=zo X.env.locals)
 exf:∀ b∈X.ex,b≠X.env.locals/\∀ x c,X.env.cells.lookup x=zo c->c≠b
 bs:∀ b o,X.base.get? b=zo o->X.s₀.heap.get? b=zo o/\X.H₀ b=zl
 bsz:X.base.objs.size<=X.s₀.heap.objs.size
 noex:∀ b o,X.base.get? b=zo o->b∉X.ex
 exfs:∀ b∈X.ex,b∉X.fs
 funs:X.s₀.heap.FunFrames X.base X.outer
 frf:∀ b∈X.fs,X.H₀ b=zl
structure Inv(X:Cx)(pins:zAA)(σ:List (Option V))(H:Hp)(s:aD):Prop where
 ok:X.Ok
 os:s.os=X.s₀.os
 bare:AllBare s.gens
 base:Un X.fs X.ex X.H₀ H X.s₀.heap s.heap
 loc:∃ m,s.heap.Ns X.env.locals m/\∀ (i:Nat) (x:Str) (v:V),X.N[i]?=zo x->σ[i]?=zo (zo v)->Vis X.env.scope x->∃ u,RelV v u/\Qz7 X.env s.heap m x u
 cell:∀ x c,X.env.cells.lookup x=zo c->∃ v,s.heap.IsCell c v
 free:H X.env.locals=zl
 freeC:∀ x c,X.env.cells.lookup x=zo c->H c=zl
 pin:∀ p∈X.pn ++ pins,s.heap.get? p.1=zo p.2/\H p.1=zl/\p.1≠X.env.locals/\p.1∉X.fs/\∀ v,p.2.data≠.cell v
 hok:HOk X.prog X.w H s.heap
 len:σ.length=X.N.length
variable{X:Cx}{pins:zAA}{σ:List (Option V)}{s:aD}
theorem Cx.Ok.nofr(ok:X.Ok){o:Obj}(e:X.base.get? b=zo o):b∉X.fs:=λB=>by
 have:=(ok.funs.mem B).1;rw[e]at this;cases this
theorem Inv.bs(I:Inv X pins σ H s):∀ b o,X.base.get? b=zo o->s.heap.get? b=zo o/\H b=zl:=λb o e=>
 ⟨I.base.keep b o (I.ok.bs b o e).1 (I.ok.bs b o e).2 (I.ok.nofr e) (I.ok.noex b o e),I.base.free b o (I.ok.bs b o e).1 (I.ok.bs b o e).2 (I.ok.noex b o e)⟩
theorem Inv.bk(I:Inv X pins σ H s):∀ b o,X.base.get? b=zo o->s.heap.get? b=zo o:=λb o e=>(I.bs b o e).1
theorem Inv.mod(I:Inv X pins σ H s):Mod X.K X.mg X.base:=I.ok.mod
theorem Inv.kIn(I:Inv X pins σ H s):X.K.In s.heap:=I.ok.mod.kin.keeps I.bk
theorem Inv.lt(I:Inv X pins σ H s):X.env.locals < s.heap.objs.size:=let ⟨_,hn,_⟩:=I.loc;hn.lt
theorem Inv.sz(I:Inv X pins σ H s):X.s₀.heap.objs.size<=s.heap.objs.size:=F8 I.ok.above (cZ I.lt)
theorem Inv.nofs(I:Inv X pins σ H s)(h:s.heap.objs.size<=a):a∉X.fs:=λB=>by
 obtain⟨_,o,J,_⟩:=I.ok.funs.mem B;exact absurd (E4 (E3 J) (F8 I.sz h)) (bg _)
theorem Inv.cne(I:Inv X pins σ H s):∀ x c,X.env.cells.lookup x=zo c->c≠X.env.locals:=λx c e z=>by
 obtain⟨v,o,O,hd⟩:=I.cell x c e;obtain⟨m,⟨o',es,ep,B,J,_⟩,_⟩:=I.loc;rw[z,B]at O;cases O;rw[J]at hd;cases hd
theorem Inv.funs(I:Inv X pins σ H s):s.heap.FunFrames X.base X.outer:=by
 have all:∀ (l:List Env),(∀ b∈frs l,b∈X.fs)->X.s₀.heap.FunFrames X.base l->s.heap.FunFrames X.base l:=by
  intro l
  induction l with
  | nil=>intro _ _;trivial
  | cons env r Z=>
   intro hs hl;obtain⟨U,⟨L,o,O,hn,Y,hd⟩,hr⟩:=hl;have B:L∈X.fs:=hs L (by unfold frs;rw[cz,O];exact D3);obtain⟨sl,e⟩:=I.base.slot L o Y (I.ok.frf L B) B λz=>I.ok.exfs L z B
   exact⟨U,⟨L,_,O,hn,e,hd⟩,Z (λb J=>hs b (by unfold frs;rw[cz,O];exact O6 _ J)) hr⟩
 exact all X.outer (λ_ J=>J) I.ok.funs
theorem Inv.stack(I:Inv X pins σ H s):s.heap.FunFrames X.base X.stack:=by
 rcases I.ok.stk with e | ⟨e,B⟩
 ·rw[e];exact I.funs
 ·rw[e];obtain⟨m,hn,_⟩:=I.loc;refine .cons (by rw[I.ok.kind];decide) B hn ?_ I.funs;exact Heap.get?_none_of_le (F8 I.ok.bsz I.ok.above)
theorem Inv.stkSub(I:Inv X pins σ H s):∀ b∈frs X.stack,b∈X.env.locals :: X.fs:=λb B=>by
 rcases I.ok.stk with e | ⟨e,J⟩
 ·rw[e]at B;exact O6 _ B
 ·rw[e]at B;unfold frs at B;rw[cz,J]at B;exact B
theorem Inv.stkFree(I:Inv X pins σ H s):∀ b∈frs X.stack,H b=zl:=λb B=>by
 rcases E2.mp (I.stkSub b B)with e | B
 ·rw[e];exact I.free
 ·obtain⟨_,o,J,_⟩:=I.ok.funs.mem B;exact I.base.free b o J (I.ok.frf b B) λz=>I.ok.exfs b z B
theorem Inv.step {g':Array GenState} {t':Nat} {d':Drawn} {ch:List aB} (I:Inv X pins σ H s)
  (O:∀ b∈ch,(b∈X.ex\/X.s₀.heap.objs.size<=b)/\b≠X.env.locals/\(∀ x c,X.env.cells.lookup x=zo c->c≠b)/\∀ p∈X.pn ++ pins,p.1≠b)
  (keep:∀ b o,b≠X.env.locals->b∉X.fs->b∉ch->s.heap.get? b=zo o->H b=zl->h'.get? b=zo o)
  (slot:∀ b o,b≠X.env.locals->b∈X.fs->b∉ch->s.heap.get? b=zo o->H b=zl->∃ sl,h'.get? b=zo { o with slots:=sl }) (free:∀ b o,b∉ch->s.heap.get? b=zo o->H b=zl->H' b=zl)
  (there:∀ b o,b∉ch->s.heap.get? b=zo o->∃ o',h'.get? b=zo o')
  (tups:∀ b xs,H b=zo (.tup xs)->H' b=zo (.tup xs)) (frzs:∀ b o u,H b=zo (.frz o u)->H' b=zo (.frz o u)) (tbls:∀ b ps,H b=zo (.tbl ps)->∃ a1,H' b=zo (.tbl (ps ++ a1)))
  (ns:∀ m,s.heap.Ns X.env.locals m->h'.Ns X.env.locals m) (hok:HOk X.prog X.w H' h') (hg:AllBare g') :
  Inv X pins σ H' { s with heap:=h',gens:=g',drawn:=d',toks:=t' }:=by
 have a2:∀ b o,X.s₀.heap.get? b=zo o->b≠X.env.locals:=λb o e=>F7 (E4 (E3 e) I.ok.above)
 have Y:∀ b o,X.s₀.heap.get? b=zo o->b∉X.ex->b∉ch:=λb o e B Z=>by
  rcases(O b Z).1 with z | z
  ·exact B z
  ·exact absurd (E4 (E3 e) z) (bg _)
 have J:∀ x c,X.env.cells.lookup x=zo c->∀ v,s.heap.IsCell c v->h'.IsCell c v:=λx c e v ⟨o,ho,hd⟩=>by
  have U:c∉ch:=λz=>(O c z).2.2.1 x c e rfl
  by_cases hc:c∈X.fs
  ·obtain⟨sl,q⟩:=slot c o (I.cne x c e) hc U ho (I.freeC x c e);exact⟨_,q,hd⟩
  ·exact⟨o,keep c o (I.cne x c e) hc U ho (I.freeC x c e),hd⟩
 refine⟨I.ok,I.os,hg,⟨λb o e n Z B=>?_,λb o e n Z B=>?_,λb o e n B=>?_,λb o e B=>?_,λb xs e=>tups b xs (I.base.tups b xs e),λb o xs e=>frzs b o xs (I.base.frzs b o xs e),λb ps e=>?_⟩,?_,λx c e=>?_,?_,λx c e=>?_,λp hp=>?_,hok,I.len⟩
 ·exact keep b o (a2 b o e) Z (Y b o e B) (I.base.keep b o e n Z B) (I.base.free b o e n B)
 ·obtain⟨sl,e1⟩:=I.base.slot b o e n Z B;obtain⟨a3,e2⟩:=slot b _ (a2 b o e) Z (Y b o e B) e1 (I.base.free b o e n B);exact⟨a3,e2⟩
 ·obtain⟨o',e1⟩:=I.base.there b o e B;exact free b o' (Y b o e B) e1 (I.base.free b o e n B)
 ·obtain⟨o',e1⟩:=I.base.there b o e B;exact there b o' (Y b o e B) e1
 ·obtain⟨m1,e1⟩:=I.base.tbls b ps e;obtain⟨m2,e2⟩:=tbls b _ e1;exact⟨m1 ++ m2,by rw[e2,fj]⟩
 ·obtain⟨m,hn,hl⟩:=I.loc;refine⟨m,ns m hn,λi x v e1 e2 e3=>?_⟩;obtain⟨u,r,l⟩:=hl i x v e1 e2 e3;refine⟨u,r,?_⟩;rcases l with l | ⟨k,c,e,z⟩
  ·exact .inl l
  ·exact .inr ⟨k,c,e,J x c e _ z⟩
 ·obtain⟨v,z⟩:=I.cell x c e;exact⟨v,J x c e v z⟩
 ·obtain⟨m,⟨o,_,_,ho,_⟩,_⟩:=I.loc;exact free _ o (λz=>(O _ z).2.1 rfl) ho I.free
 ·obtain⟨v,o,ho,hd⟩:=I.cell x c e;exact free c o (λz=>(O c z).2.2.1 x c e rfl) ho (I.freeC x c e)
 ·obtain⟨e,n,ne,nf,d⟩:=I.pin p hp;have U:p.1∉ch:=λz=>(O p.1 z).2.2.2 p hp rfl
  exact⟨keep p.1 p.2 ne nf U e n,free p.1 p.2 U e n,ne,nf,d⟩
theorem Inv.un(I:Inv X pins σ H s)(u:Un X.fs [] H H' s.heap h')(hok:HOk X.prog X.w H' h'):Inv X pins σ H' { s with heap:=h',toks:=t' }:=by
 obtain⟨m,⟨o,es,ep,Y,r⟩,_⟩:=id I.loc;obtain⟨sl,Z⟩:=u.any Y I.free (by simp);exact I.step (g':=s.gens) (d':=s.drawn) (ch:=[]) (λ_ z=>nomatch z) (λb o _ O _ e n=>u.keep b o e n O (by simp)) (λb o _ O _ e n=>u.slot b o e n O (by simp)) (λb o _ e n=>u.free b o e n (by simp)) (λb o _ e=>u.there b o e (by simp)) u.tups u.frzs u.tbls (λm' hm=>by
  obtain⟨o',J,U,B,r'⟩:=hm;rw[Y]at B;cases B;exact⟨_,J,U,Z,r'⟩) hok I.bare
theorem Inv.call {t':Nat} {d':Drawn} (I:Inv X pins σ H s) (u:Un (frs X.stack) ch H H' s.heap h') (hok:HOk X.prog X.w H' h') (hg:AllBare g')
  (O:∀ b∈ch,(b∈X.ex\/X.s₀.heap.objs.size<=b)/\b≠X.env.locals/\(∀ x c,X.env.cells.lookup x=zo c->c≠b)/\∀ p∈X.pn ++ pins,p.1≠b) :
  Inv X pins σ H' { s with heap:=h',gens:=g',drawn:=d',toks:=t' }:=by
 obtain⟨m,⟨o,es,ep,ho,r⟩,_⟩:=id I.loc;obtain⟨sl,U⟩:=u.any ho I.free λz=>(O _ z).2.1 rfl
 exact I.step (ch:=ch) O (λb o U hb B e n=>u.keep b o e n (λz=>(E2.mp (I.stkSub b z)).elim U hb) B) (λb o _ _ B e n=>u.any e n B) (λb o B e n=>u.free b o e n B) (λb o B e=>u.there b o e B) u.tups u.frzs u.tbls (λm' hm=>by
  obtain⟨o',Y,Z,J,r'⟩:=hm;rw[ho]at J;cases J;exact⟨_,Y,Z,U,r'⟩) hok hg
theorem Inv.turned {t':Nat} (I:Inv X pins σ H s) (k:∀ b o,b≠it->s.heap.get? b=zo o->h'.get? b=zo o) (hn:H it=zl) (O:it≠X.env.locals)
  (h1:it∈X.ex\/X.s₀.heap.objs.size<=it) (h2:∀ x c,X.env.cells.lookup x=zo c->c≠it) (Y:∀ p∈X.pn ++ pins,p.1≠it):Inv X pins σ H { s with heap:=h',toks:=t' }:=by
 have J:∀ b u,H b=zo u->b≠it:=λb u e z=>by rw[z,hn]at e;cases e
 refine I.step (g':=s.gens) (d':=s.drawn) (ch:=[it]) (λb Z=>?_) (λb o _ _ B e _=>k b o (λz=>B (by simp[z])) e) (λb o _ _ B e _=>⟨o.slots,k b o (λz=>B (by simp[z])) e⟩) (λ_ _ _ _ n=>n)
  (λb o B e=>⟨o,k b o (λz=>B (by simp[z])) e⟩) (λ_ _ e=>e) (λ_ _ _ e=>e) (λb ps e=>⟨#[],by rw[e];simp⟩) (λm hm=>?_) (λb u e=>?_) I.bare
 ·have e:b=it:=by simpa using Z
  subst e;exact⟨h1,O,h2,Y⟩
 ·obtain⟨o,es,ep,U,r⟩:=hm;exact⟨o,es,ep,k _ o (Ne.symm O) U,r⟩
 ·refine(I.hok b u e).stay (λc v B q=>k c v ?_ q) (λ_ q=>q) λ_ _ q=>q
  rcases B with z | z
  ·rw[z];exact J b u e
  ·exact J c _ z
theorem Inv.tok(I:Inv X pins σ H s)(t:Nat):Inv X pins σ H { s with toks:=t }:=I.un (h':=s.heap) (t':=t) Un.refl I.hok
theorem Inv.kept(I:Inv X pins σ H s)(k:∀ b u,s.heap.get? b=zo u->h'.get? b=zo u):Inv X pins σ H { s with heap:=h',toks:=t' }:=I.un (Un.kept k) (I.hok.kept k)
theorem Inv.laid {t':Nat} (I:Inv X pins σ H s) (k:∀ b u,s.heap.get? b=zo u->h'.get? b=zo u) (B:s.heap.objs.size<=a) (new:ObjOk X.prog X.w (upd H a o) h' a o) :
  Inv X pins σ (upd H a o) { s with heap:=h',toks:=t' }:=I.un (Un.laid k B (I.hok.fresh B)) (I.hok.laid k B new)
theorem Inv.write {o:HO} {t':Nat} (I:Inv X pins σ H s) (J:Mut (H x)) (O:e=x\/H e=zo (.own x)) (k:∀ b u,b≠e->s.heap.get? b=zo u->h'.get? b=zo u) (B:∃ u,h'.get? e=zo u)
  (new:ObjOk X.prog X.w (upd H x o) h' x o):Inv X pins σ (upd H x o) { s with heap:=h',toks:=t' }:=I.un (Un.write J O k B) (I.hok.write J O k B new)
theorem Inv.pins_of{B:zAA}(I:Inv X pins σ H s)(h:∀ p∈B,s.heap.get? p.1=zo p.2/\H p.1=zl/\p.1≠X.env.locals/\p.1∉X.fs/\∀ v,p.2.data≠.cell v):Inv X B σ H s:=
 ⟨I.ok,I.os,I.bare,I.base,I.loc,I.cell,I.free,I.freeC,λp J=>(D4.mp J).elim (λz=>I.pin p (M5 _ z)) (h p),I.hok,I.len⟩
theorem Q8k{N:List Str}(B:N.Nodup){i j:Nat}{x:Str}(a:N[i]?=zo x)(b:N[j]?=zo x):i=j:=by
 obtain⟨h1,e1⟩:=O1.mp a;obtain⟨h2,e2⟩:=O1.mp b;exact(fV B).mp (e1.trans e2.symm)
theorem Q51 {M:Model} {A:aQ} {E:zAC} {i:Nat} {x:Str} {Q:Unit->aD->Prop} (I:Inv X pins σ H s) (hN:X.N.Nodup) (hi:X.N[i]?=zo x) (O:Loc X.env.scope x) (r:RelV v u)
  (h:∀ s',Inv X pins (σ.set i (zo v)) H s'->(∃ a,Heap.SameBut a s.heap s'.heap/\(a=X.env.locals\/X.env.cells.lookup x=zo a))->Q () s') (hf:X.fn x=zi\/X.env.scope.names.lookup x=zo .local:=by first | exact .inl rfl | exact .inr rfl | assumption):aF M A (storeName X.env x u) Q E s:=by
 obtain⟨m,hn,hl⟩:=id I.loc;have a6:(X.env.scope.kind == .class || (X.env.scope.kind == .module && X.env.locals != X.env.globals))=zb:=by rw[I.ok.kind];rfl
 have Y:i < σ.length:=by rw[I.len];exact(O1.mp hi).1
 have cne:=I.cne;have B:∀ {a:aB} {h':Heap},(∃ o,s.heap.get? a=zo o/\H a=zl)->Heap.SameBut a s.heap h'->HOk X.prog X.w H h':=λ{a h'} ha hs b ob e=>by
  obtain⟨_,_,U⟩:=ha;refine(I.hok b ob e).stay (λc w' J q=>(hs.2 c ?_).trans q) (λ_ q=>q) λ_ _ q=>q
  rintro rfl;rcases J with rfl | J
  ·rw[U]at e;cases e
  ·rw[U]at J;cases J
 rcases O with Z | Z
 ·refine wpAny_storeName_local Z hn (λh' a8 hs=>?_) a6;obtain⟨oL,_,_,a7,_⟩:=id hn;refine h _ ⟨I.ok,I.os,I.bare,⟨λb o e n hb O=>?_,λb o e n hb O=>?_,I.base.free,λb o e O=>?_,I.base.tups,I.base.frzs,I.base.tbls⟩,⟨_,a8,λj y v' e1 e2 e3=>?_⟩,λy c e=>?_,I.free,I.freeC,λp hp=>?_,B ⟨oL,a7,I.free⟩ hs,by simpa using I.len⟩ ⟨_,hs,.inl rfl⟩
  ·exact(hs.2 b (F7 (E4 (E3 e) I.ok.above))).trans (I.base.keep b o e n hb O)
  ·obtain⟨sl,e1⟩:=I.base.slot b o e n hb O;exact⟨sl,(hs.2 b (F7 (E4 (E3 e) I.ok.above))).trans e1⟩
  ·obtain⟨o',e1⟩:=I.base.there b o e O;exact⟨o',(hs.2 b (F7 (E4 (E3 e) I.ok.above))).trans e1⟩
  ·by_cases hj:j=i
   ·subst hj;rw[hi]at e1;cases e1;rw[D5 Y]at e2;cases e2;exact⟨u,r,.inl ⟨Z,by simp⟩⟩
   ·rw[O8 (Ne.symm hj)]at e2;obtain⟨u',r',q⟩:=hl j y v' e1 e2 e3;refine⟨u',r',?_⟩;rcases q with⟨k,e⟩ | ⟨k,c,e,z⟩
    ·refine .inl ⟨k,?_⟩;have:y≠x:=λe=>hj (Q8k hN e1 (e ▸ hi))
     simp[this,e]
    ·exact .inr ⟨k,c,e,z.sameBut hs (cne y c e)⟩
  ·obtain⟨w',z⟩:=I.cell y c e;exact⟨w',z.sameBut hs (cne y c e)⟩
  ·obtain⟨e,n,ne,nf,d⟩:=I.pin p hp;exact⟨(hs.2 p.1 ne).trans e,n,ne,nf,d⟩
 ·have a1:X.fn x=zi:=by
   rcases hf with z | z
   ·exact z
   ·rw[z]at Z;cases Z
  obtain⟨c,J⟩:=I.ok.has x (.inl Z);obtain⟨w',z⟩:=I.cell x c J;refine wpAny_storeName_cell I.ok.kind Z J z (λh' a4 hs=>?_);obtain⟨oc,a3,a2⟩:=id z;refine h { s with heap:=h' } ⟨I.ok,I.os,I.bare,⟨λb o e n hb O=>?_,λb o e n hb O=>?_,I.base.free,λb o e O=>?_,I.base.tups,I.base.frzs,I.base.tbls⟩,⟨m,hn.sameBut hs (Ne.symm (cne x c J)),λj y v' e1 e2 e3=>?_⟩,λy c' e=>?_,I.free,I.freeC,λp hp=>?_,B ⟨oc,a3,I.freeC x c J⟩ hs,by simpa using I.len⟩ ⟨c,hs,.inr J⟩
  ·exact(hs.2 b (F7 (E4 (E3 e) (I.ok.cab x c a1 J)))).trans (I.base.keep b o e n hb O)
  ·obtain⟨sl,e1⟩:=I.base.slot b o e n hb O;exact⟨sl,(hs.2 b (F7 (E4 (E3 e) (I.ok.cab x c a1 J)))).trans e1⟩
  ·obtain⟨o',e1⟩:=I.base.there b o e O;exact⟨o',(hs.2 b (F7 (E4 (E3 e) (I.ok.cab x c a1 J)))).trans e1⟩
  ·by_cases hj:j=i
   ·subst hj;rw[hi]at e1;cases e1;rw[D5 Y]at e2;cases e2;exact⟨u,r,.inr ⟨.inl Z,c,J,a4⟩⟩
   ·rw[O8 (Ne.symm hj)]at e2;obtain⟨u',r',q⟩:=hl j y v' e1 e2 e3;refine⟨u',r',?_⟩;rcases q with q | ⟨k,c',e,z'⟩
    ·exact .inl q
    ·refine .inr ⟨k,c',e,z'.sameBut hs ?_⟩;rintro rfl;exact hj (Q8k hN e1 (I.ok.inj _ _ _ e J ▸ hi))
  ·by_cases a5:c'=c
   ·subst a5;exact⟨_,a4⟩
   ·obtain⟨w2,z2⟩:=I.cell y c' e;exact⟨w2,z2.sameBut hs a5⟩
  ·obtain⟨e,n,ne,nf,d⟩:=I.pin p hp;refine⟨(hs.2 p.1 ?_).trans e,n,ne,nf,d⟩;intro q;rw[q,a3]at e;have q':oc=p.2:=bY e;exact d w' (by rw[<- q'];exact a2)
theorem Q2t {M:Model} {A:aQ} {E:zAC} {i:Nat} {x:Str} {Q:Unit->aD->Prop} (I:Inv X pins σ H s) (J:X.N.Nodup) (hi:X.N[i]?=zo x) (B:Loc X.env.scope x) (r:RelV v u)
  (h:∀ s',Inv X pins (σ.set i (zo v)) H s'->Q () s') (O:X.fn x=zi\/X.env.scope.names.lookup x=zo .local:=by first | exact .inl rfl | exact .inr rfl | assumption):aF M A (storeName X.env x u) Q E s:=
 Q51 I J hi B r (λs' U _=>h s' U) O
theorem Inv.call' {s':aD} (I:Inv X pins σ H s) (O:s'.os=s.os) (u:Un (frs X.stack) ch H H' s.heap s'.heap) (hok:HOk X.prog X.w H' s'.heap) (J:AllBare s'.gens)
  (B:∀ b∈ch,(b∈X.ex\/X.s₀.heap.objs.size<=b)/\b≠X.env.locals/\(∀ x c,X.env.cells.lookup x=zo c->c≠b)/\∀ p∈X.pn ++ pins,p.1≠b):Inv X pins σ H' s':=by
 obtain⟨h',g',d',t',o'⟩:=s';have e:o'=s.os:=O;subst e;exact I.call (g':=g') (t':=t') (d':=d') u hok J B
abbrev XK:=aA->Option aB->Hp->Prop
abbrev St:=List (Option V)
abbrev VK:=V->Hp->Prop
abbrev TE:=St->Hp->VK->Prop
variable{tl:TE}
abbrev TT:=St->Hp->(Bool->Hp->Prop)->Prop
variable{tc:TT}
abbrev TA:=St->Hp->(List V->Hp->Prop)->Prop
structure Ends where
 nx:St->Hp->Prop
 rt:VK
 bk:St->Hp->Prop:=λ_ _=>False
 ct:St->Hp->Prop:=λ_ _=>False
abbrev TS:=Ends->St->Hp->Prop
variable{tb:TS}
def EP(X:Cx)(pins:zAA)(σ:St)(Q:VK)(u:aA)(s':aD):Prop:=∃ v H',Inv X pins σ H' s'/\RelV v u/\Q v H'
def TP(X:Cx)(pins:zAA)(σ:St)(Q:Bool->Hp->Prop)(b:Bool)(s':aD):Prop:=∃ H',Inv X pins σ H' s'/\Q b H'
def AP(X:Cx)(pins:zAA)(σ:St)(Q:List V->Hp->Prop)(us:List aA)(s':aD):Prop:=∃ vs H',Inv X pins σ H' s'/\Vals vs us/\Q vs H'
def SP(X:Cx)(pins:zAA)(D:Ends)(f:Flow)(s':aD):Prop:=
 match f with
 | .next=>∃ σ' H',Inv X pins σ' H' s'/\D.nx σ' H'
 | .brk=>∃ σ' H',Inv X pins σ' H' s'/\D.bk σ' H'
 | .cont=>∃ σ' H',Inv X pins σ' H' s'/\D.ct σ' H'
 | .ret u=>∃ v σ' H',Inv X pins σ' H' s'/\RelV v u/\D.rt v H'
def PE(X:Cx)(e:aH)(t:TE):Prop:=
 ∀ (pins:zAA) (s:aD) (σ:St) (H:Hp) (Q:VK),Inv X pins σ H s->t σ H Q->aF (aI X.prog X.w) X.A (aL e X.env) (EP X pins σ Q) X.xe s
def PT(X:Cx)(e:aH)(t:TT):Prop:=
 ∀ (pins:zAA) (s:aD) (σ:St) (H:Hp) (Q:Bool->Hp->Prop),Inv X pins σ H s->t σ H Q->aF (aI X.prog X.w) X.A (isTrue e X.env (aL e X.env)) (TP X pins σ Q) X.xe s
def PW(X:Cx)(e:aH)(t:TT):Prop:=
 ∀ (whole:Sem aA) (pins:zAA) (s:aD) (σ:St) (H:Hp) (Q:Bool->Hp->Prop),Inv X pins σ H s->t σ H Q->aF (aI X.prog X.w) X.A (isTrue e X.env whole) (TP X pins σ Q) X.xe s
def PA(X:Cx)(es:List aH)(t:TA):Prop:=
 ∀ (pos:Pos) (pins:zAA) (s:aD) (σ:St) (H:Hp) (Q:List V->Hp->Prop),Inv X pins σ H s->t σ H Q->aF (aI X.prog X.w) X.A (spliced (aY pos (aN es X.env))) (AP X pins σ Q) X.xe s
def PS(X:Cx)(st:aK)(t:TS):Prop:=
 ∀ (pins:zAA) (s:aD) (σ:St) (H:Hp) (D:Ends),Inv X pins σ H s->t D σ H->aF (aI X.prog X.w) X.A (exec st X.env) (SP X pins D) X.xe s
def PSs(X:Cx)(st:List aK)(t:TS):Prop:=
 ∀ (pins:zAA) (s:aD) (σ:St) (H:Hp) (D:Ends),Inv X pins σ H s->t D σ H->aF (aI X.prog X.w) X.A (execs st X.env) (SP X pins D) X.xe s
theorem thn{t:Sem α}{Q B:α->aD->Prop}(h:aF M A t Q E s)(I:∀ a s,Q a s->B a s):aF M A t B E s:=ao h I λ_ _ x=>x
section
variable{X:Cx}
def Qu1(i:Nat):TE:=λσ H Q=>∃ v,σ[i]?=zo (zo v)/\Q v H
def tC(v:V):TE:=λ_ H Q=>Q v H
theorem Qh1{i:Nat}{x:Str}{pos:Pos}(Y:X.N[i]?=zo x)(Z:Vis X.env.scope x)(hd:(x == ("__debug__" : Str))=zb:=by decide)(O:(x == ("__classdict__" : Str))=zb:=by decide):PE X (.Name x pos) (Qu1 i):=by
 intro pins s σ H Q I h;obtain⟨v,e,h⟩:=h;obtain⟨m,hn,hl⟩:=I.loc;obtain⟨u,r,l⟩:=hl i x v Y e Z;have fin:EP X pins σ Q u s:=⟨v,H,I,r,h⟩;rcases l with⟨J,hm⟩ | ⟨J,c,U,B⟩
 ·exact wpAny_Name (wpAny_loadName_local I.ok.kind J hn hm fin) hd
 ·rcases J with J | J
  ·exact wpAny_Name (wpAny_loadName_cell I.ok.kind J U B fin) hd
  ·exact wpAny_Name (wpAny_loadName_free I.ok.kind J U B fin O) hd
theorem Qr5{i j pos}:PE X (.Constant (.int i) j pos) (tC (.int i)):=λ_ _ _ H _ I h=>wpAny_Constant_int ⟨.int i,H,I.tok _,⟨_,rfl⟩,h⟩
theorem Qv1{b j pos}:PE X (.Constant (.bool b) j pos) (tC (.bl b)):=λ_ _ _ H _ I h=>Constant_bool ⟨.bl b,H,I,rfl,h⟩
theorem Qr4{j pos}:PE X (.Constant .none j pos) (tC .non):=λ_ _ _ H _ I h=>Constant_none ⟨.non,H,I,rfl,h⟩
theorem Qr1{x j pos}:PE X (.Constant (.str x) j pos) (tC (.str x)):=λ_ _ _ H _ I h=>Calls.Constant_str ⟨.str x,H,I.tok _,⟨_,rfl⟩,h⟩
def Gl(X:Cx)(x:Str):Prop:=X.env.kindOf x=zo .globalImplicit
theorem Q72 {E:zAC} {σ:St} {x:Str} {pos:Pos} {Q:zAC} (I:Inv X pins σ H s) (B:Gl X x) (J:X.mg x=zo u) (h:Q u s)
  (hd:(x == ("__debug__" : Str))=zb:=by decide):aF (aI X.prog X.w) X.A (aL (.Name x pos) X.env) Q E s:=
 Calls.Name_function_global I.ok.kind B (Calls.loadGlobal_global (by rw[I.ok.glob];exact I.mod.glob.keeps I.bk) J h) hd
theorem yn {E:zAC} {σ:St} {x:Str} {pos:Pos} {Q:zAC} (I:Inv X pins σ H s) (B:Gl X x) (O:X.mg x=zl) (J:aW x=zo u) (h:Q u s)
  (hn:x≠"__name__" := by decide) (hd:(x == ("__debug__" : Str))=zb:=by decide):aF (aI X.prog X.w) X.A (aL (.Name x pos) X.env) Q E s:=by
 obtain⟨mb,h1,h2⟩:=I.mod.blt;exact Calls.Name_function_global I.ok.kind B (Calls.loadGlobal_builtin (by rw[I.ok.glob];exact I.mod.glob.keeps I.bk) O (by rw[I.ok.blt];exact h1.keeps I.bk) ((h2 x hn).trans J) h) hd
theorem Qc6{x:Str}{pos:Pos}(B:Gl X x)(J:X.mg x=zo u)(r:RelV v u)(hd:(x == ("__debug__" : Str))=zb:=by decide):PE X (.Name x pos) (tC v):=
 λ_ _ _ H _ I h=>Q72 I B J ⟨v,H,I,r,h⟩ hd
theorem Qm8{x:Str}{pos:Pos}(B:Gl X x)(O:X.mg x=zl)(J:aW x=zo u)(r:RelV v u)(hn:x≠"__name__" := by decide)(hd:(x == ("__debug__" : Str))=zb:=by decide):PE X (.Name x pos) (tC v):=
 λ_ _ _ H _ I h=>yn I B O J ⟨v,H,I,r,h⟩ hn hd
variable{a b:aH}{ta tb:TE}{pos:Pos}
def tB(t:TE):TT:=λσ H Q=>t σ H λx H1=>∃ c,x=.bl c/\Q c H1
theorem Qqn{e:aH}{t:TE}(h:PE X e t)(U:∀ B,isTrue e X.env B=(do let v <- B;standAt e.pos;az [v] (truthy v)):=by intro _;rfl):PT X e (tB t):=by
 intro pins s σ H Q I Y;refine isTrue_plain (thn (h pins s σ H _ I Y) λv s1 ⟨x,H1,O,Z,J⟩=>?_) (U _)
 obtain⟨d,rfl,q⟩:=J;cases Z;exact av ⟨H1,O,q⟩
variable{tA tB':TT}{rest:List aH}
def Qyc(t u:TT):TT:=λσ H Q=>t σ H λc H1=>if c=zi then u σ H1 Q else Q zb H1
def tOr(t u:TT):TT:=λσ H Q=>t σ H λc H1=>if c=zi then Q zi H1 else u σ H1 Q
def Qy5(t:TT):TT:=λσ H Q=>t σ H λc H1=>Q (!c) H1
theorem Qkj(B:PT X a tA):PW X (.BoolOp .And [a] pos) tA:=by
 intro J pins s σ H Q I h;refine isTrue_and (thn (B pins s σ H Q I h) λc s1 e=>?_)
 cases c with
 | true=>exact isTrue_and_nil e
 | false=>exact e
theorem Qqk(B:PT X a tA):PW X (.BoolOp .Or [a] pos) tA:=by
 intro J pins s σ H Q I h;refine isTrue_or (thn (B pins s σ H Q I h) λc s1 e=>?_)
 cases c with
 | false=>exact isTrue_or_nil e
 | true=>exact e
theorem Qqm(U:PT X a tA)(O:PW X (.BoolOp .And (b :: rest) pos) tB'):PW X (.BoolOp .And (a :: b :: rest) pos) (Qyc tA tB'):=by
 intro Y pins s σ H Q I h;refine isTrue_and (thn (U pins s σ H _ I h) λc s1 ⟨H1,J,B⟩=>?_)
 cases c with
 | true=>exact O Y pins s1 σ H1 Q J B
 | false=>exact⟨H1,J,B⟩
theorem Quu(U:PT X a tA)(O:PW X (.BoolOp .Or (b :: rest) pos) tB'):PW X (.BoolOp .Or (a :: b :: rest) pos) (tOr tA tB'):=by
 intro Y pins s σ H Q I h;refine isTrue_or (thn (U pins s σ H _ I h) λc s1 ⟨H1,J,B⟩=>?_)
 cases c with
 | true=>exact⟨H1,J,B⟩
 | false=>exact O Y pins s1 σ H1 Q J B
theorem Qqp(B:PT X a tA):PT X (.UnaryOp .Not a pos) (Qy5 tA):=by
 intro pins s σ H Q I h;exact isTrue_not (B pins s σ H (λc H1=>Q (!c) H1) I h)
def Quc(ta tb:TE):TE:=λσ H Q=>ta σ H λx H1=>∃ c,x=.bl c/\if c=zi then tb σ H1 Q else Q (.bl zb) H1
def Qu5(ta:TE):TE:=λσ H Q=>ta σ H λx H1=>∃ c,x=.bl c/\Q (.bl (!c)) H1
theorem Qr2{op}{t:TE}(h:PE X a t):PE X (.BoolOp op [a] pos) t:=λpins s σ H Q I B=>BoolOp_one (h pins s σ H Q I B)
theorem Qr7(U:PE X a ta)(O:PE X (.BoolOp .And (b :: rest) pos) tb):PE X (.BoolOp .And (a :: b :: rest) pos) (Quc ta tb):=by
 intro pins s σ H Q I h;refine BoolOp_and (thn (U pins s σ H _ I h) λv s1 ⟨x,H1,J,Y,B⟩=>?_)
 obtain⟨c,rfl,B⟩:=B;cases Y;refine av ?_;cases c with
 | true=>exact O pins s1 σ H1 Q J B
 | false=>exact⟨.bl zb,H1,J,rfl,B⟩
theorem Qr3(O:PE X a ta):PE X (.UnaryOp .Not a pos) (Qu5 ta):=by
 intro pins s σ H Q I h;refine UnaryOp_ (thn (O pins s σ H _ I h) λv s1 ⟨x,H1,J,U,B⟩=>?_)
 obtain⟨c,rfl,B⟩:=B;cases U;exact not_of (av ⟨.bl (!c),H1,J,rfl,B⟩)
def tIf(t:TT)(ta tb:TE):TE:=λσ H Q=>t σ H λc H1=>if c=zi then ta σ H1 Q else tb σ H1 Q
theorem Qh4(Y:PT X c tA)(U:PE X a ta)(O:PE X b tb):PE X (.IfExp c a b pos) (tIf tA ta tb):=by
 intro pins s σ H Q I h;refine wpAny_IfExp (thn (Y pins s σ H _ I h) λd s1 ⟨H1,J,B⟩=>?_)
 cases d with
 | true=>exact U pins s1 σ H1 Q J B
 | false=>exact O pins s1 σ H1 Q J B
end
def SqL(K:bS)(H:Hp)(a:aB)(xs:List V):Prop:=
 Rd H a (.lst xs) \/
  ∃ (o:Obj) (its:Array aA) (n:Nat),K.lookup a=zo o/\o.cls=.type "list" /\ o.dict=zl/\o.data=.seq its n/\its.size<=sizeLine/\Vals xs its.toList
def SqT(K:bS)(H:Hp)(a:aB)(xs:List V):Prop:=
 Rd H a (.tup xs) \/
  ∃ (o:Obj) (its:Array aA) (n:Nat),K.lookup a=zo o/\o.cls=.type "tuple" /\ o.data=.seq its n/\its.size<=sizeLine/\Vals xs its.toList
def Qz5:aA->Option V
 | .none=>zo .non
 | .bool b=>zo (.bl b)
 | .int i _=>zo (.int i)
 | .str x _=>zo (.str x)
 | .bytes b _=>zo (.byt b)
 | .float b _=>zo (.flt b)
 | .ref a=>zo (.ref a)
 | .type n=>zo (.ty n)
 | _=>zl
theorem RelV.abs{x:V}(r:RelV x u):Qz5 u=zo x:=by
 cases x with
 | non=>cases r;rfl
 | bl _=>cases r;rfl
 | int _=>obtain⟨t,rfl⟩:=r;rfl
 | str _=>obtain⟨t,rfl⟩:=r;rfl
 | byt _=>obtain⟨t,rfl⟩:=r;rfl
 | flt _=>obtain⟨t,rfl⟩:=r;rfl
 | ref _=>cases r;rfl
 | ty _=>cases r;rfl
theorem RelV.inj{x y:V}(r:RelV x u)(q:RelV y u):x=y:=bY (r.abs.symm.trans q.abs)
theorem Vals.inj:∀ {xs ys:List V} {us:List aA},Vals xs us->Vals ys us->xs=ys
 | _,_,_,.nil,.nil=>rfl
 | _,_,_,.cons r t,.cons B t'=>by rw[r.inj B,Vals.inj t t']
variable{xs ys:List V}
section
variable{σ:St}
theorem SqL.of(h:H a=zo (.lst xs)):SqL K H a xs:=.inl (.inl h)
theorem SqT.of(h:H a=zo (.tup xs)):SqT K H a xs:=.inl (.inl h)
theorem Inv.list(I:Inv X pins σ H s)(h:SqL X.K H a xs):∃ its:List aA,Vals xs its/\PlainL s.heap a its.toArray/\xs.length<=sizeLine:=by
 rcases h with h | ⟨o,its,n,B,J,hd,hs,hz,r⟩
 ·obtain⟨z,its,n,r,e⟩:=h.ok I.hok;exact⟨its,r,⟨_,n,e,rfl,rfl,rfl⟩,z⟩
 ·refine⟨its.toList,r,⟨o,n,I.kIn a o B,J,hd,by simpa using hs⟩,?_⟩;have e:=r.length;simp only[bt]at e;omega
theorem Inv.tuple(I:Inv X pins σ H s)(h:SqT X.K H a xs):∃ its:List aA,Vals xs its/\IsTup s.heap a its.toArray/\xs.length<=sizeLine:=by
 rcases h with h | ⟨o,its,n,B,J,hs,hz,r⟩
 ·obtain⟨z,its,r,p⟩:=h.ok I.hok;exact⟨its,r,p,z⟩
 ·refine⟨its.toList,r,⟨o,I.kIn a o B,J,n,by simpa using hs⟩,?_⟩;have e:=r.length;simp only[bt]at e;omega
theorem Inv.list_inj(I:Inv X pins σ H s)(h:SqL X.K H a xs)(h':SqL X.K H a ys):xs=ys:=by
 obtain⟨its,r,⟨o,n,e,_,_,d⟩,_⟩:=I.list h;obtain⟨its',J,⟨o',U,B,_,_,d'⟩,_⟩:=I.list h';rw[e]at B;cases B;rw[d]at d';injection d' with O _
 have:its=its':=by simpa using congrArg fk O
 subst this;exact r.inj J
theorem Inv.tuple_inj(I:Inv X pins σ H s)(h:SqT X.K H a xs)(h':SqT X.K H a ys):xs=ys:=by
 obtain⟨its,r,⟨o,e,_,n,d⟩,_⟩:=I.tuple h;obtain⟨its',J,⟨o',B,_,U,d'⟩,_⟩:=I.tuple h';rw[e]at B;cases B;rw[d]at d';injection d' with O _
 have:its=its':=by simpa using congrArg fk O
 subst this;exact r.inj J
end
variable{st:aK}{u:TS}{te:TE}{pos:Pos}
section
variable{rest:List aK}{t:TS}{e:aH}
def Qu6:TS:=λD σ H=>D.nx σ H
def Qy3(t u:TS):TS:=λD σ H=>t { D with nx:=u D } σ H
theorem Qkr:PSs X [] Qu6:=λ_ _ σ H _ I h=>wpAny_execs_nil ⟨σ,H,I,h⟩
theorem Qgr(h1:PS X st t)(h2:PSs X rest u):PSs X (st :: rest) (Qy3 t u):=by
 intro pins s σ H D I h;refine wpAny_execs_cons (thn (h1 pins s σ H { D with nx:=u D } I h) λf s1 q=>?_)
 cases f with
 | next=>
  obtain⟨B,H',J,q⟩:=q;exact h2 pins s1 B H' D J q
 | ret v=>exact q
 | brk=>exact q
 | cont=>exact q
theorem Qkq(h1:PS X st t):PSs X [st] t:=by
 intro pins s σ H D I h;refine wpAny_execs_cons (thn (h1 pins s σ H D I h) λf s1 q=>?_)
 cases f with
 | next=>exact wpAny_execs_nil q
 | ret v=>exact q
 | brk=>exact q
 | cont=>exact q
theorem Inv.quiet{σ:St}(I:Inv X pins σ H s):interactive X.env=zb:=by simp[interactive,I.ok.kind]
def Qu7(te:TE):TS:=λD σ H=>te σ H λ_ H1=>D.nx σ H1
theorem Qks(O:PE X e te)(hs:swapsWith e zl pos.line X.env=pure zb:=by rfl):PS X (.Expr e pos) (Qu7 te):=by
 intro pins s σ H D I h;exact wpAny_Expr_any (thn (O pins s σ H _ I h) λv s1 ⟨x,H1,J,U,B⟩=>⟨σ,H1,J,B⟩) I.quiet hs
def Qy4(te:TE):TS:=λD σ H=>te σ H D.rt
theorem Qqr(O:PE X e te):PS X (.Return (zo e) pos) (Qy4 te):=by
 intro pins s σ H D I h;exact wpAny_Return_some (thn (O pins s σ H _ I h) λv s1 ⟨x,H1,J,U,B⟩=>⟨x,σ,H1,J,U,B⟩)
def Qy8(c:TT)(t u:TS):TS:=λD σ H=>c σ H λb H1=>if b=zi then t D σ H1 else u D σ H1
theorem Quw{a b:List aK}(Y:PT X c tc)(U:PSs X a t)(O:PSs X b u):PS X (.If c a b pos) (Qy8 tc t u):=by
 intro pins s σ H D I h;refine wpAny_If (thn (Y pins s σ H _ I h) λd s1 ⟨H1,J,B⟩=>?_)
 cases d with
 | true=>exact U pins s1 σ H1 D J B
 | false=>exact O pins s1 σ H1 D J B
end
abbrev TG:=V->St->Hp->(St->Hp->Prop)->Prop
abbrev TGs:=List V->St->Hp->(St->Hp->Prop)->Prop
def PG(X:Cx)(target:aH)(t:TG):Prop:=
 ∀ (pins:zAA) (s:aD) (σ:St) (H:Hp) (v:V) (u:aA) (Q:St->Hp->Prop),Inv X pins σ H s->RelV v u->t v σ H Q ->
  aF (aI X.prog X.w) X.A (assign target X.env u) (λ_ s'=>∃ σ' H',Inv X pins σ' H' s'/\Q σ' H') X.xe s
def PGs(X:Cx)(ts:List aH)(t:TGs):Prop:=
 ∀ (pins:zAA) (s:aD) (σ:St) (H:Hp) (vs:List V) (us:List aA) (Q:St->Hp->Prop),Inv X pins σ H s->Vals vs us->t vs σ H Q ->
  aF (aI X.prog X.w) X.A (assignInOrder ((au ts X.env).map (·.2)) us) (λ_ s'=>∃ σ' H',Inv X pins σ' H' s'/\Q σ' H') X.xe s
abbrev Qjr:=V->V->V->Hp->(Hp->Prop)->Prop
def Qtc(X:Cx)(t:Qjr):Prop:=
 ∀ (pins:zAA) (s:aD) (σ:St) (H:Hp) (o i v:V) (ov iv u:aA) (Q:Hp->Prop),Inv X pins σ H s->RelV o ov->RelV i iv->RelV v u->t o i v H Q ->
  aF (aI X.prog X.w) X.A (setItem ov iv u) (λ_ s'=>∃ H',Inv X pins σ H' s'/\Q H') X.xe s
abbrev TIp:=V->V->Hp->VK->Prop
def PIp(X:Cx)(op:Operator)(t:TIp):Prop:=
 ∀ (pins:zAA) (s:aD) (σ:St) (H:Hp) (x y:V) (v u:aA) (Q:VK),Inv X pins σ H s->RelV x v->RelV y u->t x y H Q ->
  aF (aI X.prog X.w) X.A (inplaceOp op v u) (EP X pins σ Q) X.xe s
def Q97(i:Nat):TG:=λv σ H Q=>Q (σ.set i (zo v)) H
theorem Qm4{i:Nat}{x:Str}(J:X.N.Nodup)(hi:X.N[i]?=zo x)(B:Loc X.env.scope x)(O:X.fn x=zi\/X.env.scope.names.lookup x=zo .local:=by first | exact .inl rfl | exact .inr rfl | assumption):PG X (.Name x pos) (Q97 i):=by
 intro pins s σ H v u Q I r h;exact wpAny_assign_Name (Q2t I J hi B r (λs' U=>⟨_,H,U,h⟩) O)
def Qwc:TGs:=λvs σ H Q=>vs=[]/\Q σ H
def Qic(t:TG)(u:TGs):TGs:=λvs σ H Q=>∃ v r,vs=v :: r/\t v σ H λσ' H'=>u r σ' H' Q
theorem Qm2:PGs X [] Qwc:=by
 intro pins s σ H vs us Q I r h;obtain⟨e,h⟩:=h;subst e;cases r;exact assignInOrder_nil ⟨σ,H,I,h⟩
theorem Qgz {e:aH} {es:List aH} {t:TG} {u:TGs} (h1:PG X e t) (h2:PGs X es u)
  (hs:(au (e :: es) X.env).map (·.2)=assign e X.env :: (au es X.env).map (·.2):=by rfl):PGs X (e :: es) (Qic t u):=by
 intro pins s σ H vs us Q I r h;obtain⟨v,Y,e1,h⟩:=h;subst e1;cases r with
 | cons r U=>
  rw[hs];refine assignInOrder_cons (thn (h1 pins s σ H _ _ _ I r h) λ_ s1 ⟨B,H1,O,J⟩=>?_)
  exact h2 pins s1 B H1 _ _ Q O U J
def Qwb(K:bS)(n:Nat)(t:TGs):TG:=λv σ H Q=>∃ a xs,v=.ref a/\SqT K H a xs/\xs.length=n/\t xs σ H Q
theorem Qqx {es:List aH} {k:Nat} {t:TGs} {n:Nat} (Z:X.calm=zi) (h:PGs X es t)
  (hn:(au es X.env).length=n:=by rfl) (B:(au es X.env).findIdx? (·.1)=zl:=by rfl):PG X (.Tuple es k pos) (Qwb X.K n t):=by
 intro pins s σ H v u Q I r J;obtain⟨a,xs,e1,hq,hl,J⟩:=J;subst e1;cases r;obtain⟨its,O,ht,hz⟩:=I.tuple hq;refine assign_Tuple_tuple (I.ok.hd Z) ht (by simp[hn,<- hl,O.length]) B λh' U=>?_
 have Y:Inv X pins σ H { s with heap:=h' }:=I.kept (t':=s.toks) λb o e=>U b o (F7 (E3 e)) e
 exact h pins _ σ H xs _ Q Y (by simpa using O) J
def Qyx(to ti:TE)(t:Qjr):TG:=λv σ H Q=>to σ H λo H1=>ti σ H1 λi H2=>t o i v H2 λH3=>Q σ H3
theorem Qqy {o i:aH} {to O:TE} {t:Qjr} (Z:PE X o to) (hi:PE X i O) (hs:Qtc X t)
  (ha:∀ v,assign (.Subscript o i pos) X.env v=(do
   let B <- az [v] (aL o X.env)
   let J <- az [v,B] (aL i X.env)
   standAt pos
   az [v,B,J] (setItem B J v)
   release [v,B,J] []):=by intro _;rfl):PG X (.Subscript o i pos) (Qyx to O t):=by
 intro pins s σ H v u Q I r h;rw[ha];refine aC (af (thn (Z pins s σ H _ I h) λB s1 ⟨x,H1,I1,r1,U⟩=>?_))
 refine aC (af (thn (hi pins s1 σ H1 _ I1 U) λJ s2 ⟨y,H2,I2,r2,q2⟩=>?_))
 refine aC (wpAny_standAt (aC (af (thn (hs pins s2 σ H2 x y v B J u _ I2 r1 r2 r q2) λ_ s3 ⟨H3,I3,Y⟩=>?_))))
 exact wpAny_release ⟨σ,H3,I3,Y⟩
def Qpu(te:TE)(g:TG):TS:=λD σ H=>te σ H λx H1=>g x σ H1 D.nx
theorem Qgt {e:aH} {g:TG} (O:PE X e te) (U:PG X tg g) (hs:swapsWithSole [tg] e pos.line X.env=pure zb:=by rfl) (Y:swappedStores [tg] e X.env=pure zl:=by rfl)
  (h1:(au [tg] X.env).map (·.2)=[assign tg X.env]:=by rfl):PS X (.Assign [tg] e pos) (Qpu te g):=by
 intro pins s σ H D I h;refine wpAny_Assign_stores (thn (O pins s σ H _ I h) λv s1 ⟨x,H1,J,Z,B⟩=>?_) hs Y
 rw[h1];exact thn (U pins s1 σ H1 x v _ J Z B) λ_ s2 q=>q
theorem Qqq {i:Nat} {x:Str} {e:aH} {pos':Pos} (O:X.N.Nodup) (hi:X.N[i]?=zo x) (J:Loc X.env.scope x) (Z:PE X e te) (hs:swapsWith e (zo (.Name x pos')) pos.line X.env=pure zb:=by rfl) (hf:X.fn x=zi\/X.env.scope.names.lookup x=zo .local:=by first | exact .inl rfl | exact .inr rfl | assumption) :
  PS X (.Assign [.Name x pos'] e pos) (Qpu te (Q97 i)):=by
 intro pins s σ H D I h;refine wpAny_Assign_Name (thn (Z pins s σ H _ I h) λv s1 ⟨y,H1,Y,r1,B⟩=>?_) hs
 exact Q2t Y O hi J r1 (λs2 U=>⟨_,H1,U,B⟩) hf
def Qyb(i:Nat)(te:TE)(ti:TIp):TS:=λD σ H=>∃ x,σ[i]?=zo (zo x)/\te σ H λy H1=>ti x y H1 λz H2=>D.nx (σ.set i (zo z)) H2
theorem Qqt {i:Nat} {x:Str} {e:aH} {ti:TIp} {pos':Pos} (hN:X.N.Nodup) (hi:X.N[i]?=zo x) (Z:Loc X.env.scope x) (he:PE X e te) (ho:PIp X op ti) (hf:X.fn x=zi\/X.env.scope.names.lookup x=zo .local:=by first | exact .inl rfl | exact .inr rfl | assumption) :
  PS X (.AugAssign (.Name x pos') op e pos) (Qyb i te ti):=by
 intro pins s σ H D I h;obtain⟨v,e1,h⟩:=h;obtain⟨m,hn,hl⟩:=I.loc;have Y:Vis X.env.scope x:=by rcases Z with k | k;exact .inl k;exact .inr (.inl k)
 obtain⟨u,r,l⟩:=hl i x v hi e1 Y;refine wpAny_AugAssign_Name ?_;have go:aF (aI X.prog X.w) X.A (aL e X.env) (λw U=>aF (aI X.prog X.w) X.A (inplaceOp op u w) (λr O=>aF (aI X.prog X.w) X.A (storeName X.env x r) (λ_=>SP X pins D .next) X.xe O) X.xe U) X.xe s:=by
  refine thn (he pins s σ H _ I h) λw s1 ⟨y,H1,I1,r1,q1⟩=>?_
  refine thn (ho pins s1 σ H1 v y u w _ I1 r r1 q1) λz s2 ⟨zv,H2,I2,r2,q2⟩=>?_
  exact Q2t I2 hN hi Z r2 (λs3 I3=>⟨_,H2,I3,q2⟩) hf
 rcases l with⟨B,hm⟩ | ⟨B,c,hc,J⟩
 ·exact wpAny_loadName_local I.ok.kind B hn hm go
 ·rcases B with B | B
  ·exact wpAny_loadName_cell I.ok.kind B hc J go
  ·rcases Z with k | k
   ·have:X.env.scope.names.lookup x=zo .free:=B;rw[k]at this;cases this
   ·have:X.env.scope.names.lookup x=zo .free:=B;rw[k]at this;cases this
def Qub(to ti te:TE)(tget:V->V->Hp->VK->Prop)(tip:TIp)(tset:Qjr):TS:=λD σ H=>to σ H λo H1=>ti σ H1 λi H2=>tget o i H2 λx H3=>te σ H3 λy H4=>tip x y H4 λz H5=>tset o i z H5 λH6=>D.nx σ H6
def Qww(X:Cx)(t:V->V->Hp->VK->Prop):Prop:=
 ∀ (pins:zAA) (s:aD) (σ:St) (H:Hp) (o i:V) (ov iv:aA) (Q:VK),Inv X pins σ H s->RelV o ov->RelV i iv->t o i H Q ->
  aF (aI X.prog X.w) X.A (getItem ov iv) (EP X pins σ Q) X.xe s
theorem Qku {o i e:aH} {to ti:TE} {B:V->V->Hp->VK->Prop} {Y:TIp} {J:Qjr} {tpos:Pos} (ho:PE X o to) (hi:PE X i ti) (hg:Qww X B) (he:PE X e te) (hp:PIp X op Y) (hs:Qtc X J)
  (ha:∀ O U new,augStore i O U new=(do az [new,O,U] (setItem O U new);release [new,O,U] [];pure .next):=by intros;rfl):PS X (.AugAssign (.Subscript o i tpos) op e pos) (Qub to ti te B Y J):=by
 intro pins s σ H D I h;refine wpAny_AugAssign_SubscriptAny (thn (ho pins s σ H _ I h) λO s1 ⟨x1,H1,I1,r1,q1⟩=>?_) ha
 refine thn (hi pins s1 σ H1 _ I1 q1) λU s2 ⟨x2,H2,I2,Z,q2⟩=>?_
 refine thn (hg pins s2 σ H2 x1 x2 O U _ I2 r1 Z q2) λold s3 ⟨x3,H3,I3,r3,q3⟩=>?_
 refine thn (he pins s3 σ H3 _ I3 q3) λv s4 ⟨x4,H4,I4,r4,q4⟩=>?_
 refine thn (hp pins s4 σ H4 x3 x4 old v _ I4 r3 r4 q4) λnew s5 ⟨x5,H5,I5,r5,q5⟩=>?_
 exact thn (hs pins s5 σ H5 x1 x2 x5 O U new _ I5 r1 Z r5 q5) λ_ s6 ⟨H6,I6,q6⟩=>⟨σ,H6,I6,q6⟩
def ipI(f:Int->Int->Int):TIp:=λx y H Q=>∃ i j,x=.int i/\y=.int j/\Q (.int (f i j)) H
theorem Qsf:PIp X .Add (ipI λi j=>i + j):=by
 intro pins s σ H x y v u Q I B J h;obtain⟨i,j,e1,e2,q⟩:=h;subst e1;subst e2;obtain⟨t,rfl⟩:=B;obtain⟨t',rfl⟩:=J;exact iadd_int ⟨.int _,H,I.tok _,⟨_,rfl⟩,q⟩
theorem Qse:PIp X .Sub (ipI λi j=>i - j):=by
 intro pins s σ H x y v u Q I B J h;obtain⟨i,j,e1,e2,q⟩:=h;subst e1;subst e2;obtain⟨t,rfl⟩:=B;obtain⟨t',rfl⟩:=J;exact isub_int ⟨.int _,H,I.tok _,⟨_,rfl⟩,q⟩
def Qpp(c:TT)(tb:TS):TS:=λD σ H=>∃ W:Nat->St->Hp->Prop,(∃ m,W m σ H)/\∀ m σ H,W m σ H ->
 c σ H λb H1=>if b=zi then ∃ N:St->Hp->Prop,(∀ σ' H',N σ' H'->∃ m',m' < m/\W m' σ' H')/\tb { D with nx:=N,ct:=N,bk:=D.nx } σ H1 else D.nx σ H1
theorem Qgs{body:List aK}(hp:PassesOwn (aI X.prog X.w) X.A X.env X.xe)(hc:PT X c tc)(hb:PSs X body tb):PS X (.While c body [] pos) (Qpp tc tb):=by
 intro pins s σ H D I h;obtain⟨W,⟨m0,w0⟩,turn⟩:=h;refine wpAny_While (codeAny_whileLoop (λn s'=>∃ O H',Inv X pins O H' s'/\W n O H') ?_ m0 ⟨σ,H,I,w0⟩);rintro n s1 ⟨J,H1,I1,w1⟩;refine bF hp (thn (hc pins s1 J H1 _ I1 (turn n J H1 w1)) λb s2 ⟨H2,I2,Z⟩=>?_)
 cases b with
 | true=>
  obtain⟨N,hN,Z⟩:=Z;rw[bO rfl];refine bF hp (thn (hb pins s2 J H2 _ I2 Z) λf s3 Y=>?_)
  cases f with
  | next=>
   obtain⟨B,U,I3,n3⟩:=Y;obtain⟨m',hm,w3⟩:=hN B U n3;exact⟨m',hm,B,U,I3,w3⟩
  | cont=>
   obtain⟨B,U,I3,n3⟩:=Y;obtain⟨m',hm,w3⟩:=hN B U n3;exact⟨m',hm,B,U,I3,w3⟩
  | brk=>exact Y
  | ret v=>exact Y
 | false=>
  rw[bP F5];exact wpAny_execs_nil ⟨J,H2,I2,Z⟩
structure It where
 go:Nat->Hp->Prop
 yld:Nat->Hp->V->Hp->Prop
 stop:Nat->Hp->Prop
def Q4f(X:Cx)(pins:zAA)(H:Hp)(b:aB):Prop:=
 H b=zl/\b≠X.env.locals/\b∉X.fs/\(b∈X.ex\/X.s₀.heap.objs.size<=b)/\(∀ x c,X.env.cells.lookup x=zo c->c≠b)/\∀ p∈X.pn ++ pins,p.1≠b
theorem Inv.fpOk{σ:St}(I:Inv X pins σ H s)(B:s.heap.objs.size<=b)(hn:H' b=zl):Q4f X pins H' b:=by
 refine⟨hn,bj (E4 I.lt B),I.nofs B,.inr (F8 I.sz B),λx c e z=>?_,λp J z=>?_⟩
 ·obtain⟨v,q⟩:=I.cell x c e;exact absurd (E4 q.lt (by rw[z];exact B)) (bg _)
 ·exact absurd (E4 (E3 (I.pin p J).1) (by rw[z];exact B)) (bg _)
structure Turn(P:aM)(w:aJ)(K:bS)(tg:aH)(J:It)(fp:List aB)(it:aB)(tn:Nat->Heap->Prop):Prop where
 mem:it∈fp
 obj:∀ i h,tn i h->∀ b∈fp,∃ o,h.get? b=zo o/\∀ v,o.data≠.cell v
 keep:∀ i h h',tn i h->(∀ b∈fp,∀ o,h.get? b=zo o->h'.get? b=zo o)->tn i h'
 item:∀ (X:Cx),X.prog=P->X.w=w->X.K=K->X.calm=zi->∀ (i:Nat) (pins:zAA) (s:aD) (σ:St) (H:Hp) (E:zAC),Inv X pins σ H s->(∀ b∈fp,Q4f X pins H b)->tn i s.heap->J.go i H ->
  aF (aI P w) X.A (ag (.ref it)) (λr s1=>∃ u,r=zo u /\
   aF (aI P w) X.A (letOwnedTupleGo tg (.ref it) u) (λ_ s2=>∃ x H',Inv X pins σ H' s2/\RelV x u/\J.yld i H x H'/\tn (i + 1) s2.heap/\∀ b∈fp,H' b=zl) E s1) E s
 done:∀ (X:Cx),X.prog=P->X.w=w->X.K=K->X.calm=zi->∀ (i:Nat) (pins:zAA) (s:aD) (σ:St) (H:Hp) (E:zAC),Inv X pins σ H s->(∀ b∈fp,Q4f X pins H b)->tn i s.heap->J.stop i H ->
  aF (aI P w) X.A (ag (.ref it)) (λr s1=>r=zl/\Inv X pins σ H s1) E s
 self:∀ (A:aQ) (i:Nat) (s:aD) (Q:zAC) (E:zAC),tn i s.heap->Q (.ref it) s->aF (aI P w) A (pyIter (.ref it)) Q E s
abbrev TI:=St->Hp->(It->Hp->Prop)->Prop
def PIE(X:Cx)(pins:zAA)(σ:St)(tg:aH)(R:It->Hp->Prop)(itv:aA)(s2:aD):Prop:=
 ∃ (it:aB) (fp:List aB) (tn:Nat->Heap->Prop) (J:It) (H':Hp),itv=.ref it/\Inv X pins σ H' s2/\Turn X.prog X.w X.K tg J fp it tn/\tn 0 s2.heap/\(∀ b∈fp,Q4f X pins H' b)/\R J H'
def PI(X:Cx)(tg iter:aH)(wi:TI):Prop:=
 ∀ (pins:zAA) (s:aD) (σ:St) (H:Hp) (R:It->Hp->Prop),Inv X pins σ H s->wi σ H R ->
  aF (aI X.prog X.w) X.A (aL iter X.env) (λv s1=>aF (aI X.prog X.w) X.A (pyIter v) (PIE X pins σ tg R) X.xe s1) X.xe s
theorem Q95 {M:Model} {A:aQ} {E:zAC} {tg:aH} {u:aA} {o:Obj} {n:String} {vs:Array aA} {Q:Unit->aD->Prop} (J:s.heap.get? it=zo o) (I:o.cls=.type n) (hd:o.data=.fields vs)
  (hn:["enumerate", "zip", "dict_itemiterator", "dict_reverseitemiterator", "odict_iterator", "itertools.zip_longest", "itertools.pairwise"].contains n=zb) (B:Q () s):aF M A (letOwnedTupleGo tg (.ref it) u) Q E s:=by
 unfold letOwnedTupleGo;cases tg <;> first
  | exact wpAny_pure B
  | (cases u <;> first
    | exact wpAny_pure B
    | (refine aC (wpAny_load J ?_)
       rw[I,hd];show aF M A (if(["enumerate", "zip", "dict_itemiterator", "dict_reverseitemiterator", "odict_iterator", "itertools.zip_longest", "itertools.pairwise"].contains n && vs[0]? == zo (ae _))=zi then _ else _) Q E s;rw[bP (by intro h;rw[hn,fo]at h;cases h)];exact wpAny_pure B))
def Itl(K:bS)(a:aB):It:=
 ⟨λi H=>∃ xs x,SqL K H a xs/\xs[i]?=zo x,λi H x H'=>H'=H/\∀ xs,SqL K H a xs->xs[i]?=zo x,λi H=>∃ xs,SqL K H a xs/\xs.length<=i⟩
def Itt(K:bS)(a:aB):It:=
 ⟨λi H=>∃ xs x,SqT K H a xs/\xs[i]?=zo x,λi H x H'=>H'=H/\∀ xs,SqT K H a xs->xs[i]?=zo x,λi H=>∃ xs,SqT K H a xs/\xs.length<=i⟩
def Itr(lo:Int)(n:Nat):It:=⟨λi _=>i < n,λi H x H'=>H'=H/\x=.int (lo + i),λi _=>n<=i⟩
theorem Qdc{w:aJ}(a it:aB):Turn P w K tg (Itl K a) [it] it (λi h=>h.IsListIter it a i) where
 mem:=by simp
 obj:=λi h st b B=>by
  have e:b=it:=by simpa using B
  subst e;obtain⟨o,e,c,d⟩:=st;exact⟨o,e,λv z=>by rw[d]at z;cases z⟩
 keep:=λi h h' st k=>st.at λo e=>k it (by simp) o e
 item:=by
  intro X hP Z hK hc i pins s σ H E I O st Y;subst hP Z hK;obtain⟨xs,x,J,hx⟩:=Y;obtain⟨its,rv,p,hz⟩:=I.list J;obtain⟨u,hu,ru⟩:=rv.get hx;obtain⟨f0,f1,f2,f3,U,f5⟩:=O it (by simp);refine wpAny_pyNext_list_item st p.isList (x:=u) (by simpa using hu) λh' st' sb=>?_
  have I1:Inv X pins σ H { s with heap:=h' }:=I.turned (t':=s.toks) (λb o B e=>(sb.2 b B).trans e) f0 f1 f3 U f5
  obtain⟨o,e,c,d⟩:=id st';exact⟨u,rfl,Q95 (s:={ s with heap:=h' }) e c d (by decide) ⟨x,H,I1,ru,⟨rfl,λys hy=>by rw[I.list_inj hy J];exact hx⟩,st',λb B=>(O b B).1⟩⟩
 done:=by
  intro X hP Z hK hc i pins s σ H E I O st Y;subst hP Z hK;obtain⟨xs,J,hx⟩:=Y;obtain⟨its,rv,p,hz⟩:=I.list J;obtain⟨f0,f1,f2,f3,U,f5⟩:=O it (by simp);have hl:=rv.length;exact wpAny_pyNext_list_end (I.ok.hd hc) st p.isList (by simp;omega) λh' eb=>⟨rfl,I.turned (t':=s.toks) (λb o B e=>eb b o B e) f0 f1 f3 U f5⟩
 self:=λ_ _ _ _ _ st h=>wpAny_pyIter_listiter st h
theorem Q9q{w:aJ}(a it:aB):Turn P w K tg (Itt K a) [it] it (λi h=>h.IsTupleIter it a i) where
 mem:=by simp
 obj:=λi h st b B=>by
  have e:b=it:=by simpa using B
  subst e;obtain⟨o,e,c,d⟩:=st;exact⟨o,e,λv z=>by rw[d]at z;cases z⟩
 keep:=λi h h' st k=>st.at λo e=>k it (by simp) o e
 item:=by
  intro X hP Z hK hc i pins s σ H E I O st Y;subst hP Z hK;obtain⟨xs,x,J,hx⟩:=Y;obtain⟨its,rv,p,hz⟩:=I.tuple J;obtain⟨u,hu,ru⟩:=rv.get hx;obtain⟨f0,f1,f2,f3,U,f5⟩:=O it (by simp);refine wpAny_pyNext_tuple_item st (show s.heap.IsTuple a its.toArray from p) (x:=u) (by simpa using hu) λh' st' sb=>?_
  have I1:Inv X pins σ H { s with heap:=h' }:=I.turned (t':=s.toks) (λb o B e=>(sb.2 b B).trans e) f0 f1 f3 U f5
  obtain⟨o,e,c,d⟩:=id st';exact⟨u,rfl,Q95 (s:={ s with heap:=h' }) e c d (by decide) ⟨x,H,I1,ru,⟨rfl,λys hy=>by rw[I.tuple_inj hy J];exact hx⟩,st',λb B=>(O b B).1⟩⟩
 done:=by
  intro X hP Z hK hc i pins s σ H E I O st Y;subst hP Z hK;obtain⟨xs,J,hx⟩:=Y;obtain⟨its,rv,p,hz⟩:=I.tuple J;obtain⟨f0,f1,f2,f3,U,f5⟩:=O it (by simp);have hl:=rv.length;exact wpAny_pyNext_tuple_end (I.ok.hd hc) st (show s.heap.IsTuple a its.toArray from p) (by simp;omega) λh' eb=>⟨rfl,I.turned (t':=s.toks) (λb o B e=>eb b o B e) f0 f1 f3 U f5⟩
 self:=λ_ _ _ _ _ st h=>wpAny_pyIter_tupleiter st h
theorem Q9r{w:aJ}(it:aB)(lo:Int)(n:Nat):Turn P w K tg (Itr lo n) [it] it (λi h=>IsRangeIter h it (lo + (i:Nat) * 1) ((n:Int) - (i:Nat)) 1) where
 mem:=by simp
 obj:=λi h st b B=>by
  have e:b=it:=by simpa using B
  subst e;exact⟨_,st,λv z=>by
   have z':Data.fields _=Data.cell v:=z;cases z'⟩
 keep:=λi h h' st k=>k it (by simp) _ st
 item:=by
  intro X O hw Y Z i pins s σ H E I J st hg;subst O hw Y;obtain⟨f0,f1,f2,f3,f4,U⟩:=J it (by simp);have W:=Walks.range (prog:=X.prog) (w:=X.w) (I.ok.hd Z) it lo 1 n;refine W.item i s _ _ hg st λv h' tk hv st' kk=>?_
  obtain⟨t,rfl⟩:=hv;have I1:Inv X pins σ H { s with heap:=h',toks:=tk }:=I.turned (λb o B e=>kk b o (by simpa using B) e) f0 f1 f3 f4 U
  refine⟨_,rfl,Q95 (s:={ s with heap:=h',toks:=tk }) (n := "range_iterator") st' rfl rfl (by decide) ⟨.int (lo + i),H,I1,⟨t,?_⟩,⟨rfl,rfl⟩,st',λb B=>(J b B).1⟩⟩
  rw[Int.mul_one]
 done:=by
  intro X O hw Y Z i pins s σ H E I J st hg;subst O hw Y;obtain⟨f0,f1,f2,f3,f4,U⟩:=J it (by simp);exact wpAny_pyNext_range_end (I.ok.hd Z) st (by have:n<=i:=hg;omega) λh' eb=>⟨rfl,I.turned (t':=s.toks) (λb o B e=>eb b o B e) f0 f1 f3 f4 U⟩
 self:=λ_ _ _ _ _ st h=>wpAny_pyIter_rangeiter st h
variable{tg:aH}
def Qw2(K:bS)(tl:TE):TI:=λσ H R=>tl σ H λx H1=>∃ a,x=.ref a/\(∃ xs,SqL K H1 a xs)/\R (Itl K a) H1
def Qyw(K:bS)(tl:TE):TI:=λσ H R=>tl σ H λx H1=>∃ a,x=.ref a/\(∃ xs,SqT K H1 a xs)/\R (Itt K a) H1
theorem Qm0(U:PE X l tl):PI X tg l (Qw2 X.K tl):=by
 intro pins s σ H R I h;refine thn (U pins s σ H _ I h) λv s1 ⟨x,H1,B,Z,J⟩=>?_
 obtain⟨a,e,⟨xs,Y⟩,q⟩:=J;subst e;cases Z;obtain⟨its,rv,p,hz⟩:=B.list Y;refine wpAny_pyIter_list p.isList ?_;refine⟨s1.heap.objs.size,[s1.heap.objs.size],_,_,H1,rfl,B.kept (t':=s1.toks) λb o e=>O4 _ e,Qdc a _,⟨_,E6 _ rfl,rfl,rfl⟩,λb O=>?_,q⟩
 have e:b=s1.heap.objs.size:=by simpa using O
 subst e;exact B.fpOk (O9 _) (B.hok.fresh (O9 _))
theorem Qqw(U:PE X l tl):PI X tg l (Qyw X.K tl):=by
 intro pins s σ H R I h;refine thn (U pins s σ H _ I h) λv s1 ⟨x,H1,B,Z,J⟩=>?_
 obtain⟨a,e,⟨xs,Y⟩,q⟩:=J;subst e;cases Z;obtain⟨its,rv,p,hz⟩:=B.tuple Y;refine bK (show s1.heap.IsTuple a its.toArray from p) ?_;refine⟨s1.heap.objs.size,[s1.heap.objs.size],_,_,H1,rfl,B.kept (t':=s1.toks) λb o e=>O4 _ e,Q9q a _,⟨_,E6 _ rfl,rfl,rfl⟩,λb O=>?_,q⟩
 have e:b=s1.heap.objs.size:=by simpa using O
 subst e;exact B.fpOk (O9 _) (B.hok.fresh (O9 _))
theorem Qgg {σ:St} {R:It->Hp->Prop} {E:zAC} {lo hi:Int} {t u v:Tok} {B:Nat} (I:Inv X pins σ H s) (h1:-(2 ^ 62)<=lo) (h2:lo < 2 ^ 62) (O:-(2 ^ 62)<=hi) (Y:hi < 2 ^ 62)
  (q:R (Itr lo (hi - lo).toNat) H):aF (aI X.prog X.w) X.A (pyIter (.ref s.heap.objs.size)) (PIE X pins σ tg R) E { s with heap:=s.heap.push { cls:=.type "range",data:=.fields #[.int lo t,.int hi u,.int 1 v] },toks:=B }:=by
 refine wpAny_pyIter_range (IsRange.new ..) (small_one h1 h2 O Y) ?_;have J:Inv X pins σ H { s with heap:=s.heap.push { cls:=.type "range",data:=.fields #[.int lo t,.int hi u,.int 1 v] },toks:=B }:=I.kept λb o e=>O4 _ e
 refine⟨(s.heap.push { cls:=.type "range",data:=.fields #[.int lo t,.int hi u,.int 1 v] }).objs.size,[(s.heap.push { cls:=.type "range",data:=.fields #[.int lo t,.int hi u,.int 1 v] }).objs.size],_,_,H,rfl,
  J.kept (t':=B) λb o e=>O4 _ e,Q9r _ lo (hi - lo).toNat,?_,λb U=>?_,q⟩
 ·have e1:lo + ((0:Nat):Int) * 1=lo:=by simp
  have e2:(((hi - lo).toNat:Nat):Int) - ((0:Nat):Int)=Builtin.Range.rangeSize lo hi 1:=by rw[rangeSize_one];split <;> omega
  show IsRangeIter _ _ (lo + ((0:Nat):Int) * 1) ((((hi - lo).toNat:Nat):Int) - ((0:Nat):Int)) 1;rw[e1,e2];exact E6 _ rfl
 ·have e:b=(s.heap.push { cls:=.type "range",data:=.fields #[.int lo t,.int hi u,.int 1 v] }).objs.size:=by simpa using U
  subst e;exact J.fpOk (O9 _) (J.hok.fresh (O9 _))
def Qw1(ta:TA):TI:=λσ H R=>ta σ H λvs H1=>∃ j:Int,vs=[.int j]/\-(2 ^ 62)<=j/\j < 2 ^ 62/\R (Itr 0 j.toNat) H1
theorem Qe4{a:aH}{ta:TA}{p:Pos}(hg:Gl X "range")(U:X.mg "range" = zl)(O:PA X [a] ta)(hs:aN [a] X.env=[(zb,aL a X.env)]:=by rfl):PI X tg (.Call (.Name "range" p) [a] [] pos) (Qw1 ta):=by
 intro pins s σ H R I h;refine Call_ (yn I hg U boot_range (dA (thn (O pos pins s σ H _ I h) λus s1 ⟨vs,H1,J,Y,B⟩=>?_) hs rfl))
 obtain⟨j,e,B,Z,q⟩:=B;subst e;cases Y with
 | cons r rr=>
  cases rr;obtain⟨t,rfl⟩:=r;exact call_range_1 (Qgg J (by omega) (by omega) B Z (by simpa using q))
def Qy9(wi:TI)(g:TG)(tb:TS):TS:=λD σ H=>wi σ H λJ H1=>∃ W:Nat->Nat->St->Hp->Prop,(∃ m,W 0 m σ H1)/\∀ i m σ H,W i m σ H ->
 (J.stop i H/\D.nx σ H)\/(J.go i H/\∃ N:St->Hp->Prop,(∀ σ' H',N σ' H'->∃ m',m' < m/\W (i + 1) m' σ' H')/\∀ x H',J.yld i H x H'->g x σ H' λσ2 H2=>tb { D with nx:=N,ct:=N,bk:=D.nx } σ2 H2)
def Q37(fp:List aB)(h:Heap):zAA:=fp.filterMap λb=>(h.get? b).map λo=>(b,o)
theorem Vz{o:Obj}(B:b∈fp)(e:h.get? b=zo o):(b,o)∈Q37 fp h:=cx.mpr ⟨b,B,by rw[e];rfl⟩
theorem Qe9{p:aB × Obj}(I:p∈Q37 fp h):p.1∈fp/\h.get? p.1=zo p.2:=by
 obtain⟨b,B,e⟩:=cx.mp I;cases q:h.get? b with
 | none=>rw[q]at e;cases e
 | some o=>
  rw[q]at e;have J:(b,o)=p:=bY e;subst J;exact⟨B,q⟩
theorem Inv.pinned{σ:St}(I:Inv X pins σ H s)(U:∀ b∈fp,Q4f X pins H b)(O:∀ b∈fp,∃ o,s.heap.get? b=zo o/\∀ v,o.data≠.cell v):Inv X (pins ++ Q37 fp s.heap) σ H s:=
 I.pins_of λp Z=>(D4.mp Z).elim (λz=>I.pin p (G7 _ z)) λz=>by
  obtain⟨B,e⟩:=Qe9 z;obtain⟨Y,f1,f2,_⟩:=U p.1 B;obtain⟨o,J,d⟩:=O p.1 B;rw[e]at J;cases J;exact⟨e,Y,f1,f2,d⟩
theorem Inv.unpinned{J:zAA}{σ:St}(I:Inv X (pins ++ J) σ H s):Inv X pins σ H s:=I.pins_of λp B=>I.pin p (G7 _ (M5 _ B))
theorem Qqs {iter:aH} {body:List aK} {wi:TI} {g:TG} {pos:Pos} (hp:PassesOwn (aI X.prog X.w) X.A X.env X.xe) (hc:X.calm=zi) (hi:PI X tg iter wi) (hg:PG X tg g) (hb:PSs X body tb)
  (hs:∀ x,aw iter X.env x=pure x:=by intro _;rfl):PS X (.For tg iter body [] pos) (Qy9 wi g tb):=by
 intro pins s σ H D I h;refine wpAny_For (thn (hi pins s σ H _ I h) λv s1 h1=>thn h1 λa9 s2 h2=>?_) hs
 obtain⟨it,fp,tn,J,H2,e,I2,T,a8,f2,W,⟨m0,w0⟩,turn⟩:=h2;subst e;have Z:∀ {H':Hp},(∀ b∈fp,H' b=zl)->∀ b∈fp,Q4f X pins H' b:=λhn b hb=>⟨hn b hb,(f2 b hb).2⟩
 refine codeAny_forLoop_any (λn s'=>∃ i a1 H',Inv X pins a1 H' s'/\tn i s'.heap/\(∀ b∈fp,H' b=zl)/\W i n a1 H') ?_ m0 ⟨0,σ,H2,I2,a8,λb hb=>(f2 b hb).1,w0⟩
 rintro n s3 ⟨i,Y,H3,I3,a3,a4,w3⟩;rcases turn i n Y H3 w3 with⟨stop,qn⟩ | ⟨go,N,hN,step⟩
 ·refine bF hp (thn (T.done X rfl rfl rfl hc i pins s3 Y H3 X.xe I3 (Z a4) a3 stop) λr s4 ⟨hr,I4⟩=>?_)
  subst hr;exact wpAny_execs_nil ⟨Y,H3,I4,qn⟩
 ·refine bF hp (thn (T.item X rfl rfl rfl hc i pins s3 Y H3 X.xe I3 (Z a4) a3 go) λr s4 ⟨u,hr,h4⟩=>?_)
  subst hr;refine bF hp (thn h4 λ_ s5 ⟨x,H5,I5,r5,y5,a2,a6⟩=>?_);have a7:=I5.pinned (Z a6) (T.obj _ _ a2);refine bF hp (thn (hg _ s5 Y H5 x u _ a7 r5 (step x H5 y5)) λ_ s6 ⟨a5,H6,I6,q6⟩=>?_)
  refine bF hp (thn (hb _ s6 a5 H6 _ I6 q6) λf s7 q7=>?_)
  have again:∀ {B:St} {U:Hp},Inv X (pins ++ Q37 fp s5.heap) B U s7->N B U->∃ m,m < n/\∃ i a1 H',Inv X pins a1 H' s7/\tn i s7.heap/\(∀ b∈fp,H' b=zl)/\W i m a1 H':=λ{B U} O n7=>by
   obtain⟨m',hm,w7⟩:=hN B U n7;refine⟨m',hm,i + 1,B,U,O.unpinned,T.keep _ _ _ a2 λb hb o e=>(O.pin (b,o) (G7 _ (G7 _ (Vz hb e)))).1,λb hb=>?_,w7⟩;obtain⟨o,e,d⟩:=T.obj _ _ a2 b hb;exact(O.pin (b,o) (G7 _ (G7 _ (Vz hb e)))).2.1
  cases f with
  | next=>obtain⟨B,U,O,n7⟩:=q7;exact again O n7
  | cont=>obtain⟨B,U,O,n7⟩:=q7;exact again O n7
  | brk=>obtain⟨B,U,O,q7⟩:=q7;exact⟨B,U,O.unpinned,q7⟩
  | ret v=>obtain⟨x7,B,U,O,r7,q7⟩:=q7;exact⟨x7,B,U,O.unpinned,r7,q7⟩
abbrev R2:=V->V->Hp->VK->Prop
variable{r:R2}
def OpR(X:Cx)(f:aA->aA->Sem aA)(r:R2):Prop:=
 ∀ (pins:zAA) (s:aD) (σ:St) (H:Hp) (x y:V) (v u:aA) (Q:VK),Inv X pins σ H s->RelV x v->RelV y u->r x y H Q ->
  aF (aI X.prog X.w) X.A (f v u) (EP X pins σ Q) X.xe s
def UnR(X:Cx)(f:aA->Sem aA)(r:V->Hp->VK->Prop):Prop:=
 ∀ (pins:zAA) (s:aD) (σ:St) (H:Hp) (x:V) (v:aA) (Q:VK),Inv X pins σ H s->RelV x v->r x H Q ->
  aF (aI X.prog X.w) X.A (f v) (EP X pins σ Q) X.xe s
def Uk(X:Cx)(f:aA)(r:List V->Hp->VK->Prop):Prop:=
 ∀ (pins:zAA) (s:aD) (σ:St) (H:Hp) (xs:List V) (us:List aA) (Q:VK),Inv X pins σ H s->Vals xs us->r xs H Q ->
  aF (aI X.prog X.w) X.A (call f us) (EP X pins σ Q) X.xe s
def tOp(r:R2)(ta tb:TE):TE:=λσ H Q=>ta σ H λx H1=>tb σ H1 λy H2=>r x y H2 Q
def tUn(r:V->Hp->VK->Prop)(ta:TE):TE:=λσ H Q=>ta σ H λx H1=>r x H1 Q
def rI(C:Int->Int->Prop)(g:Int->Int->V):R2:=λx y H Q=>∃ i j,x=.int i/\y=.int j/\C i j/\Q (g i j) H
def rI0(g:Int->Int->V):R2:=λx y H Q=>∃ i j,x=.int i/\y=.int j/\Q (g i j) H
def rU(g:Int->V):V->Hp->VK->Prop:=λx H Q=>∃ i,x=.int i/\Q (g i) H
variable{b c:aH}{ta tb tc:TE}
section
variable{a:aH}
theorem Qt6 (ha:PE X a ta) (hb:PE X b tb) {σ:St} {R:V->V->Hp->Prop} (I:Inv X pins σ H s)
  (h:ta σ H λx H1=>tb σ H1 λy H2=>R x y H2) {Q:zAC} {f:aA->aA->Sem aA}
  (hf:∀ v u O x y H2,Inv X pins σ H2 O->RelV x v->RelV y u->R x y H2->aF (aI X.prog X.w) X.A (f v u) Q X.xe O) :
  aF (aI X.prog X.w) X.A (aL a X.env) (λv J=>aF (aI X.prog X.w) X.A (aL b X.env) (λu B=>aF (aI X.prog X.w) X.A (f v u) Q X.xe B) X.xe J) X.xe s:=by
 refine thn (ha pins s σ H _ I h) λv s1 ⟨x,H1,I1,r1,U⟩=>?_
 refine thn (hb pins s1 σ H1 _ I1 U) λu O ⟨y,H2,Y,Z,q2⟩=>?_
 exact hf v u O x y H2 Y r1 Z q2
theorem Qny(B:OpR X (aX op) r)(Y:PE X a ta)(U:PE X b tb):PE X (.BinOp a op b pos) (tOp r ta tb):=by
 intro pins s σ H Q I h;exact wpAny_BinOp (Qt6 Y U I h λv u J x y H2 O Z ry q=>B pins J σ H2 x y v u Q O Z ry q)
theorem Quy{op:UnaryOp}{r:V->Hp->VK->Prop}(J:UnR X (unaryOp op) r)(U:PE X a ta):PE X (.UnaryOp op a pos) (tUn r ta):=by
 intro pins s σ H Q I h;exact UnaryOp_ (thn (U pins s σ H _ I h) λv s1 ⟨x,H1,O,Y,B⟩=>J pins s1 σ H1 x v Q O Y B)
theorem opI {f:aA->aA->Sem aA} {C:Int->Int->Prop} {g:Int->Int->Int}
  (rule:∀ (i j:Int) (t u:Tok) (s:aD) (Q:zAC) (E:zAC),C i j->Q (.int (g i j) s.toks) { s with toks:=s.toks + 1 }->aF (aI X.prog X.w) X.A (f (.int i t) (.int j u)) Q E s) :
  OpR X f (rI C λi j=>.int (g i j)):=by
 intro pins s σ H x y v u Q I J B h;obtain⟨i,j,rfl,rfl,O,q⟩:=h;obtain⟨t,rfl⟩:=J;obtain⟨t',rfl⟩:=B;exact rule i j t t' s _ _ O ⟨.int (g i j),H,I.tok _,⟨_,rfl⟩,q⟩
theorem Qva {f:aA->aA->Sem aA} {g:Int->Int->Int}
  (rule:∀ (i j:Int) (t u:Tok) (s:aD) (Q:zAC) (E:zAC),Q (.int (g i j) s.toks) { s with toks:=s.toks + 1 }->aF (aI X.prog X.w) X.A (f (.int i t) (.int j u)) Q E s) :
  OpR X f (rI0 λi j=>.int (g i j)):=by
 intro pins s σ H x y v u Q I J B h;obtain⟨i,j,rfl,rfl,q⟩:=h;obtain⟨t,rfl⟩:=J;obtain⟨t',rfl⟩:=B;exact rule i j t t' s _ _ ⟨.int (g i j),H,I.tok _,⟨_,rfl⟩,q⟩
theorem Qrp {f:aA->aA->Sem aA} {g:Int->Int->Bool}
  (rule:∀ (i j:Int) (t u:Tok) (s:aD) (Q:zAC) (E:zAC),Q (.bool (g i j)) s->aF (aI X.prog X.w) X.A (f (.int i t) (.int j u)) Q E s) :
  OpR X f (rI0 λi j=>.bl (g i j)):=by
 intro pins s σ H x y v u Q I J B h;obtain⟨i,j,rfl,rfl,q⟩:=h;obtain⟨t,rfl⟩:=J;obtain⟨t',rfl⟩:=B;exact rule i j t t' s _ _ ⟨.bl (g i j),H,I,rfl,q⟩
def Qz9(i j:Int):Prop:=0 < j/\j < 1073741824
def Qz8(i j:Int):Prop:=0<=j/\j<=1000000/\i.natAbs < 2 ^ 64
def CMul(i j:Int):Prop:=(-(2 ^ 64) < i/\i < 2 ^ 64)\/(-(2 ^ 64) < j/\j < 2 ^ 64)
theorem CMul.ok{i j:Int}(h:CMul i j):IntMulOk i j:=by
 rcases h with⟨h1,h2⟩ | ⟨h1,h2⟩
 ·exact .of_left (intBits_le_64 h1 h2)
 ·exact .of_right (intBits_le_64 h1 h2)
theorem Qrn:OpR X (aX .Add) (rI0 λi j=>.int (i + j)):=Qva λ_ _ _ _ _ _ _ q=>add_int q
theorem Qrf:OpR X (aX .Sub) (rI0 λi j=>.int (i - j)):=Qva λ_ _ _ _ _ _ _ q=>sub_int q
theorem Qri:OpR X (aX .Mult) (rI CMul λi j=>.int (i * j)):=opI λ_ _ _ _ _ _ _ B q=>mul_int q B.ok
theorem Qmd:OpR X (aX .FloorDiv) (rI Qz9 λi j=>.int (i / j)):=opI λi j _ _ _ _ _ B q=>by
 have h1:(0:Int) < j:=B.1;have h2:j < 1073741824:=B.2;exact floordiv_int (by omega) (by rw[Int.fdiv_eq_ediv_of_nonneg i (by omega)];exact q) (.inl (PyProof.noPylong_small (by omega)))
theorem Qrj:OpR X (aX .Mod) (rI (λ_ j=>0 < j) λi j=>.int (i % j)):=opI λi j _ _ _ _ _ B q=>by
 have h1:(0:Int) < j:=B;exact mod_int' (by omega) (by rw[Int.fmod_eq_emod_of_nonneg i (by omega)];exact q)
theorem Qrh:OpR X (aX .Pow) (rI Qz8 λi j=>.int (i ^ j.toNat)):=opI λ_ _ _ _ _ _ _ B q=>pow_int_small B.1 B.2.1 B.2.2 q
theorem unI {f:aA->Sem aA} {g:Int->Int}
  (rule:∀ (i:Int) (t:Tok) (s:aD) (Q:zAC) (E:zAC),Q (.int (g i) s.toks) { s with toks:=s.toks + 1 }->aF (aI X.prog X.w) X.A (f (.int i t)) Q E s) :
  UnR X f (rU λi=>.int (g i)):=by
 intro pins s σ H x v Q I B h;obtain⟨i,rfl,q⟩:=h;obtain⟨t,rfl⟩:=B;exact rule i t s _ _ ⟨.int (g i),H,I.tok _,⟨_,rfl⟩,q⟩
theorem Qpi:UnR X (unaryOp .USub) (rU λi=>.int (-i)):=unI λ_ _ _ _ _ q=>neg_int q
end
section
variable{a:aH}
theorem Qb4{σ:St}{Q:VK}{k B:Bool}(I:Inv X pins σ H s)(q:Q (.bl k) H)(e:k=B):EP X pins σ Q (.bool B) s:=by
 subst e;exact⟨.bl k,H,I,rfl,q⟩
theorem Qv7:OpR X (aR .Lt) (rI0 λi j=>.bl (decide (i < j))):=Qrp λ_ _ _ _ _ _ _ q=>lt_int q
theorem Qv8:OpR X (aR .LtE) (rI0 λi j=>.bl (decide (i<=j))):=Qrp λ_ _ _ _ _ _ _ q=>le_int q
theorem Qv9:OpR X (aR .Gt) (rI0 λi j=>.bl (decide (j < i))):=Qrp λ_ _ _ _ _ _ _ q=>gt_int q
theorem Qrm:OpR X (aR .Is) (λx y H Q=>y=.non/\Q (.bl (decide (x=.non))) H):=by
 intro pins s σ H x y v u Q I B J h;obtain⟨rfl,q⟩:=h;cases J;refine is_none_gen (Qb4 I q ?_);cases x <;> first
  | (cases B;rfl)
  | (obtain⟨t,rfl⟩:=B;rfl)
theorem Qmc:OpR X (aR .IsNot) (λx y H Q=>y=.non/\Q (.bl (!decide (x=.non))) H):=by
 intro pins s σ H x y v u Q I B J h;obtain⟨rfl,q⟩:=h;cases J;refine isnot_none_gen (Qb4 I q ?_);cases x <;> first
  | (cases B;rfl)
  | (obtain⟨t,rfl⟩:=B;rfl)
theorem OpR.or{O:R2}(h:OpR X f r)(h':OpR X f O):OpR X f (λx y H Q=>r x y H Q\/O x y H Q):=by
 intro pins s σ H x y v u Q I J B q;rcases q with q | q
 ·exact h pins s σ H x y v u Q I J B q
 ·exact h' pins s σ H x y v u Q I J B q
theorem Qam(b:aH){op:CmpOp}(h:op≠.In:=by decide)(h2:op≠.NotIn:=by decide):bI op b=zb:=by
 have e1:(op == CmpOp.In)=zb:=by cases op <;> first | rfl | exact absurd rfl h
 have e2:(op == CmpOp.NotIn)=zb:=by cases op <;> first | rfl | exact absurd rfl h2
 cases b <;> simp[bI,e1,e2]
theorem Qm6{op:CmpOp}(B:OpR X (aR op) r)(Y:PE X a ta)(U:PE X b tb)(hm:bI op b=zb):PE X (.Compare a [op] [b] pos) (tOp r ta tb):=by
 intro pins s σ H Q I h;exact wpAny_Compare1 (Qt6 Y U I h λv u J x y H2 O Z ry q=>B pins J σ H2 x y v u Q O Z ry q) hm
def Qnr(t:TE):TT:=λσ H Q=>t σ H λx H'=>∃ k,x=.bl k/\Q k H'
theorem Qkp{op:CmpOp}(J:OpR X (aR op) r)(ha:PE X a ta)(hb:PE X b tb)(hm:bI op b=zb):PT X (.Compare a [op] [b] pos) (Qnr (tOp r ta tb)):=by
 intro pins s σ H Q I h;refine wpAny_isTrue_Compare1 (thn (ha pins s σ H _ I h) λv s1 ⟨x,H1,I1,r1,B⟩=>thn (hb pins s1 σ H1 _ I1 B) λu s2 ⟨y,H2,I2,Y,q2⟩=>
  thn (J pins s2 σ H2 x y v u _ I2 r1 Y q2) λc s3 ⟨z,H3,O,Z,k,e,U⟩=>?_) hm
 subst e;cases Z;exact av ⟨H3,O,U⟩
def Q9v(r r':R2)(ta tb tc:TE):TE:=λσ H Q=>ta σ H λx H1=>tb σ H1 λy H2=>r x y H2 λz H3=>∃ k,z=.bl k /\
 (if k=zi then tc σ H3 λw' H4=>r' y w' H4 Q else Q (.bl zb) H3)
theorem Qh8 {op B:CmpOp} {Y:R2} (ho:OpR X (aR op) r) (J:OpR X (aR B) Y) (ha:PE X a ta) (hb:PE X b tb) (hc:PE X c tc)
  (hm:lastMarks [op,B] [b,c]=zb:=by with_unfolding_all rfl):PE X (.Compare a [op,B] [b,c] pos) (Q9v r Y ta tb tc):=by
 intro pins s σ H Q I h;refine Compare_chain (thn (ha pins s σ H _ I h) λv s1 ⟨x,H1,I1,r1,q1⟩=>chain_link (thn (hb pins s1 σ H1 _ I1 q1) λu s2 ⟨y,H2,I2,Z,q2⟩=>
  thn (ho pins s2 σ H2 x y v u _ I2 r1 Z q2) λd s3 ⟨z,H3,U,r3,k,e,O⟩=>?_)) hm
 subst e;cases r3;refine av ?_;cases k with
 | false=>exact ite_ff ⟨.bl zb,H3,U,rfl,O⟩
 | true=>exact ite_tt (chain_last (thn (hc pins s3 σ H3 _ U O) λw' s4 ⟨z',H4,I4,r4,q4⟩=>J pins s4 σ H4 y z' u w' Q I4 Z r4 q4))
theorem Qgq {op B:CmpOp} {Y:R2} (ho:OpR X (aR op) r) (J:OpR X (aR B) Y) (ha:PE X a ta) (hb:PE X b tb) (hc:PE X c tc)
  (hm:lastMarks [op,B] [b,c]=zb:=by with_unfolding_all rfl):PT X (.Compare a [op,B] [b,c] pos) (Qnr (Q9v r Y ta tb tc)):=by
 intro pins s σ H Q I h;refine isTrue_chain (thn (ha pins s σ H _ I h) λv s1 ⟨x,H1,I1,r1,q1⟩=>test_link (thn (hb pins s1 σ H1 _ I1 q1) λu s2 ⟨y,H2,I2,Z,q2⟩=>
  thn (ho pins s2 σ H2 x y v u _ I2 r1 Z q2) λd s3 ⟨z,H3,U,r3,k,e,O⟩=>?_)) hm
 subst e;cases r3;refine av ?_;cases k with
 | false=>
  obtain⟨k',e',q'⟩:=O;cases e';exact ite_ff ⟨H3,U,q'⟩
 | true=>
  refine ite_tt (test_last (thn (hc pins s3 σ H3 _ U O) λw' s4 ⟨z',H4,I4,r4,q4⟩=>thn (J pins s4 σ H4 y z' u w' _ I4 Z r4 q4) λd' s5 ⟨z2,H5,I5,r5,k2,e2,q5⟩=>?_))
  subst e2;cases r5;exact av ⟨H5,I5,q5⟩
theorem ym:(sizeLine:Nat) < 2 ^ 63:=by rw[sizeLine_eq];decide
theorem Qad:OpR X (aX .Add) (λx y H Q=>∃ i j,x=.str i/\y=.str j/\i.length + j.length<=sizeLine/\Q (.str (i ++ j)) H):=by
 intro pins s σ H x y v u Q I B J h;obtain⟨i,j,rfl,rfl,hz,q⟩:=h;obtain⟨t,rfl⟩:=B;obtain⟨t',rfl⟩:=J;exact add_str (λt' O=>⟨.str (i ++ j),H,I.tok _,⟨_,rfl⟩,q⟩) hz
theorem qy{x:V}(r:Vals [x] us):∃ u,us=[u]/\RelV x u:=by
 cases r with
 | cons B I=>cases I;exact⟨_,rfl,B⟩
theorem Qfg{x y:V}(r:Vals [x,y] us):∃ u B,us=[u,B]/\RelV x u/\RelV y B:=by
 cases r with
 | cons J O=>
  cases O with
  | cons I r4=>cases r4;exact⟨_,_,rfl,J,I⟩
theorem Qf3(J:X.calm=zi):Uk X (.builtin "max") (λxs H Q=>∃ i j,xs=[.int i,.int j]/\Q (.int (if j > i then j else i)) H):=by
 intro pins s σ H xs us Q I r h;obtain⟨i,j,rfl,q⟩:=h;obtain⟨u,U,rfl,⟨t,rfl⟩,⟨t',rfl⟩⟩:=Qfg r;refine max_two_ints (I.ok.hd J) λh' O k=>⟨_,H,I.kept k,?_,q⟩
 by_cases B:j > i
 ·rw[bO B,bO B];exact⟨_,rfl⟩
 ·rw[bP B,bP B];exact⟨_,rfl⟩
theorem Qf1(J:X.calm=zi):Uk X (.builtin "min") (λxs H Q=>∃ i j,xs=[.int i,.int j]/\Q (.int (if j < i then j else i)) H):=by
 intro pins s σ H xs us Q I r h;obtain⟨i,j,rfl,q⟩:=h;obtain⟨u,U,rfl,⟨t,rfl⟩,⟨t',rfl⟩⟩:=Qfg r;refine min_two_ints (I.ok.hd J) λh' O k=>⟨_,H,I.kept k,?_,q⟩
 by_cases B:j < i
 ·rw[bO B,bO B];exact⟨_,rfl⟩
 ·rw[bP B,bP B];exact⟨_,rfl⟩
end
structure ObjM(h:Heap)(x dx C:aB)(mA:zAD):Prop where
 obj:h.get? x=zo (eO C dx)
 ns:h.Ns1 dx mA
 ne:dx≠x
theorem Qek(n:h.Ns1 dx mA):∃ I,h.get? dx=zo I/\∀ name,eQ name I=zo (mA name):=by
 obtain⟨o,es,ep,O,hd,J,_,Z⟩:=n;refine⟨o,O,λname=>?_⟩;have e:=Z name;unfold nsFind findBy at e;rw[<- Array.find?_toList]at e;unfold eQ;rw[hd];dsimp only
 split
 ·rename_i y q;rw[q]at e;exact congrArg zo e
 ·rename_i q;rw[q]at e;have a:es.toList.any (·.refKey)=zb:=by
   rw[dg];intro y U;obtain⟨z,t,B⟩:=J y (eK.mp U);simp[DictEntry.refKey,B]
  have Y:¬ es.toList.any (·.refKey)=zi:=by rw[a];exact F5
  rw[bP Y];exact congrArg zo e
theorem ObjM.look{C:aB}(I:ObjM h x dx C mA):∃ B,PySem.W.InstAt h x (eO C dx) C (zo B)/\∀ name,eQ name B=zo (mA name):=
 let ⟨B,J,O⟩:=Qek I.ns
 ⟨B,⟨I.obj,rfl,rfl,J⟩,O⟩
theorem RelO.some_of{o:Option aA}(r:RelO (zo v) o):∃ u,o=zo u/\RelV v u:=by
 cases o with
 | none=>exact(show False from r).elim
 | some u=>exact⟨u,rfl,r⟩
variable{C dx:aB}
section
variable{w:aJ}{fs fs':List (Str × V)}
theorem Qmy(hok:HOk P w H h)(e:H a=zo (.ins C dx fs)):∃ mA,ObjM h a dx C mA/\(∀ f,RelO (fs.lookup f) (mA f))/\fg mA (fs.map (·.1))/\fs.length<=1000/\H dx=zo (.own a):=by
 obtain⟨d,z,ne,ob,mA,n,r,q⟩:=(show ObjOk P w H h a (.ins C dx fs)from hok a _ e);exact⟨mA,⟨ob,n,ne⟩,r,q,z,d⟩
end
structure Cls(K:bS)(C:aB):Prop where
 pg:fq K C Str.empty=zi
 hd:PySem.W.hasDictIn K C=zi
 po:PySem.W.plainOver K C=zi
 sa:ft K (.ref C) "__setattr__" = zo (zo (.builtin "object.__setattr__"))
theorem Cls.get(c:Cls K C)(f:Str):fq K C f=zi:=c.pg
variable{A:aQ}{E:zAC}{Q:zAC}
section
variable{σ:St}{c:aA}{b:Bool}
inductive TyOf(K:bS)(H:Hp):V->aA->Prop where
 | non:TyOf K H .non (.type "NoneType")
 | bl (x:Bool):TyOf K H (.bl x) (.type "bool")
 | int (i:Int):TyOf K H (.int i) (.type "int")
 | str (x:Str):TyOf K H (.str x) (.type "str")
 | flt (x:UInt64):TyOf K H (.flt x) (.type "float")
 | lst {a:aB} {xs:List V} (e:H a=zo (.lst xs)):TyOf K H (.ref a) (.type "list")
 | frz {a:aB} {o:Obj} {xs:List V} (e:H a=zo (.frz o (.lst xs))):TyOf K H (.ref a) (.type "list")
 | tup {a:aB} {xs:List V} (e:H a=zo (.tup xs)):TyOf K H (.ref a) (.type "tuple")
 | dK {a:aB} {kvs:List (Key × V)} (e:H a=zo (.dK kvs)):TyOf K H (.ref a) (.type "dict")
 | dT {a:aB} {kvs:List (HK × V)} (e:H a=zo (.dT kvs)):TyOf K H (.ref a) (.type "dict")
 | ins {a C dx:aB} {fs:List (Str × V)} (e:H a=zo (.ins C dx fs)) (cl:Cls K C) (ha:ft K (.ref C) "__class__" = zo (zo (.builtin "object.__class__")))
   (hn:PySem.W.specialIn K (.builtin "object.__class__") "__get__" = zo (zo (.builtin "getset_descriptor.__get__"))) (htk:PySem.W.takesIn K (.builtin "object.__class__")=zo zi)
   (hm:PySem.W.mroIn K C (.type "object")=zo zi):TyOf K H (.ref a) (.ref C)
theorem Qen {x:V} {u t:aA} (I:Inv X pins σ H s) (B:RelV x u) (ty:TyOf X.K H x t) (e:eR X.K t c=zo b) (h:∀ tk,Q (.bool b) { s with toks:=tk }) :
  aF (aI X.prog X.w) A (call (.builtin "isinstance") [u,c]) Q E s:=by
 cases ty with
 | non=>cases (show u=bW from B);exact bo PySem.W.kitx_none I.kIn True.intro e (λz=>nomatch z) h
 | bl y=>cases (show u=cL y from B);exact bo PySem.W.kitx_bool I.kIn True.intro e (λz=>nomatch z) h
 | int i=>obtain⟨t,q⟩:=(show ∃ t,u=cJ i t from B);cases q;exact bo PySem.W.kitx_int I.kIn True.intro e (λz=>nomatch z) h
 | str y=>obtain⟨t,q⟩:=(show ∃ t,u=cW y t from B);cases q;exact bo PySem.W.kitx_str I.kIn True.intro e (λz=>nomatch z) h
 | flt y=>obtain⟨t,q⟩:=(show ∃ t,u=fe y t from B);cases q;exact bo PySem.W.kitx_float I.kIn True.intro e (λz=>nomatch z) h
 | @lst a xs U=>
  cases (show u=bX a from B);obtain⟨_,_,n,_,h1⟩:=(show ObjOk X.prog X.w H s.heap a (.lst xs)from I.hok a _ U);exact bo fw I.kIn ⟨_,h1,rfl⟩ e (λz=>nomatch z) h
 | @frz a ob xs U=>
  cases (show u=bX a from B);obtain⟨_,_,_,n,_,h1⟩:=(show ObjOk X.prog X.w H s.heap a (.frz ob (.lst xs))from I.hok a _ U);exact bo fw I.kIn ⟨_,h1,rfl⟩ e (λz=>nomatch z) h
 | @tup a xs U=>
  cases (show u=bX a from B);obtain⟨_,_,_,p⟩:=(show ObjOk X.prog X.w H s.heap a (.tup xs)from I.hok a _ U);obtain⟨o,h1,h2,_⟩:=p;exact bo PySem.W.kitx_tuple I.kIn ⟨o,h1,h2⟩ e (λz=>nomatch z) h
 | @dK a Y U=>
  cases (show u=bX a from B);obtain⟨_,_,vs,_,p⟩:=(show ObjOk X.prog X.w H s.heap a (.dK Y)from I.hok a _ U);obtain⟨o,es,ep,h1,h2,_⟩:=p;exact bo fx I.kIn ⟨o,h1,h2.1⟩ e (λz=>nomatch z) h
 | @dT a Y U=>
  cases (show u=bX a from B);obtain⟨_,_,xs,_,o,es,ep,h1,h2,_⟩:=(show ObjOk X.prog X.w H s.heap a (.dT Y)from I.hok a _ U);exact bo fx I.kIn ⟨o,h1,h2.1⟩ e (λz=>nomatch z) h
 | @ins a C dx fs U cl ha hn Z hm=>
  cases (show u=bX a from B);obtain⟨mA,O,_⟩:=Qmy I.hok U;obtain⟨od,J,_⟩:=O.look;exact bo (PySem.W.kitx_own (cl.get _) cl.hd ha hn Z hm) I.kIn J e (λz=>nomatch z) h
end
structure Room(k:Nat)(A:aQ):Prop where
 hd:A.handled=zl
 dp:A.depth + 3 * k + 5 < recursionLimit
 un:A.units + 16 * k + 200 < aP
theorem Room.mono{j:Nat}(r:Room k A)(h:j<=k):Room j A:=⟨r.hd,by have:=r.dp;omega,by have:=r.un;omega⟩
theorem Room.deeper(r:Room (k + 1) A)(env:Env):Room k (A.deeper env):=
 ⟨r.hd,by have:=r.dp;show A.depth + 1 + 3 * k + 5 < _;omega,by have:=r.un;show A.units + 3 + 16 * k + 200 < _;omega⟩
theorem Room.depth(r:Room k A):A.depth < recursionLimit:=by have:=r.dp;omega
theorem Room.units(r:Room k A):A.units + 64 < aP:=by have:=r.un;omega
def Qy6:TA:=λ_ H Q=>Q [] H
def Qu9(ta:TE)(tr:TA):TA:=λσ H Q=>ta σ H λx H1=>tr σ H1 λxs H2=>Q (x :: xs) H2
variable{es:List aH}
section
variable{e:aH}{t:TA}
theorem Q6q:PA X [] Qy6:=λ_ _ _ _ H Q I h=>Calls.spliced_nil ⟨[],H,I,.nil,h⟩
theorem xx(Y:PE X e te)(Z:PA X es t)(hs:aN (e :: es) X.env=(zb,aL e X.env) :: aN es X.env:=by rfl):PA X (e :: es) (Qu9 te t):=by
 intro pos pins s σ H Q I h;rw[hs];show aF _ _ (spliced ((zb,aL e X.env) :: aY pos (aN es X.env))) _ _ s;refine Calls.spliced_cons (thn (Y pins s σ H _ I h) λu s1 ⟨x,H1,U,r1,B⟩=>?_)
 exact thn (Z pos pins s1 σ H1 _ U B) λus s2 ⟨xs,H2,J,O,q2⟩=>⟨x :: xs,H2,J,.cons r1 O,q2⟩
def Qy2(t:TA):TE:=λσ H Q=>t σ H λxs H1=>xs.length<=sizeLine/\∀ p,H1 p=zl->Q (.ref p) (upd H1 p (.tup xs))
def Qy7(t:TA):TE:=λσ H Q=>t σ H λxs H1=>xs.length<=sizeLine/\∀ p,H1 p=zl->Q (.ref p) (upd H1 p (.lst xs))
theorem Qr0{x1}(h:PA X es t):PE X (.Tuple es x1 pos) (Qy2 t):=by
 intro pins s σ H Q I J;refine wpAny_Tuple_spliced (thn (h pos pins s σ H _ I J) λus s1 ⟨xs,H1,B,r,z,q⟩=>⟨by rw[<- r.length];exact z,?_⟩)
 have O:H1 s1.heap.objs.size=zl:=B.hok.fresh (O9 _);refine⟨.ref s1.heap.objs.size,upd H1 s1.heap.objs.size (.tup xs),B.laid (t':=s1.toks) (λb u e=>O4 _ e) (O9 _) ?_,rfl,q _ O⟩;exact⟨z,us,r,⟨_,E6 _ rfl,rfl,_,rfl⟩⟩
theorem Qh3(h:PA X es t):PE X (.List es pos) (Qy7 t):=by
 intro pins s σ H Q I J;refine wpAny_List_spliced (thn (h pos pins s σ H _ I J) λus s1 ⟨xs,H1,B,r,z,q⟩=>⟨by rw[<- r.length];exact z,?_⟩)
 have O:H1 s1.heap.objs.size=zl:=B.hok.fresh (O9 _);refine⟨.ref s1.heap.objs.size,upd H1 s1.heap.objs.size (.lst xs),B.laid (t':=s1.toks) (λb u e=>O4 _ e) (O9 _) ?_,rfl,q _ O⟩;exact⟨z,us,0,r,E6 _ rfl⟩
end
abbrev Sp:=List V->Hp->VK->XK->Prop
abbrev CXT:=List Env->Hp->aD->XK->aA->aD->Prop
structure Env0(P:aM)(w:aJ)(K:bS)(mg:zAD)(base:Heap)(A:aQ)(outer:List Env)(s:aD)(H:Hp):Prop where
 frames:A.frames=zo outer
 mod:Mod K mg base
 bs:∀ b o,base.get? b=zo o->s.heap.get? b=zo o/\H b=zl
 bsz:base.objs.size<=s.heap.objs.size
 funs:s.heap.FunFrames base outer
 frf:∀ b∈frs outer,H b=zl
 hok:HOk P w H s.heap
 bare:AllBare s.gens
def CE(outer:List Env)(P:aM)(w:aJ)(H:Hp)(s:aD)(Q:VK)(u:aA)(s':aD):Prop:=
 ∃ v H',s'.os=s.os/\AllBare s'.gens/\Un (frs outer) [] H H' s.heap s'.heap/\HOk P w H' s'.heap/\RelV v u/\Q v H'
def CR(CX:CXT)(outer:List Env)(P:aM)(w:aJ)(H:Hp)(s:aD)(Q:VK)(E:XK)(r:Result)(s':aD):Prop:=
 match r with
 | .ok (.ret u)=>CE outer P w H s Q u s'
 | .ok _=>False
 | .error e=>CX outer H s E e s'
structure FnOk(P:aM)(w:aJ)(K:bS)(mg:zAD)(base:Heap)(CX:CXT)(k:Nat)(f:aB)(fd:aO)(ps:List Str)(sp:Sp):Prop where
 len:∀ vs H Q E,sp vs H Q E->vs.length=ps.length
 run:∀ (A:aQ) (outer:List Env) (s:aD) (H:Hp) (args:Args) (us:List aA) (vs:List V) (Q:VK) (E:XK),Room k A->Env0 P w K mg base A outer s H->BindsTo s fd args (ps.zip us)->Vals vs us->sp vs H Q E ->
  codeAny (aI P w) A (.call (.ref f) args) (CR CX outer P w H s Q E) s
theorem FnOk.imp {w:aJ} {base:Heap} {CX:CXT} {f:aB} {sp B:Sp} (F:FnOk P w K mg base CX k f fd ps sp)
  (h:∀ vs H Q E,B vs H Q E->sp vs H Q E):FnOk P w K mg base CX k f fd ps B:=
 ⟨λvs H Q E q=>F.len vs H Q E (h _ _ _ _ q),λA outer s H args us vs Q E U O I J hs=>F.run A outer s H args us vs Q E U O I J (h _ _ _ _ hs)⟩
variable{s':aD}
section
variable{σ:St}
theorem Inv.env0(I:Inv X pins σ H s):Env0 X.prog X.w X.K X.mg X.base X.A X.stack s H:=
 ⟨I.ok.frames,I.ok.mod,I.bs,F8 I.ok.bsz I.sz,I.stack,I.stkFree,I.hok,I.bare⟩
theorem Inv.after{Q:VK}{u:aA}(I:Inv X pins σ H s)(h:CE X.stack X.prog X.w H s Q u s'):EP X pins σ Q u s':=by
 obtain⟨v,H',os,bare,un,hok,r,q⟩:=h;obtain⟨J,g,d,t,B⟩:=s';obtain rfl:B=s.os:=os;exact⟨v,H',I.call (h':=J) (g':=g) (d':=d) (t':=t) (ch:=[]) un hok bare (λb z=>absurd z (by simp)),r,q⟩
end
def Qua(sp:Sp)(dvs:List V)(E:XK)(t:TA):TE:=λσ H Q=>t σ H λvs H1=>sp (vs ++ dvs) H1 Q E
def Binds(K:bS)(fd:aO)(ps:List Str)(ds:List aA):Prop:=
 ∀ (s:aD) (us:List aA),K.In s.heap->(us ++ ds).length=ps.length->BindsTo s fd ⟨us,[]⟩ (ps.zip (us ++ ds))
theorem Binds.all(h:∀ us:List aA,us.length=ps.length->bindArgs fd ⟨us,[]⟩=pure (ps.zip us)):Binds K fd ps []:=λs us _ B=>by
 rw[G6]at B ⊢;exact .of_eq (h us B)
def Q4e(CX:CXT)(X:Cx)(E:XK):Prop:=∀ (pins:zAA) (σ:St) (H:Hp) (s:aD) (e:aA) (s':aD),Inv X pins σ H s->CX X.stack H s E e s'->X.xe e s'
variable{CX:CXT}{k:Nat}{f:aB}{fd:aO}{ps:List Str}{sp:Sp}{dvs:List V}{ds:List aA}{m:Str}{p apos:Pos}
section
variable{E:XK}{x:Str}{e o:aH}{t:TA}
theorem Qqg {pins:zAA} {σ:St} {H:Hp} {s:aD} {Q:VK} {us:List aA} {vs:List V} (F:FnOk X.prog X.w X.K X.mg X.base CX k f fd ps sp) (Y:Room k X.A) (U:Binds X.K fd ps ds) (hd:Vals dvs ds) (O:Q4e CX X E)
  (I:Inv X pins σ H s) (r:Vals vs us) (h:sp (vs ++ dvs) H Q E):aF (aI X.prog X.w) X.A (call (.ref f) us) (EP X pins σ Q) X.xe s:=by
 have J:Vals (vs ++ dvs) (us ++ ds):=r.append hd;have Z:(us ++ ds).length=ps.length:=by rw[<- J.length];exact F.len _ _ _ _ h
 refine wpAny_call (bL (F.run X.A X.stack s H ⟨us,[]⟩ (us ++ ds) (vs ++ dvs) Q E Y I.env0 (U s us I.kIn Z) J h) λr s' B=>?_)
 cases r with
 | error e=>exact O pins σ H s e s' I B
 | ok fl=>
  cases fl with
  | ret u=>exact I.after B
  | next=>exact False.elim B
  | brk=>exact False.elim B
  | cont=>exact False.elim B
theorem Qm7 (F:FnOk X.prog X.w X.K X.mg X.base CX k f fd ps sp) (hr:Room k X.A) (hg:Gl X x) (hm:X.mg x=zo (.ref f)) (U:cC X.K (.ref f)=zi) (Z:Binds X.K fd ps ds) (hd:Vals dvs ds) (Y:Q4e CX X E)
  (ha:PA X (e :: es) t) (J:(x == ("__debug__" : Str))=zb:=by decide) (he:aN (e :: es) X.env=(zb,aL e X.env) :: aN es X.env:=by rfl) (B:(aY pos (aN es X.env)).any (·.1)=zb:=by rfl) :
  PE X (.Call (.Name x p) (e :: es) [] pos) (Qua sp dvs E t):=by
 intro pins s σ H Q I h;refine wpAny_Call_Name_kw (Q72 I hg hm ?_ J);refine PySem.W.callWith_K (h₀:=X.base) I.ok.mod.kin U (thn (ha pos pins s σ H _ I h) λus s1 ⟨vs,H1,O,r,q⟩=>⟨O.kIn,?_⟩) he B
 exact Qqg F hr Z hd Y O r q
end
structure FnScope(N P:List Str)(sc:Scope):Prop where
 kind:sc.kind=.function
 co:sc.isCoroutine=zb
 gen:sc.isGenerator=zb
 nd:N.Nodup
 pre:N.take P.length=P
 par:∀ x∈P,sc.names.lookup x=zo .local\/sc.names.lookup x=zo .cell
 nofree:∀ y∈sc.names,y.2≠.free
theorem Q61{kindOf:Str->Option ar}{x:Str}:∀ {binds:List (Str × aA)} {m:zAD},(∀ v,(x,v)∉binds)->bindL kindOf binds m x=m x
 | [],_,_=>rfl
 | (n,v) :: r,m,h=>by
  unfold bindL;rw[Q61 λw B=>h w (O6 _ B)]
  split
  ·have:x≠n:=by rintro rfl;exact h v D3
   simp[this]
  ·rfl
theorem Q63{kindOf:Str->Option ar}{x:Str}:∀ {binds:List (Str × aA)} {m:zAD},(∀ v,(x,v)∉binds)->bindC kindOf binds m x=m x
 | [],_,_=>rfl
 | (n,v) :: r,m,h=>by
  unfold bindC;rw[Q63 λw B=>h w (O6 _ B)]
  split
  ·rfl
  ·have:x≠n:=by rintro rfl;exact h v D3
   simp[this]
theorem Q62 {kindOf:Str->Option ar} {x:Str} {v:aA}:∀ {P:List Str} {vs:List aA} {i:Nat} {m:zAD},P.Nodup->P[i]?=zo x->vs[i]?=zo v->kindOf x=zo .local ->
  bindL kindOf (P.zip vs) m x=zo v
 | [],_,_,_,_,h,_,_=>by simp at h
 | _ :: _,[],_,_,_,_,h,_=>by simp at h
 | p :: P,w :: vs,0,m,nd,h1,h2,B=>by
  simp at h1 h2;subst h1;subst h2;show bindL kindOf ((p,w) :: P.zip vs) m p=_;unfold bindL;rw[Q61 λv I=>(L8.mp nd).1 (cN I).1,bO B]
  simp
 | p :: P,w :: vs,i + 1,m,nd,h1,h2,B=>by
  show bindL kindOf ((p,w) :: P.zip vs) m x=_;unfold bindL;exact Q62 (i:=i) (L8.mp nd).2 (by simpa using h1) (by simpa using h2) B
theorem Q64 {kindOf:Str->Option ar} {x:Str} {v:aA}:∀ {P:List Str} {vs:List aA} {i:Nat} {m:zAD},P.Nodup->P[i]?=zo x->vs[i]?=zo v->kindOf x≠zo .local ->
  bindC kindOf (P.zip vs) m x=zo v
 | [],_,_,_,_,h,_,_=>by simp at h
 | _ :: _,[],_,_,_,_,h,_=>by simp at h
 | p :: P,w :: vs,0,m,nd,h1,h2,B=>by
  simp at h1 h2;subst h1;subst h2;show bindC kindOf ((p,w) :: P.zip vs) m p=_;unfold bindC;rw[Q63 λv I=>(L8.mp nd).1 (cN I).1,bP B]
  simp
 | p :: P,w :: vs,i + 1,m,nd,h1,h2,B=>by
  show bindC kindOf ((p,w) :: P.zip vs) m x=_;unfold bindC;exact Q64 (i:=i) (L8.mp nd).2 (by simpa using h1) (by simpa using h2) B
def start(N:List Str)(vs:List V):St:=vs.map zo ++ bV (N.length - vs.length) zl
def Qex(CX:CXT)(P:aM)(w:aJ)(K:bS)(mg:zAD)(base:Heap)(N:List Str)(qual:Str)(scope:Scope)(f:aB)(cd:aA)(A:aQ)(outer:List Env)(s:aD)(H:Hp)(E:XK):Cx where
 prog:=P
 w:=w
 K:=K
 mg:=mg
 base:=base
 A:=A.deeper (envOfC qual scope s.heap.objs.size f cd)
 N:=N
 s₀:=s
 H₀:=H
 env:=envOfC qual scope s.heap.objs.size f cd
 outer:=outer
 stack:=envOfC qual scope s.heap.objs.size f cd :: outer
 ex:=[]
 calm:=zi
 fn:=λ_=>zi
 pn:=[]
 xe:=λe s'=>aF (aI P w) (A.deeper (envOfC qual scope s.heap.objs.size f cd)) (leaving (envOfC qual scope s.heap.objs.size f cd) e) (λ_ s''=>CX outer H s E e s'') (λe' s''=>CX outer H s E e' s'') s'
theorem Q9g{sc:Scope}{x:Str}(h:sc.names.lookup x=zo .cell):∃ c,(ah n sc.names []).lookup x=zo c:=by
 have q:=eS sc.names n [] (.inl h);exact fy.mp q
theorem Qep {CX:CXT} {P:aM} {w:aJ} {K:bS} {mg:zAD} {base:Heap} {N ps:List Str} {qual:Str} {scope:Scope} {f:aB} {cd:aA} {A:aQ} {outer:List Env} {s s1:aD} {H:Hp} {E:XK} {us:List aA} {vs:List V}
  (S:FnScope N ps scope) (hd:A.handled=zl) (B:Env0 P w K mg base A outer s H) (hl:vs.length=ps.length) (r:Vals vs us)
  (x:InCallC s s.heap.objs.size (bindL (envOfC qual scope s.heap.objs.size f cd).kindOf (ps.zip us) λ_=>zl) (ah (s.heap.objs.size + 1) scope.names []) (bindC (envOfC qual scope s.heap.objs.size f cd).kindOf (ps.zip us) λ_=>zl) s1) :
  Inv (Qex CX P w K mg base N qual scope f cd A outer s H E) [] (start N vs) H s1:=by
 have a1:ps.length<=N.length:=by have:=congrArg cO S.pre;rw[ca]at this;omega
 obtain⟨h1,tk,rfl,Y⟩:=x.done;have J:∀ b:aB,b∉(Qex CX P w K mg base N qual scope f cd A outer s H E).ex:=λb z=>absurd (show b∈([]:List aB)from z) (by simp)
 refine⟨⟨B.mod,S.kind,rfl,rfl,O9 _,λy z c h1 h2=>?_,λy I=>?_,λy c _ h=>?_,λ_=>hd,Around.frames_deeper B.frames,.inr ⟨rfl,rfl⟩,λb z=>absurd z (J b),B.bs,B.bsz,λb _ _=>J b,λb z=>absurd z (J b),B.funs,B.frf⟩,
  rfl,B.bare,Un.kept Y,⟨_,x.toInCall.ns,λi y v h1 h2 h3=>?_⟩,λy c h=>⟨_,x.cell y c h⟩,B.hok.fresh (O9 _),λy c h=>?_,λp U=>absurd (show p∈([]:zAA)from U) (by simp),B.hok.kept Y,?_⟩
 ·exact name_of_addr x.apart (bz h1) (bz h2)
 ·have I:scope.names.lookup y=zo .cell\/scope.names.lookup y=zo .free:=I;rcases I with I | I
  ·exact Q9g I
  ·exact absurd rfl (S.nofree _ (bz I))
 ·exact cZ (x.above y c (bz h))
 ·have hi:i < vs.length:=by
   unfold start at h2
   by_cases hi:i < vs.length
   ·exact hi
   ·rw[D7 (by simpa using hi)]at h2;rw[gA]at h2
    split at h2 <;> cases h2
  have ha:vs[i]?=zo v:=by
   unfold start at h2;rw[O3 (by simpa using hi),F4]at h2;cases e:vs[i]? with
   | none=>rw[e]at h2;cases h2
   | some a=>rw[e]at h2;cases h2;rfl
  obtain⟨u,Z,rv⟩:=r.get ha;have U:ps[i]?=zo y:=by
   rw[<- S.pre,List.getElem?_take_of_lt (by omega)];exact h1
  have O:ps.Nodup:=by rw[<- S.pre];exact S.nd.sublist (List.take_sublist _ _)
  refine⟨u,rv,?_⟩;rcases S.par y (F0 U)with k | k
  ·exact .inl ⟨k,Q62 O U Z k⟩
  ·obtain⟨c,e⟩:=Q9g (n:=s.heap.objs.size + 1) k;refine .inr ⟨.inl k,c,e,?_⟩;have q:=x.cell y c e;rw[Q64 O U Z (by show scope.names.lookup y≠_;rw[k];decide)]at q;exact q
 ·exact B.hok.fresh (cZ (x.above y c (bz h)))
 ·unfold start;show _=N.length;rw[O5,O0,List.length_replicate];omega
theorem Qwm {CX:CXT} {P:aM} {w:aJ} {K:bS} {mg:zAD} {base:Heap} {k:Nat} {f:aB} {name qual:Str} {O:Arguments} {body:List aK} {scope:Scope} {dV kV a2 pm B ct oc:aA} {an od:Option aB}
  {a3:Array (Option aA)} {N ps:List Str} {sp:Sp} (lk:K.lookup f=zo ⟨oc,od,.func (bc name qual O body scope dV kV a2 pm an B ct),a3⟩) (a4:cP K B qual=zi) (S:FnScope N ps scope)
  (len:∀ vs H Q E,sp vs H Q E->vs.length=ps.length)
  (Y:∀ (A:aQ) (outer:List Env) (s:aD) (H:Hp) (vs:List V) (Q:VK) (E:XK),Room k (A.deeper (envOfC qual scope s.heap.objs.size f B))->sp vs H Q E ->
   ∃ t,PSs (Qex CX P w K mg base N qual scope f B A outer s H E) body t/\t { nx:=λ_ H'=>Q .non H',rt:=Q } (start N vs) H) :
  FnOk P w K mg base CX (k + 1) f (bc name qual O body scope dV kV a2 pm an B ct) ps sp:=by
 refine⟨len,λA outer s H args us vs Q E hr e0 hb r a1=>?_⟩;have hl:=len _ _ _ _ a1;have KX:K.In s.heap:=e0.mod.kin.keeps λb o e=>(e0.bs b o e).1
 have lim:s.heap.NoLimit:=e0.mod.nolimit.keeps λb o e=>(e0.bs b o e).1
 have Z:∀ y∈ps.zip us,scope.names.lookup y.1=zo .local\/(scope.names.lookup y.1=zo .cell/\((ah (s.heap.objs.size + 1) scope.names []).lookup y.1).isSome=zi):=λ⟨n,v⟩ hy=>by
  rcases S.par n (cN hy).1 with q | q
  ·exact .inl q
  ·exact .inr ⟨q,eS _ _ _ (.inl q)⟩
 refine codeAny_call_function hr.depth (KX _ _ lk) rfl S.co S.gen rfl (PySem.W.codeRec_of KX a4) (hb _ _ _ _ ?_);refine wpAny_newFunctionEnv_cells S.kind Z λenv he s1 x=>?_
 subst he;refine⟨lim.keeps x.toInCall.keep,codeAny_func ?_⟩;obtain⟨t,ht,hq⟩:=Y A outer s H vs Q E (hr.deeper _) a1;have I:Inv (Qex CX P w K mg base N qual scope f B A outer s H E) [] (start N vs) H s1:=Qep S hr.hd e0 hl r x;refine ao (ht [] s1 (start N vs) H _ I hq) (λfl s' hs=>?_) λe s' hs=>hs
 have fin:∀ {U:St} {H':Hp} {v:V} {u:aA},Inv (Qex CX P w K mg base N qual scope f B A outer s H E) [] U H' s'->RelV v u->Q v H'->CE outer P w H s Q u s':=
  λ{U H' v u} J rv q=>⟨v,H',J.os,J.bare,J.base,J.hok,rv,q⟩
 cases fl with
 | ret u=>
  obtain⟨v,U,H',J,rv,q⟩:=hs;exact fin J rv q
 | next=>
  obtain⟨U,H',J,q⟩:=hs;exact fin (v:=V.non) (u:=bW) J rfl q
 | brk=>
  obtain⟨_,_,_,q⟩:=hs;exact False.elim q
 | cont=>
  obtain⟨_,_,_,q⟩:=hs;exact False.elim q
variable{T:String}{r:List V->Hp->VK->Prop}
section
variable{x:Str}{e:aH}{t:TA}{id:String}
def tCB(r:List V->Hp->VK->Prop)(t:TA):TE:=λσ H Q=>t σ H λvs H1=>r vs H1 Q
theorem Q8a (hc:Uk X (.builtin id) r) (hg:Gl X x) (hm:X.mg x=zl) (Z:aW x=zo (.builtin id)) (Y:PA X (e :: es) t) (hn:x≠"__name__" := by decide) (J:(x == ("__debug__" : Str))=zb:=by decide)
  (he:aN (e :: es) X.env=(zb,aL e X.env) :: aN es X.env:=by rfl) (B:(aY pos (aN es X.env)).any (·.1)=zb:=by rfl):PE X (.Call (.Name x p) (e :: es) [] pos) (tCB r t):=by
 intro pins s σ H Q I h;refine wpAny_Call_Name_kw (yn I hg hm Z ?_ hn J);exact iG (thn (Y pos pins s σ H _ I h) λus s1 ⟨vs,H1,U,r1,O⟩=>hc pins s1 σ H1 vs us Q U r1 O) he B
theorem Q5a (hc:Uk X (.type T) r) (hg:Gl X x) (hm:X.mg x=zl) (Z:aW x=zo (.type T)) (Y:PA X (e :: es) t) (hn:x≠"__name__" := by decide) (J:(x == ("__debug__" : Str))=zb:=by decide)
  (he:aN (e :: es) X.env=(zb,aL e X.env) :: aN es X.env:=by rfl) (B:(aY pos (aN es X.env)).any (·.1)=zb:=by rfl):PE X (.Call (.Name x p) (e :: es) [] pos) (tCB r t):=by
 intro pins s σ H Q I h;refine wpAny_Call_Name_kw (yn I hg hm Z ?_ hn J);exact dA (thn (Y pos pins s σ H _ I h) λus s1 ⟨vs,H1,U,r1,O⟩=>hc pins s1 σ H1 vs us Q U r1 O) he B
end
end L2
namespace HT
open PySem PyProof.Rows
def lexLt:List Int->List Int->Bool
 | [],[]=>zb
 | [],_ :: _=>zi
 | _ :: _,[]=>zb
 | x :: xs,y :: ys=>if x=y then lexLt xs ys else decide (x < y)
theorem lexLt_cons(x y:Int)(xs ys:List Int):lexLt (x :: xs) (y :: ys)=if x=y then lexLt xs ys else decide (x < y):=rfl
theorem lexLt_nil_nil:lexLt [] []=zb:=rfl
theorem Q3r(y:Int)(ys:List Int):lexLt [] (y :: ys)=zi:=rfl
theorem Q3s(x:Int)(xs:List Int):lexLt (x :: xs) []=zb:=rfl
theorem Qik(A:aQ)(s:aD)(a:Int)(t:Tok)(c:Int)(u:Tok):∃ e,SeqAt.EqAt A s (.int a t) (.int c u) e/\(e=zi <-> a=c):=
 ⟨(a == c),SeqAt.EqAt.int_int a t c u,by simp⟩
theorem Qgd (A:aQ) (s:aD) (a:Int) (t:Tok) (c:Int) (u:Tok) (prog:aM) (w:aJ) (E:aA->aD->Prop) (Q:aA->aD->Prop) (h:Q (.bool (decide (a < c))) s) :
  aF (aI prog w) A (richCompare .Lt (.int a t) (.int c u)) Q E s:=
 (iH h:aF (aI prog w) A (aR .Lt (.int a t) (.int c u)) Q E s)
section
open PySem.SeqAt
open PySem.AutoSeq1 (wpAny_loadPart')
open PySem.MeetsSeq PySem.MeetsSeq2 PySem.MeetsSeq3
theorem Q4i (l b:aB) (I B:Array aA) (n n2:Nat) (dd a6:Option aB) (sl a8:Array (Option aA)) (ns ms:List Int) (hi:IntsAre I.toList ns) (hj:IntsAre B.toList ms) :
  Meets (Builtin.«tuple.__lt__» ⟨[.ref l,.ref b],[]⟩)
   (λ_ R s=>s.heap.get? l=zo { cls:=.type "tuple",dict:=dd,data:=.seq I n,slots:=sl }/\s.heap.get? b=zo { cls:=.type "tuple",dict:=a6,data:=.seq B n2,slots:=a8 } /\
    R (.ok (.ret (.bool (lexLt ns ms)))) s):=
 .of_wp λprog w A R s h=>by
  obtain⟨hp,g,d,tk,os⟩:=s;obtain⟨hl,hb,h⟩:=h;have f2:=AutoSeq1.sub_tuple_tuple;have z1:I.size=ns.length:=by rw[<- hi.length];simp
  have z2:B.size=ms.length:=by rw[<- hj.length];simp
  wp_walk using wpAny_loadPart' hl,wpAny_loadPart' hb,wpAny_forIn_list _ (λrest b s'=>b.1=zl/\s'=⟨hp,g,d,tk,os⟩/\∃ (vs ws:List aA) (O U:List Int),rest=vs.zip ws /\
   IntsAre vs O/\IntsAre ws U/\O.length + B.size=U.length + I.size/\R (.ok (.ret (.bool (lexLt O U)))) ⟨hp,g,d,tk,os⟩) _
  case turn=>
   rintro ⟨y,x⟩ rest b s' ⟨a3,rfl,vs,ws,O,U,hz,a1,Y,J,hR⟩;cases a1 with
   | nil=>rw[List.zip_nil_left]at hz;cases hz
   | cons a t a5=>
    cases Y with
    | nil=>rw[eT]at hz;cases hz
    | cons c u a4=>
     rw[dB]at hz;injection hz with a9 a2
     injection a9 with hy hx
     subst hy hx;rw[lexLt_cons]at hR;simp only[E5]at J;obtain⟨e,he,Z⟩:=Qik A.in1 ⟨hp,g,d,tk,os⟩ a t c u;refine aC (he prog w _ _ ?_);cases e with
     | true=>
      rw[bO (Z.mp rfl)]at hR
      wp_walk
      exact⟨rfl,rfl,_,_,_,_,a2,a5,a4,by omega,hR⟩
     | false=>
      rw[bP (λq=>absurd (Z.mpr q) F5)]at hR
      have a7:=Qgd A.in1 ⟨hp,g,d,tk,os⟩ a t c u prog w
      wp_walk using a7
      exact⟨_,rfl,by simpa using hR⟩
  case fin=>
   rintro ⟨b1,b2⟩ s' ⟨a3,rfl,vs,ws,O,U,hz,a1,Y,J,hR⟩;simp only at a3;subst a3;have hv:lexLt O U=decide (I.size < B.size):=by
    cases a1 with
    | nil=>
     cases Y with
     | nil=>
      simp only[M7]at J;rw[lexLt_nil_nil];exact(bQ (by omega)).symm
     | cons c u hw=>
      simp only[M7,E5]at J;rw[Q3r];exact(bR (by omega)).symm
    | cons a t hv=>
     cases Y with
     | nil=>
      simp only[M7,E5]at J;rw[Q3s];exact(bQ (by omega)).symm
     | cons c u hw=>
      rw[dB]at hz;cases hz
   rw[hv]at hR
   wp_walk
   exact⟨_,rfl,by simpa[Builtin.Tuple.tupleCompareSizes]using hR⟩
  case h=>
   exact⟨rfl,rfl,I.toList,B.toList,ns,ms,rfl,hi,hj,by omega,h⟩
end
variable{prog:aM}{A:aQ}{E:aA->aD->Prop}{s:aD}
section
variable{w:aJ}
theorem lt_tupInts {l b:aB} {I B:Array aA} {ns ms:List Int} {Q:aA->aD->Prop} (hl:IsTup s.heap l I) (Y:IsTup s.heap b B) (hi:IntsAre I.toList ns) (hj:IntsAre B.toList ms)
  (Z:A.units < aP) (h:Q (.bool (lexLt ns ms)) s):aF (aI prog w) A (aR .Lt (.ref l) (.ref b)) Q E s:=by
 obtain⟨⟨cls,dd,data,sl⟩,ho,hc,n,hd⟩:=id hl;obtain⟨⟨U,J,data2,O⟩,ho2,hc2,n2,hd2⟩:=id Y;simp only at hc hd hc2 hd2;subst hc hd hc2 hd2;exact richCompare_meets_room (op:=.Lt) ⟨_,ho,rfl⟩ ⟨_,ho2,rfl⟩ PySem.F.slot_tuple_lt PySem.F.entry_tuple_lt (PySem.F.args_tuple_lt_2 _ _) (Q4i l b I B n n2 dd J sl O ns ms hi hj)
  ⟨ho,ho2,show cL (lexLt ns ms)≠gB/\Q (.bool (lexLt ns ms)) s from⟨(λx=>nomatch x),h⟩⟩ Z
theorem cat_tup {t b:aB} {vs ws:List aA} {Q:aA->aD->Prop} (ht:IsTup s.heap t vs.toArray) (Z:IsTup s.heap b ws.toArray) (O:vs≠[])
  (h1:ws=[]->Q (.ref t) s) (h2:ws≠[]->Q (.ref s.heap.objs.size) { s with heap:=s.heap.push { cls:=.type "tuple",data:=.seq (vs ++ ws).toArray } })
  (hsz:vs.length + ws.length<=sizeLine):aF (aI prog w) A (aX .Add (.ref t) (.ref b)) Q E s:=by
 obtain⟨⟨cls,dd,data,Y⟩,ho,hc,n,hd⟩:=id ht;obtain⟨⟨U,B,data2,I⟩,ho2,hc2,n2,hd2⟩:=id Z;simp only at hc hd hc2 hd2;subst hc hd hc2 hd2;have e:vs.toArray ++ ws.toArray=(vs ++ ws).toArray:=by simp
 by_cases J:ws=[]
 ·exact concat_meets ⟨_,ho,rfl⟩ ⟨_,ho2,rfl⟩ noFill_tuple_add seq_tuple_add eU eV (eW _ _)
   (tuple_addW1 t b vs.toArray ws.toArray n n2 dd B Y I (by simpa using O) (by simp[J])) ⟨ho,ho2,h1 J⟩
 ·refine concat_meets ⟨_,ho,rfl⟩ ⟨_,ho2,rfl⟩ noFill_tuple_add seq_tuple_add eU eV (eW _ _)
   (tuple_addW2 t b vs.toArray ws.toArray n n2 dd B Y I (by simpa using O) (by simpa using J) (by rw[D0,D0];exact hsz)) ⟨ho,ho2,?_⟩
  rw[e];exact h2 J
def sIx(n d:Nat):Option Int->Nat
 | none=>d
 | some v=>if v < 0 then(v + (n:Int)).toNat else min v.toNat n
theorem sIx_none(n d:Nat):sIx n d zl=d:=rfl
theorem sIx_nat(n d k:Nat):sIx n d (zo (k:Int))=min k n:=by
 show(if(k:Int) < 0 then((k:Int) + (n:Int)).toNat else min (k:Int).toNat n)=min k n;rw[bP (by omega),bh]
theorem Qqe(n d:Nat)(hd:d<=n)(o:Option Int):sIx n d o<=n:=by
 cases o with
 | none=>exact hd
 | some v=>
  show(if v < 0 then(v + (n:Int)).toNat else min v.toNat n)<=n
  by_cases B:v < 0
  ·rw[bO B];omega
  ·rw[bP B];exact Nat.min_le_right _ _
theorem Qd1(v:Int)(n d:Nat):(if v < 0 then max (v + (n:Int)) 0 else min v (n:Int))=((sIx n d (zo v):Nat):Int):=by
 show(if v < 0 then max (v + (n:Int)) 0 else min v (n:Int))=(((if v < 0 then(v + (n:Int)).toNat else min v.toNat n):Nat):Int)
 by_cases B:v < 0
 ·simp only[bO B];omega
 ·simp only[bP B];omega
theorem Qbe(lo hi:Option Int)(n:Nat):Builtin.Slice.sliceAdjust lo hi 1 (n:Int)=(((sIx n 0 lo:Nat):Int),((sIx n n hi:Nat):Int)):=by
 have h1:¬ ((1:Int) < 0):=by omega
 unfold Builtin.Slice.sliceAdjust;simp only[h1,if_false];refine eX ?_ ?_
 ·cases lo with
  | none=>rfl
  | some v=>exact Qd1 v n 0
 ·cases hi with
  | none=>rfl
  | some v=>exact Qd1 v n n
theorem Qaa(i j:Nat):Builtin.Slice.slicePlaces (i:Int) (j:Int) 1=j - i:=by
 unfold Builtin.Slice.slicePlaces;have h1:(1:Int) > 0:=by omega
 simp only[h1,if_true,Int.ediv_one]
 split <;> omega
theorem Q2w{v:aA}{o:Option Int}{Q:Option Int->aD->Prop}(p:IsPart v o)(h:Q o s):aF (aI prog w) A (Builtin.Slice.slicePartIndex v) Q E s:=by
 cases p with
 | none=>exact slicePart_none h
 | int i t=>exact slicePart_int h
theorem Kb {O:aB} {vl J:aA} {lo hi:Option Int} {n:Nat} {Q:Int × Int × Nat->aD->Prop} (hs:s.heap.IsSliceOf O vl J .none) (Y:IsPart vl lo) (Z:IsPart J hi)
  (h:Q (((sIx n 0 lo:Nat):Int),1,sIx n n hi - sIx n 0 lo) s):aF (aI prog w) A (Builtin.Slice.sliceApplied (.ref O) (pure (n:Int))) Q E s:=by
 obtain⟨os,B,U,I⟩:=id hs;unfold Builtin.Slice.sliceApplied Builtin.Slice.sliceFields;refine aC (aC (aU B I (x:=vl) rfl (aC (aU B I (x:=J) rfl (aC (aU B I (x:=.none) rfl (wpAny_pure ?_)))))));refine aC (slicePart_none ?_);show aF _ _ (if((1:Int) == 0)=zi then _ else _) _ _ s;rw[bP (by decide)];refine aC (Q2w Y (aC (Q2w Z (aC (wpAny_pure ?_)))));show aF _ _ (match Builtin.Slice.sliceAdjust lo hi 1 (n:Int)with | (lo,hi)=>pure (lo,(1:Int),Builtin.Slice.slicePlaces lo hi 1)) _ _ s
 rw[Qbe lo hi n];show aF _ _ (pure (((sIx n 0 lo:Nat):Int),(1:Int),Builtin.Slice.slicePlaces ((sIx n 0 lo:Nat):Int) ((sIx n n hi:Nat):Int) 1)) _ _ s;rw[Qaa];exact wpAny_pure h
theorem Qgx(xs:Array aA)(i k:Nat):((bT k).filterMap λ(m:Nat)=>xs[((i:Int) + (m:Int) * 1).toNat]?).toArray=((xs.toList.drop i).take k).toArray:=by
 have e:(λ(m:Nat)=>xs[((i:Int) + (m:Int) * 1).toNat]?)=λm=>xs[i + m]?:=by
  funext m;have:((i:Int) + (m:Int) * 1).toNat=i + m:=by omega
  rw[this]
 rw[e];have:=pick_run xs i k;rw[List.filterMap_map]at this;have e2:((λx=>xs[x]?) ∘ λx=>i + x)=λm=>xs[i + m]?:=rfl
 rw[e2]at this;rw[this]
theorem getItem_tuple_cut {t U:aB} {B:Array aA} {vl vu:aA} {lo hi:Option Int} {Q:aA->aD->Prop} (J:IsTup s.heap t B) (hs:s.heap.IsSliceOf U vl vu .none) (pl:IsPart vl lo) (pu:IsPart vu hi)
  (hw:¬ (sIx B.size 0 lo=0/\sIx B.size B.size hi=B.size))
  (h:Q (.ref s.heap.objs.size) { s with heap:=s.heap.push { cls:=.type "tuple",data:=.seq ((B.toList.drop (sIx B.size 0 lo)).take (sIx B.size B.size hi - sIx B.size 0 lo)).toArray } })
  (hsz:B.size<=sizeLine):aF (aI prog w) A (getItem (.ref t) (.ref U)) Q E s:=by
 have I:sizeOk (.seq ((B.toList.drop (sIx B.size 0 lo)).take (sIx B.size B.size hi - sIx B.size 0 lo)).toArray):=by
  show((B.toList.drop (sIx B.size 0 lo)).take (sIx B.size B.size hi - sIx B.size 0 lo)).toArray.size<=sizeLine;rw[D0,ca,cb,bt];omega
 have hj:sIx B.size B.size hi<=B.size:=Qqe _ _ (O9 _) hi;obtain⟨os,a1,Z,a2⟩:=id hs;have O:s.TypeIs (.ref U) "slice" := ⟨os,a1,Z⟩;unfold getItem
 try with_reducible refine af ?_
 first | refine aC (wpAny_pure ?_) | skip
 refine aC (wpAny_sequenceKey J.typeIs (by decide) ?_);refine aC (wpAny_callSpecial?_slot (name:=bf "__getitem__") J.typeIs dh
  (aa dh J.typeIs entry_tuple_getitem ?_ (args_tuple_getitem _ _)))
 show aF _ _ (Builtin.Tuple.tupleItemsOf (.ref t) >>= _) _ _ s;refine aC (tupleItemsOf_ J ?_);refine aC (bM O ?_);rw[bO (by decide)];refine aC (Kb hs pl pu ?_);have Y:¬ ((((sIx B.size 0 lo:Nat):Int) == 0 && (1:Int) == 1 && (sIx B.size B.size hi - sIx B.size 0 lo) == B.size)=zi):=by
  intro q;rw[L9,L9]at q;have q1:((sIx B.size 0 lo:Nat):Int)=0:=eq_of_beq q.1.1;have q2:sIx B.size B.size hi - sIx B.size 0 lo=B.size:=eq_of_beq q.2;exact hw ⟨by omega,by omega⟩
 show aF _ _ (if(((sIx B.size 0 lo:Nat):Int) == 0 && (1:Int) == 1 && (sIx B.size B.size hi - sIx B.size 0 lo) == B.size)=zi then _ else _) _ _ s;rw[bP Y,Qgx]
 first
  | exact aC (m:=Builtin.Tuple.tupleExact _) (bA (wpAny_pure ⟨_,rfl,wpAny_pure h⟩) I)
  | exact aC (m:=Builtin.Tuple.tupleExact _) (bA (aC (wpAny_pure (wpAny_pure ⟨_,rfl,wpAny_pure h⟩))) I)
  | exact aC (aC (m:=Builtin.Tuple.tupleExact _) (bA (wpAny_pure (wpAny_pure ⟨_,rfl,wpAny_pure h⟩)) I))
  | exact aC (aC (m:=Builtin.Tuple.tupleExact _) (bA (wpAny_pure ⟨_,rfl,wpAny_pure h⟩) I))
end
end HT
namespace L2
open PySem PySem.Spec PyProof.Rows
variable{xs:List V}{us:List aA}{n t':Nat}{α:Type}{σ:St}{H:Hp}{s:aD}{p:aB}
abbrev TO:=St->Hp->(Option Int->Hp->Prop)->Prop
def PO(X:Cx)(e:Option aH)(t:TO):Prop:=
 ∀ (pins:zAA) (s:aD) (σ:St) (H:Hp) (Q:Option Int->Hp->Prop),Inv X pins σ H s->t σ H Q ->
  aF (aI X.prog X.w) X.A (evalPart e X.env) (λu s'=>∃ o H',Inv X pins σ H' s'/\IsPart u o/\Q o H') X.xe s
def Qjz:TO:=λ_ H Q=>Q zl H
def Qu4(t:TE):TO:=λσ H Q=>t σ H λx H1=>∃ i,x=.int i/\Q (zo i) H1
theorem yt{ns:List Int}:∀ {us:List aA},Vals (ns.map V.int) us->IntsAre us ns:=by
 induction ns with
 | nil=>intro us r;rw[eY]at r;cases r;exact .nil
 | cons n ns I=>
  intro us r;rw[D8]at r;cases r with
  | cons B J=>
   obtain⟨t,e⟩:=B;subst e;exact .cons n t (I J)
variable{X:Cx}{e:aH}{te:TE}{lo hi:Option aH}{tl th:TO}{pos p2:Pos}
theorem Qkx:PO X zl Qjz:=by
 intro pins s σ H Q I h;rw[evalPart_none];exact wpAny_pure ⟨zl,H,I,.none,h⟩
theorem Qkw(h:PE X e te):PO X (zo e) (Qu4 te):=by
 intro pins s σ H Q I O;rw[evalPart_some];refine thn (h pins s σ H _ I O) λu s1 ⟨x,H1,J,U,B⟩=>?_
 obtain⟨i,rfl,q⟩:=B;obtain⟨t,rfl⟩:=U;exact⟨zo i,H1,J,.int i t,q⟩
def SlR(X:Cx)(r:V->Option Int->Option Int->Hp->VK->Prop):Prop:=
 ∀ (pins:zAA) (s:aD) (σ:St) (H:Hp) (x:V) (v vl vu:aA) (lo hi:Option Int) (sl:aB) (Q:VK),Inv X pins σ H s->RelV x v->s.heap.IsSliceOf sl vl vu .none->IsPart vl lo->IsPart vu hi->r x lo hi H Q ->
  ∃ T id,typeLookup (.type T) "__getitem__" = pure (zo (.builtin id))/\s.TypeIs v T/\aF (aI X.prog X.w) X.A (getItem v (.ref sl)) (EP X pins σ Q) X.xe s
theorem SlR.or{r Y:V->Option Int->Option Int->Hp->VK->Prop}(h:SlR X r)(h':SlR X Y):SlR X (λx lo hi H Q=>r x lo hi H Q\/Y x lo hi H Q):=by
 intro pins s σ H x v vl U lo hi Z Q I J hs B O q;rcases q with q | q
 ·exact h pins s σ H x v vl U lo hi Z Q I J hs B O q
 ·exact h' pins s σ H x v vl U lo hi Z Q I J hs B O q
def tSl(r:V->Option Int->Option Int->Hp->VK->Prop)(te:TE)(tl th:TO):TE:=λσ H Q=>te σ H λx H1=>tl σ H1 λl H2=>th σ H2 λu H3=>r x l u H3 Q
theorem Qh2{r:V->Option Int->Option Int->Hp->VK->Prop}(Z:SlR X r)(he:PE X e te)(hl:PO X lo tl)(hu:PO X hi th):PE X (.Subscript e (.Slice lo hi zl p2) pos) (tSl r te tl th):=by
 intro pins s σ H Q I h;refine Subscript_ (thn (he pins s σ H _ I h) λv s1 ⟨x,H1,I1,r1,q1⟩=>?_)
 refine wpAny_Slice (thn (hl pins s1 σ H1 _ I1 q1) λvl s2 ⟨l,H2,I2,pl,q2⟩=>thn (hu pins s2 σ H2 _ I2 q2) λJ B ⟨u,O,U,pu,Y⟩=>?_)
 rw[evalPart_none];refine wpAny_pure ?_;have I4:Inv X pins σ O { B with heap:=B.heap.push { cls:=.type "slice",data:=.fields #[vl,J,.none] } }:=U.kept (t':=B.toks) λb ob q=>O4 _ q
 obtain⟨T,id,hT,ht,hg⟩:=Z pins { B with heap:=B.heap.push { cls:=.type "slice",data:=.fields #[vl,J,.none] } } σ O x v vl J l u B.heap.objs.size Q I4 r1 (Heap.IsSliceOf.new ..) pl pu Y;show aF (aI X.prog X.w) X.A (subscriptTail e (.Slice lo hi zl p2) v (.ref B.heap.objs.size)) (EP X pins σ Q) X.xe { B with heap:=B.heap.push { cls:=.type "slice",data:=.fields #[vl,J,.none] } };exact tail_any (ops:=[.ref B.heap.objs.size,v]) ht hT hg (by with_unfolding_all rfl)
def Q9e(xs:List V)(lo hi:Option Int):List V:=(xs.drop (HT.sIx xs.length 0 lo)).take (HT.sIx xs.length xs.length hi - HT.sIx xs.length 0 lo)
theorem Q1p(xs:List V)(lo hi:Option Int):(Q9e xs lo hi).length<=xs.length:=by
 unfold Q9e;rw[ca,cb];omega
def Qyh(K:bS):V->Option Int->Option Int->Hp->VK->Prop:=λx lo hi H Q=>∃ a xs,x=.ref a/\SqT K H a xs /\
 ¬ (HT.sIx xs.length 0 lo=0/\HT.sIx xs.length xs.length hi=xs.length)/\∀ p,H p=zl->Q (.ref p) (upd H p (.tup (Q9e xs lo hi)))
theorem sl_tup:SlR X (Qyh X.K):=by
 intro pins s σ H x v vl vu lo hi sl Q I Y hs U Z h;obtain⟨a,xs,rfl,O,hw,q⟩:=h;cases Y;obtain⟨its,r,J,hz⟩:=I.tuple O;have B:its.toArray.size=xs.length:=by rw[D0];exact r.length.symm
 refine⟨"tuple",_,PyProof.Rows.slot_tuple_getitem.lookup,J.typeIs,?_⟩;refine HT.getItem_tuple_cut J hs U Z (by rw[B];exact hw) ?_ (by rw[B];exact hz);rw[B];refine⟨.ref s.heap.objs.size,_,I.laid (t':=s.toks) (o:=.tup (Q9e xs lo hi)) (λb ob q=>O4 _ q) (O9 _) ?_,rfl,q _ (I.hok.fresh (O9 _))⟩;exact⟨F8 (Q1p xs lo hi) hz,_,(r.drop (HT.sIx xs.length 0 lo)).take (HT.sIx xs.length xs.length hi - HT.sIx xs.length 0 lo),IsTup.new _ _⟩
def Qyk(K:bS):R2:=λx y H Q=>∃ a b ns ms,x=.ref a/\y=.ref b/\SqT K H a (ns.map V.int)/\SqT K H b (ms.map V.int)/\Q (.bl (HT.lexLt ns ms)) H
theorem Qrk(hu:X.A.units < aP):OpR X (aR .Lt) (Qyk X.K):=by
 intro pins s σ H x y v u Q I Y ry h;obtain⟨a,b,ns,ms,rfl,rfl,U,O,q⟩:=h;cases Y;cases ry;obtain⟨its,r1,Z,_⟩:=I.tuple U;obtain⟨B,J,p2,_⟩:=I.tuple O;have i1:IntsAre its.toArray.toList ns:=yt r1;have i2:IntsAre B.toArray.toList ms:=yt J;exact HT.lt_tupInts Z p2 i1 i2 hu ⟨.bl (HT.lexLt ns ms),H,I,rfl,q⟩
def Qnw(K:bS):R2:=λx y H Q=>∃ a b xs ys,x=.ref a/\y=.ref b/\SqT K H a xs/\SqT K H b ys/\xs≠[]/\xs.length + ys.length<=sizeLine /\
 (ys=[]->Q (.ref a) H)/\(ys≠[]->∀ p,H p=zl->Q (.ref p) (upd H p (.tup (xs ++ ys))))
theorem Vals.nil_iff(r:Vals xs us):us=[] <-> xs=[]:=by
 cases r with
 | nil=>simp
 | cons _ _=>simp
theorem op_catT:OpR X (aX .Add) (Qnw X.K):=by
 intro pins s σ H x y v u Q I rx ry h;obtain⟨a,b,xs,ys,rfl,rfl,ha,Z,Y,hz,U,q2⟩:=h;cases rx;cases ry;obtain⟨its,J,p1,_⟩:=I.tuple ha;obtain⟨O,B,p2,_⟩:=I.tuple Z;refine HT.cat_tup p1 p2 (λz=>Y (J.nil_iff.mp z)) (λz=>⟨.ref a,H,I,rfl,U (B.nil_iff.mp z)⟩) (λz=>?_) (by rw[<- J.length,<- B.length];exact hz)
 refine⟨.ref s.heap.objs.size,_,I.laid (t':=s.toks) (o:=.tup (xs ++ ys)) (λb ob q=>O4 _ q) (O9 _) ?_,rfl,q2 (λw=>z (B.nil_iff.mpr w)) _ (I.hok.fresh (O9 _))⟩;exact⟨by rw[O5];exact hz,_,J.append B,IsTup.new _ _⟩
def ixN(n:Nat)(i:Int):Option Nat:=if 0<=i then(if i < n then zo i.toNat else zl)else if -(n:Int)<=i then zo (i + n).toNat else zl
def atI{α:Type}(xs:List α)(i:Int):Option α:=(ixN xs.length i).bind λj=>xs[j]?
theorem Qcr{i:Int}{j:Nat}(h:ixN n i=zo j):seqIndex? i n=zo j/\j < n/\-(n:Int)<=i/\i < n:=by
 unfold ixN at h
 by_cases h0:0<=i
 ·rw[bO h0]at h
  by_cases h1:i < n
  ·rw[bO h1]at h;have e:i.toNat=j:=bY h;exact⟨by rw[seqIndex_of h0 h1,e],by omega,by omega,h1⟩
  ·rw[bP h1]at h;cases h
 ·rw[bP h0]at h
  by_cases h1:-(n:Int)<=i
  ·rw[bO h1]at h;have e:(i + n).toNat=j:=bY h;exact⟨by rw[seqIndex_neg (by omega) h1,e],by omega,h1,by omega⟩
  ·rw[bP h1]at h;cases h
theorem atI_get{xs:List α}{i:Int}{v:α}(h:atI xs i=zo v):∃ j,seqIndex? i xs.length=zo j/\xs[j]?=zo v/\j < xs.length/\-(xs.length:Int)<=i/\i < xs.length:=by
 unfold atI at h;cases e:ixN xs.length i with
 | none=>rw[e]at h;cases h
 | some j=>
  rw[e]at h;obtain⟨h1,h2,B,I⟩:=Qcr e;exact⟨j,h1,h,h2,B,I⟩
def Qd5(b:aH):Prop:=∀ o i,subscripted b zb o i=operate [o,i] (getItem o i)
def IxR(X:Cx)(r:R2):Prop:=
 ∀ (value slice:aH) (pins:zAA) (s:aD) (σ:St) (H:Hp) (x y:V) (v u:aA) (Q:VK),Inv X pins σ H s->RelV x v->RelV y u->r x y H Q ->
  subscripted slice zb v u=operate [v,u] (getItem v u)->aF (aI X.prog X.w) X.A (subscriptTail value slice v u) (EP X pins σ Q) X.xe s
def MtR(X:Cx)(id:String)(r:V->List V->Hp->VK->Prop):Prop:=
 ∀ (pins:zAA) (s:aD) (σ:St) (H:Hp) (x:V) (xs:List V) (v:aA) (us:List aA) (Q:VK),Inv X pins σ H s->RelV x v->Vals xs us->r x xs H Q ->
  aF (aI X.prog X.w) X.A (call (.builtin id) (v :: us)) (EP X pins σ Q) X.xe s
section
variable{X:Cx}{a b:aH}{ta tb:TE}{pos:Pos}
theorem IxR.or{r U:R2}(h:IxR X r)(h':IxR X U):IxR X (λx y H Q=>r x y H Q\/U x y H Q):=by
 intro value B pins s σ H x y v u Q I J O q hs;rcases q with q | q
 ·exact h value B pins s σ H x y v u Q I J O q hs
 ·exact h' value B pins s σ H x y v u Q I J O q hs
theorem Quz{r:R2}(Z:IxR X r)(U:PE X a ta)(O:PE X b tb)(hs:Qd5 b):PE X (.Subscript a b pos) (tOp r ta tb):=by
 intro pins s σ H Q I h;exact Subscript_ (Qt6 U O I h λv u B x y H2 J Y ry q=>Z a b pins B σ H2 x y v u Q J Y ry q (hs _ _))
def Qqi(K:bS):R2:=λx y H Q=>∃ p xs i v,x=.ref p/\y=.int i/\SqL K H p xs/\atI xs i=zo v/\Q v H
def Qup(K:bS):R2:=λx y H Q=>∃ p xs i v,x=.ref p/\y=.int i/\SqT K H p xs/\atI xs i=zo v/\Q v H
def Quq:R2:=λx y H Q=>∃ z i c,x=.str z/\y=.int i/\z.length<=sizeLine/\atI z.cps.toList i=zo c/\Q (.str ⟨#[c]⟩) H
theorem ix_list:IxR X (Qqi X.K):=by
 intro value J pins s σ H x y v u Q I rx ry h hs;obtain⟨p,xs,i,z,rfl,rfl,hq,he,q⟩:=h;cases rx;obtain⟨t,rfl⟩:=ry;obtain⟨its,r,B,hz⟩:=I.list hq;obtain⟨j,h1,h2,h3,h4,Z⟩:=atI_get he;obtain⟨w,Y,O⟩:=r.get h2;have hl:=r.length;have hn:=ym;have fin:EP X pins σ Q w s:=⟨z,H,I,O,q⟩
 by_cases h0:0<=i
 ·have U:i.toNat=j:=by
   rw[seqIndex_of h0 Z]at h1;exact bY h1
  exact item_listR B.isList h0 (by omega) (by rw[U];simpa using Y) fin hs
 ·have U:(i + (its.toArray.size:Int)).toNat=j:=by
   rw[seqIndex_neg (by omega) h4]at h1;rw[D0,<- hl];exact bY h1
  exact subscriptTail_builtinR (x:=w) B.isList.typeIs slot_list_getitem.lookup
   (wpAny_getItem_list_neg (Q:=λr s'=>r=w/\EP X pins σ Q r s') B.isList (by omega) (by rw[D0] <;> omega) (by omega) (by rw[U];simpa using Y) ⟨rfl,fin⟩) hs
theorem ix_tup:IxR X (Qup X.K):=by
 intro value B pins s σ H x y v u Q I U ry h hs;obtain⟨p,xs,i,z,rfl,rfl,hq,Z,q⟩:=h;cases U;obtain⟨t,rfl⟩:=ry;obtain⟨its,r,O,hz⟩:=I.tuple hq;obtain⟨j,h1,h2,h3,h4,h5⟩:=atI_get Z;obtain⟨w,Y,J⟩:=r.get h2;have hl:=r.length;have hn:=ym;have fin:EP X pins σ Q w s:=⟨z,H,I,J,q⟩;exact subscriptTail_builtinR (x:=w) O.typeIs slot_tuple_getitem.lookup
  (getItem_tuple (j:=j) (Q:=λr s'=>r=w/\EP X pins σ Q r s') O (by omega) (by omega) (by rw[D0,<- hl];exact h1) (by simpa using Y) ⟨rfl,fin⟩) hs
theorem Qsc:IxR X Quq:=by
 intro value B pins s σ H x y v u Q I O ry h hs;obtain⟨z,i,c,rfl,rfl,hz,U,q⟩:=h;obtain⟨t,rfl⟩:=O;obtain⟨t',rfl⟩:=ry;obtain⟨j,h1,h2,h3,Y,J⟩:=atI_get U;have Z:z.cps.toList.length=z.length:=by simp[Str.length]
 rw[Z]at h1 Y J;have hn:=ym;exact tail_any (typeIs_str s z t) slot_str_getitem.lookup (getItem_str (c:=c) (by
  have e1:decide (i < -(2 ^ 63:Int))=zb:=bQ (by omega);have e2:decide (i>=2 ^ 63)=zb:=bQ (by omega);rw[e1,e2,Bool.or_false]) (by rw[h1];simpa using h2) ⟨.str ⟨#[c]⟩,H,I.tok _,⟨_,rfl⟩,q⟩) hs
def rIx(K:bS):R2:=λx y H Q=>Qqi K x y H Q\/Qup K x y H Q\/Quq x y H Q
theorem Qsd:IxR X (rIx X.K):=ix_list.or (ix_tup.or Qsc)
theorem Qaq(its:List aA)(n j:Nat)(u:aA):ba (·.setIfInBounds j u) { cls:=.type "list",data:=.seq its.toArray n }={ cls:=.type "list",data:=.seq (its.set j u).toArray n }:=by
 simp[ba]
theorem Inv.lst {pins:zAA} (I:Inv X pins σ H s) (h:H p=zo (.lst xs)) :
  ∃ (its:List aA) (n:Nat),Vals xs its/\s.heap.get? p=zo { cls:=.type "list",data:=.seq its.toArray n }/\xs.length<=sizeLine:=by
 obtain⟨z,its,n,r,e⟩:=I.hok p _ h;exact⟨its,n,r,e,z⟩
theorem Inv.lstUpd {pins:zAA} {ys:List V} {its its':List aA} {n B:Nat} {f:Obj->Obj} (I:Inv X pins σ H s) (h:H p=zo (.lst xs))
  (O:s.heap.get? p=zo { cls:=.type "list",data:=.seq its.toArray n }) (J:f { cls:=.type "list",data:=.seq its.toArray n }={ cls:=.type "list",data:=.seq its'.toArray B }) (r:Vals ys its') (hz:ys.length<=sizeLine) (t:Nat) :
  Inv X pins σ (upd H p (.lst ys)) { s with heap:=s.heap.update p f,toks:=t }:=by
 have e:(s.heap.update p f).get? p=zo { cls:=.type "list",data:=.seq its'.toArray B }:=by
  rw[M9 f O (by rw[J] <;> rfl),J]
 refine I.write (x:=p) (e:=p) (by rw[h];trivial) (.inl rfl) (λb u U q=>(M6 _ _ (Ne.symm U)).trans q) ⟨_,e⟩ ?_
 exact⟨hz,its',B,r,e⟩
def Qum:V->V->V->Hp->(Hp->Prop)->Prop:=λo i v H Q=>∃ p xs k j,o=.ref p/\i=.int k/\H p=zo (.lst xs)/\ixN xs.length k=zo j/\Q (upd H p (.lst (xs.set j v)))
theorem Q81:Qtc X Qum:=by
 intro pins s σ H o i v ov iv u Q I ro ri rv h;obtain⟨p,xs,k,j,rfl,rfl,hp,hj,q⟩:=h;cases ro;obtain⟨t,rfl⟩:=ri;obtain⟨its,n,r,J,hz⟩:=I.lst hp;obtain⟨h1,h2,U,Z⟩:=Qcr hj;have O:=r.length;have hn:=ym;have Y:Inv X pins σ (upd H p (.lst (xs.set j v))) { s with heap:=s.heap.update p (ba (·.setIfInBounds j u)) }:=
  I.lstUpd hp J (Qaq its n j u) (r.set rv j) (by rw[E9];exact hz) s.toks
 by_cases h0:0<=k
 ·have B:k.toNat=j:=by
   rw[seqIndex_of h0 Z]at h1;exact bY h1
  exact PySem.W.ki_setAt J h0 (by omega) (by rw[D0,<- O];exact Z) (by rw[B];exact⟨_,Y,q⟩)
 ·have B:(k + (its.toArray.size:Int)).toNat=j:=by
   rw[seqIndex_neg (by omega) U]at h1;rw[D0,<- O];exact bY h1
  exact PySem.W.ki_setBack J (by omega) (by rw[D0,<- O];exact U) (by omega) (by rw[B];exact⟨_,Y,q⟩)
theorem Q6j(lo hi:Option Int)(n:Nat):(bG lo hi zl n).1=((HT.sIx n 0 lo:Nat):Int)/\(bG lo hi zl n).2.1=((HT.sIx n n hi:Nat):Int)/\(bG lo hi zl n).2.2=1:=by
 refine⟨?_,?_,rfl⟩
 ·cases lo with
  | none=>simp[bG,HT.sIx]
  | some i=>
   simp only[bG,HT.sIx,gC,show(1:Int) > 0 by decide,if_true]
   by_cases h:i < 0
   ·simp only[h,if_true] <;> omega
   ·simp only[h,if_false] <;> omega
 ·cases hi with
  | none=>simp[bG,HT.sIx]
  | some i=>
   simp only[bG,HT.sIx,gC,show(1:Int) > 0 by decide,if_true]
   by_cases h:i < 0
   ·simp only[h,if_true] <;> omega
   ·simp only[h,if_false] <;> omega
theorem Q4j(its:List aA)(lo hi:Option Int):slicePick its.toArray lo hi zl=((its.drop (HT.sIx its.length 0 lo)).take (HT.sIx its.length its.length hi - HT.sIx its.length 0 lo)).toArray:=by
 obtain⟨h1,h2,B⟩:=Q6j lo hi its.toArray.size;unfold slicePick;rw[h1,h2,B];simp only[sliceRange_one,pick_run,D0] <;> rfl
def Qyi(K:bS):V->Option Int->Option Int->Hp->VK->Prop:=λx lo hi H Q=>∃ a xs,x=.ref a/\SqL K H a xs/\∀ p,H p=zl->Q (.ref p) (upd H p (.lst (Q9e xs lo hi)))
theorem Qk5:SlR X (Qyi X.K):=by
 intro pins s σ H x v vl vu lo hi sl Q I Y hs U Z h;obtain⟨a,xs,rfl,O,q⟩:=h;cases Y;obtain⟨its,r,J,hz⟩:=I.list O;have B:=r.length;refine⟨"list",_,slot_list_getitem.lookup,J.isList.typeIs,?_⟩;refine wpAny_getItem_list_slice J.isList hs U Z .none (by simp) ?_ (by rw[D0] <;> omega);rw[Q4j,<- B];refine⟨.ref s.heap.objs.size,_,I.laid (t':=s.toks) (o:=.lst (Q9e xs lo hi)) (λb ob q=>O4 _ q) (O9 _) ?_,rfl,q _ (I.hok.fresh (O9 _))⟩;exact⟨F8 (Q1p xs lo hi) hz,_,0,(r.drop (HT.sIx xs.length 0 lo)).take (HT.sIx xs.length xs.length hi - HT.sIx xs.length 0 lo),E6 _ rfl⟩
theorem Q7e:Uk X (.builtin "len") (λxs H Q=>∃ p ys,xs=[.ref p]/\(SqL X.K H p ys\/SqT X.K H p ys)/\Q (.int ys.length) H):=by
 intro pins s σ H xs us Q I r h;obtain⟨p,ys,rfl,J,q⟩:=h;obtain⟨u,rfl,Y⟩:=qy r;cases Y;have hn:=ym;rcases J with J | J
 ·obtain⟨its,U,O,hz⟩:=I.list J;have B:=U.length;exact Calls.call_len_list O.isList (by simp only[D0] <;> omega) ⟨.int ys.length,H,I.tok _,⟨s.toks + 1,by rw[D0,B]⟩,q⟩
 ·obtain⟨its,U,O,hz⟩:=I.tuple J;have B:=U.length;exact len_tuple O (by simp only[D0] <;> omega) ⟨.int ys.length,H,I.tok _,⟨s.toks + 1,by rw[D0,B]⟩,q⟩
theorem Q7d:Uk X (.builtin "len") (λxs H Q=>∃ z,xs=[.str z]/\z.length<=sizeLine/\Q (.int z.length) H):=by
 intro pins s σ H xs us Q I r h;obtain⟨z,rfl,hz,q⟩:=h;obtain⟨u,rfl,t,rfl⟩:=qy r;have hn:=ym;exact len_str (by omega) ⟨.int z.length,H,I.tok _,⟨_,rfl⟩,q⟩
theorem Q0i:Uk X (.type "list") (λxs H Q=>∃ p ys,xs=[.ref p]/\(SqL X.K H p ys\/SqT X.K H p ys)/\∀ l,H l=zl->Q (.ref l) (upd H l (.lst ys))):=by
 intro pins s σ H xs us Q I r h;obtain ⟨p,ys,rfl,U,q⟩:=h;obtain ⟨u,rfl,rx⟩:=qy r;cases rx;have fin:∀ (its:List aA),Vals ys its->ys.length<=sizeLine->∀ (h':Heap) (B:Nat),(∀ b o',s.heap.get? b=zo o'->h'.get? b=zo o') ->
   h'.get? s.heap.objs.size=zo { cls:=.type "list",dict:=zl,data:=.seq its.toArray B,slots:=#[] }->EP X pins σ Q (.ref s.heap.objs.size) { s with heap:=h' }:=λits J hz h' B kp e=>
  ⟨.ref s.heap.objs.size,_,I.laid (t':=s.toks) kp (O9 _) (show ObjOk X.prog X.w _ h' _ (.lst ys)from⟨hz,its,B,J,e⟩),rfl,q _ (I.hok.fresh (O9 _))⟩
 rcases U with U | U
 ·obtain⟨its,J,Z,hz⟩:=I.list U;have O:=J.length;obtain⟨o,Y,hc,n,hd⟩:=Z.isList;exact call_list_seq p (.inl rfl) Y hc hd (λh' B kp e=>fin its J hz h' B kp e) (by simp only[D0] <;> omega)
 ·obtain⟨its,J,Z,hz⟩:=I.tuple U;have O:=J.length;obtain⟨o,Y,hc,n,hd⟩:=Z;exact call_list_seq p (.inr rfl) Y hc hd (λh' B kp e=>fin its J hz h' B kp e) (by simp only[D0] <;> omega)
theorem zx:Uk X (.type "tuple") (λxs H Q=>∃ p ys,xs=[.ref p]/\((SqL X.K H p ys/\∀ l,H l=zl->Q (.ref l) (upd H l (.tup ys)))\/(SqT X.K H p ys/\Q (.ref p) H))):=by
 intro pins s σ H xs us Q I r h;obtain⟨p,ys,rfl,h⟩:=h;obtain⟨u,rfl,rx⟩:=qy r;cases rx;rcases h with⟨J,q⟩ | ⟨J,q⟩
 ·obtain⟨its,O,B,hz⟩:=I.list J;have U:=O.length;refine call_tuple_list B.isList (λh' kp=>?_) (by simp only[D0] <;> omega);have Y:Inv X pins σ H { s with heap:=h' }:=I.kept (t':=s.toks) kp;have Z:Inv X pins σ (upd H h'.objs.size (.tup ys)) { s with heap:=h'.push { cls:=.type "tuple",data:=.seq its.toArray } }:=
   Y.laid (t':=s.toks) (λb o e=>O4 _ e) (O9 _) (show ObjOk X.prog X.w _ _ _ (.tup ys)from⟨hz,its,O,IsTup.new _ _⟩)
  exact⟨.ref h'.objs.size,_,Z,rfl,q _ (Y.hok.fresh (O9 _))⟩
 ·obtain⟨its,O,B,hz⟩:=I.tuple J;exact call_tuple_same B ⟨.ref p,H,I,rfl,q⟩
def tyV(K:bS)(T:String)(x:V)(H:Hp):Prop:=match x with
 | .str _=>T = "str"
 | .int _=>T = "int"
 | .ref p=>(T = "list" /\ ∃ xs,SqL K H p xs)\/(T = "tuple" /\ ∃ o,K.lookup p=zo o/\o.cls=.type "tuple" /\ o.dict=zl) \/
   (T = "dict" /\ ((∃ kvs,H p=zo (.dK kvs))\/∃ kvs,H p=zo (.dT kvs)))\/(T = "set" /\ ∃ S n,H p=zo (.set S n))
 | _=>False
theorem Qfi {pins:zAA} {T:String} {x:V} {v:aA} (I:Inv X pins σ H s) (r:RelV x v) (ty:tyV X.K T x H) :
  s.TypeIs v T/\∀ a,v=.ref a->∃ ob,s.heap.get? a=zo ob/\ob.dict=zl:=by
 cases x with
 | str z=>
  obtain⟨t,rfl⟩:=r;cases (show T = "str" from ty);exact⟨typeIs_str s z t,λ_ e=>nomatch e⟩
 | int i=>
  obtain⟨t,rfl⟩:=r;cases (show T = "int" from ty);exact⟨typeIs_int s i t,λ_ e=>nomatch e⟩
 | ref p=>
  cases r;rcases ty with⟨rfl,xs,Y⟩ | ⟨rfl,o,B,U,hd⟩ | ⟨rfl,B⟩ | ⟨rfl,S,n,B⟩
  ·obtain⟨its,_,O,_⟩:=I.list Y;refine⟨O.isList.typeIs,λa e=>?_⟩;cases e;obtain⟨o,n,e,c,hd,_⟩:=O;exact⟨o,e,hd⟩
  ·refine⟨⟨o,I.kIn p o B,U⟩,λa e=>?_⟩
   cases e;exact⟨o,I.kIn _ o B,hd⟩
  ·have z:∃ o,s.heap.get? p=zo o/\o.ExactDict:=by
    rcases B with⟨J,B⟩ | ⟨J,B⟩
    ·obtain⟨_,_,_,_,o,_,_,e,ex,_⟩:=I.hok p _ B;exact⟨o,e,ex⟩
    ·obtain⟨_,_,_,_,o,_,_,e,ex,_⟩:=I.hok p _ B;exact⟨o,e,ex⟩
   obtain⟨o,e,ex⟩:=z;refine⟨⟨o,e,ex.1⟩,λa e2=>?_⟩
   cases e2;exact⟨o,e,ex.2.1⟩
  ·obtain⟨o,_,_,_,e,ex,_⟩:=I.hok p _ B;refine⟨⟨o,e,ex.1⟩,λa e2=>?_⟩
   cases e2;exact⟨o,e,ex.2.1⟩
 | _=>exact False.elim ty
def Qya(K:bS)(T:String)(r:V->List V->Hp->VK->Prop)(to:TE):TE:=λσ H Q=>to σ H λx H1=>tyV K T x H1/\r x [] H1 Q
def tBM(K:bS)(T:String)(r:V->List V->Hp->VK->Prop)(to:TE)(t:TA):TE:=λσ H Q=>to σ H λx H1=>tyV K T x H1/\t σ H1 λxs H2=>r x xs H2 Q
variable{o e:aH}{es:List aH}{to:TE}{t:TA}{name:Str}{apos cpos:Pos}{T id:String}{r:V->List V->Hp->VK->Prop}
theorem Qr6 (pa:PlainAttrs T) (slot:Slot T name id) (O:typeOf (.builtin id)=pure (.type "method_descriptor")) (hm:MtR X id r) (ho:PE X o to)
  (J:bB o name X.env (aL o X.env)=aL o X.env:=by rfl) (B:(apos.endLine == cpos.line)=zi:=by rfl):PE X (.Call (.Attribute o name apos) [] [] cpos) (Qya X.K T r to):=by
 intro pins s σ H Q I h;refine wpAny_Call_method0_late J B (thn (ho pins s σ H _ I h) λv s1 ⟨x,H1,U,Y,ty,Z⟩=>?_)
 obtain⟨h1,h2⟩:=Qfi U Y ty;exact⟨T,id,pa,slot,O,h1,h2,Calls.callWith_builtin rfl (gD (hm pins s1 σ H1 x [] v [] Q U Y .nil Z))⟩
theorem Qv0 (pa:PlainAttrs T) (slot:Slot T name id) (Y:typeOf (.builtin id)=pure (.type "method_descriptor")) (hm:MtR X id r) (ho:PE X o to) (ha:PA X (e :: es) t)
  (O:bB o name X.env (aL o X.env)=aL o X.env:=by rfl)
  (U:((aY cpos (aN (e :: es) X.env)).all (λx=>!x.1) && (backToKw cpos (keywordEach [] X.env)).all (λx=>x.1.isSome)
   && decide ((e :: es).length + ([]:List Keyword).length + (if([]:List Keyword).isEmpty then 0 else 1) < 30))=zi:=by rfl)
  (J:(apos.endLine == cpos.line)=zi:=by rfl) (hs:aN (e :: es) X.env=(zb,aL e X.env) :: aN es X.env:=by rfl) (B:(aY cpos (aN es X.env)).any (·.1)=zb:=by rfl) :
  PE X (.Call (.Attribute o name apos) (e :: es) [] cpos) (tBM X.K T r to t):=by
 intro pins s σ H Q I h;refine wpAny_Call_method_late O U J rfl (thn (ho pins s σ H _ I h) λv s1 ⟨x,H1,Z,r1,ty,q1⟩=>?_)
 obtain⟨h1,h2⟩:=Qfi Z r1 ty;refine⟨T,id,pa,slot,Y,h1,h2,?_⟩;have hA:=ha cpos pins s1 σ H1 _ Z q1;rw[hs]at hA ⊢;refine Calls.callWith_builtin (by show(zb || (aY cpos (aN es X.env)).any (·.1))=zb;rw[B] <;> rfl) (Calls.evalArgs_plain ?_);exact thn hA λus s2 ⟨vs,H2,I2,r2,q2⟩=>hm pins s2 σ H2 x vs v us Q I2 r1 r2 q2
end
def MtM(X:Cx)(id:String)(r:V->List V->Hp->VK->Prop):Prop:=
 ∀ (pins:zAA) (s:aD) (σ:St) (H:Hp) (x:V) (xs:List V) (v:aA) (us:List aA) (Q:VK),Inv X pins σ H s->RelV x v->Vals xs us->r x xs H Q ->
  aF (aI X.prog X.w) X.A (call (.builtin id) (v :: us)) (EP X pins σ Q) X.xe s
theorem Vals.one:∀ {x:V} {us:List aA},Vals [x] us->∃ u,us=[u]/\RelV x u
 | _,_,.cons r .nil=>⟨_,rfl,r⟩
theorem Vals.zero:∀ {us:List aA},Vals [] us->us=[]
 | _,.nil=>rfl
theorem Vals.reverse(h:Vals xs us):Vals xs.reverse us.reverse:=by
 induction h with
 | nil=>exact .nil
 | cons r t B=>rw[di,di];exact Vals.append B (.cons r .nil)
theorem Vals.rep(h:Vals xs us):∀ k:Nat,Vals (bV k xs).flatten (bV k us).flatten
 | 0=>.nil
 | k + 1=>by
  rw[cQ,cQ,ce,ce];exact Vals.append h (Vals.rep h k)
theorem Q1c (its:List aA):∀ (k:Nat) (B:List aA),
  dj (λx1 I=>x1 ++ I) B.toArray (bV k its.toArray)=(B ++ (bV k its).flatten).toArray
 | 0,B=>by simp
 | k + 1,B=>by
  have e:B.toArray ++ its.toArray=(B ++ its).toArray:=by simp
  have e2:(B ++ its) ++ (bV k its).flatten=B ++ (bV (k + 1) its).flatten:=by
   rw[cQ,ce,M0]
  rw[<- e2,<- Q1c its k (B ++ its),<- e,cQ,cS]
variable{pins:zAA}{σ:St}{H:Hp}{s:aD}{l b:aB}{xs ys zs:List V}
theorem Inv.lset {its its':List aA} {n:Nat} {f:Array aA->Array aA} {t':Nat} (I:Inv X pins σ H s) (hH:H l=zo (.lst xs))
  (e:s.heap.get? l=zo { cls:=.type "list",data:=.seq its.toArray n }) (O:f its.toArray=its'.toArray) (J:Vals ys its') (hz:ys.length<=sizeLine) :
  Inv X pins σ (upd H l (.lst ys)) { s with heap:=s.heap.update l (ba f),toks:=t' }:=by
 have q:=PySem.IsL.update e f;rw[O]at q;refine I.write (x:=l) (e:=l) (by rw[hH];exact trivial) (.inl rfl) (λY u B U=>(M6 s.heap (ba f) (Ne.symm B)).trans U) ⟨_,q⟩ ?_
 exact⟨hz,its',_,J,q⟩
theorem Inv.lnew {its:List aA} {t':Nat} (I:Inv X pins σ H s) (B:Vals ys its) (hz:ys.length<=sizeLine) :
  Inv X pins σ (upd H s.heap.objs.size (.lst ys)) { s with heap:=s.heap.push { cls:=.type "list",data:=.seq its.toArray },toks:=t' }:=
 I.laid (λ_ _ q=>O4 _ q) (O9 _) ⟨hz,its,0,B,E6 _ rfl⟩
theorem Inv.fresh(I:Inv X pins σ H s):H s.heap.objs.size=zl:=I.hok.fresh (O9 _)
theorem Inv.lstM(I:Inv X pins σ H s)(hH:H l=zo (.lst xs)):xs.length<=sizeLine/\∃ (its:List aA) (n:Nat),Vals xs its/\xs.length=its.length/\s.heap.get? l=zo { cls:=.type "list",data:=.seq its.toArray n }:=by
 obtain⟨z,its,n,r,e⟩:=I.hok l _ hH;exact⟨z,its,n,r,r.length,e⟩
theorem Q8j(h:n<=sizeLine):Builtin.List.listTooLong n=zb:=by
 unfold Builtin.List.listTooLong;exact bQ (by omega)
def Qki:V->List V->Hp->VK->Prop:=λx vs H Q=>∃ l xs y,x=.ref l/\vs=[y]/\H l=zo (.lst xs)/\xs.length < sizeLine/\Q .non (upd H l (.lst (xs ++ [y])))
theorem Qec:MtM X "list.append" Qki:=by
 intro pins s σ H x vs v us Q I O B h;obtain⟨l,xs,y,rfl,rfl,hH,hz,q⟩:=h;cases O;obtain⟨u,rfl,J⟩:=B.one;obtain⟨z,its,n,r,U,e⟩:=I.lstM hH;refine bD F.slot_list_append ⟨_,e,rfl⟩ F.entry_list_append (F.args_list_append_2 _ _) (gE l its.toArray n u (by rw[D0];omega)) ⟨e,?_⟩;refine⟨.non,_,I.lset (its':=its ++ [u]) hH e (by simp) (r.append (.cons J .nil)) ?_,rfl,q⟩;rw[O5,gF];omega
def Qkh:V->List V->Hp->VK->Prop:=λx vs H Q=>∃ l b xs zs,x=.ref l/\vs=[.ref b]/\H l=zo (.lst xs)/\H b=zo (.lst zs)/\xs.length + zs.length<=sizeLine/\Q .non (upd H l (.lst (xs ++ zs)))
theorem Qeb:MtM X "list.extend" Qkh:=by
 intro pins s σ H x vs v us Q I rx rv h;obtain⟨l,b,xs,zs,rfl,rfl,hH,O,hz,q⟩:=h;cases rx;obtain⟨u,rfl,Y⟩:=rv.one;cases Y;obtain⟨z,its,n,r,hl,e⟩:=I.lstM hH;obtain⟨z2,B,U,Z,a1,e2⟩:=I.lstM O;have hsz:its.toArray.size + B.toArray.size<=sizeLine:=by rw[D0,D0];omega
 have J:¬ (!its.toArray.isEmpty && Builtin.List.listTooLong (its.toArray.size + B.toArray.size))=zi:=by
  rw[Q8j hsz,eZ];exact F5
 refine bD F.slot_list_extend ⟨_,e,rfl⟩ F.entry_list_extend (F.args_list_extend_2 _ _)
  (AutoSeq1.list_extend_list_list_0 l its.toArray n b B.toArray U J (by rw[D0];omega) (by omega)) ⟨e,e2,?_⟩
 refine⟨.non,_,I.lset (its':=its ++ B) hH e (by simp) (r.append Z) ?_,rfl,q⟩;rw[O5];omega
def Qgi:V->List V->Hp->VK->Prop:=λx vs H Q=>∃ l xs,x=.ref l/\vs=[]/\H l=zo (.lst xs)/\Q .non (upd H l (.lst xs.reverse))
theorem Qap:MtM X "list.reverse" Qgi:=by
 intro pins s σ H x vs v us Q I O J h;obtain⟨l,xs,rfl,rfl,hH,q⟩:=h;cases O;have B:=J.zero;subst B;obtain⟨z,its,n,r,U,e⟩:=I.lstM hH;refine bD F.slot_list_reverse ⟨_,e,rfl⟩ F.entry_list_reverse (F.args_list_reverse_1 _) (AutoSeq1.list_reverse_list_0 l its.toArray n (by rw[D0];omega)) ⟨e,?_⟩;refine⟨.non,_,I.lset (its':=its.reverse) hH e (by simp) r.reverse ?_,rfl,q⟩;rw[gG];omega
def Qym:R2:=λx y H Q=>∃ l b xs zs,x=.ref l/\y=.ref b/\H l=zo (.lst xs)/\H b=zo (.lst zs)/\xs.length + zs.length<=sizeLine/\∀ p,H p=zl->Q (.ref p) (upd H p (.lst (xs ++ zs)))
theorem Qhe:OpR X (aX .Add) Qym:=by
 intro pins s σ H x y v u Q I U Y h;obtain⟨l,b,xs,zs,rfl,rfl,hH,J,hz,q⟩:=h;cases U;cases Y;obtain⟨z,its,n,r,hl,e⟩:=I.lstM hH;obtain⟨z2,B,n2,O,Z,e2⟩:=I.lstM J;refine PySem.P.add_list e e2 ?_ (by rw[D0,D0];omega);have ea:its.toArray ++ B.toArray=(its ++ B).toArray:=by simp
 rw[ea];exact⟨.ref _,_,I.lnew (t':=s.toks) (r.append O) (by rw[O5];omega),rfl,q _ I.fresh⟩
def Qyj:R2:=λx y H Q=>∃ l k xs,x=.ref l/\y=.int k/\H l=zo (.lst xs)/\-(2 ^ 63)<=k/\k < 2 ^ 63/\xs.length * k.toNat<=sizeLine /\
 ∀ p,H p=zl->Q (.ref p) (upd H p (.lst (bV k.toNat xs).flatten))
theorem Q6z(xs:List α)(k:Nat):(bV k xs).flatten.length=k * xs.length:=by
 induction k with
 | zero=>simp
 | succ k B=>rw[cQ,ce,O5,B,gH,Nat.add_comm]
theorem Qrg:OpR X (aX .Mult) Qyj:=by
 intro pins s σ H x y v u Q I rx ry h;obtain⟨l,k,xs,rfl,rfl,hH,h1,h2,hz,q⟩:=h;cases rx;obtain⟨t,rfl⟩:=ry;obtain⟨z,its,n,r,hl,e⟩:=I.lstM hH;have J:its.toArray.size * k.toNat<=sizeLine:=by rw[D0,<- hl];exact hz
 have Y:¬ its.toArray.size * k.toNat > (2 ^ 63 - 1) / 8:=by
  have:(sizeLine:Nat)<=(2 ^ 63 - 1) / 8:=by decide
  omega
 have Z:¬ (!Builtin.List.listFitsIndex k)=zi:=by
  rw[fitsIndex_both h1 h2];exact F5
 have B:¬ Builtin.List.listTooLong (its.toArray.size * k.toNat)=zi:=by
  rw[Q8j J];exact F5
 have O:dj (λx1 x2=>x1 ++ x2) #[] (bV (if its.toArray.isEmpty=zi then 0 else k.toNat) its.toArray)=(bV k.toNat its).flatten.toArray:=by
  have f0:∀ m:Nat,dj (λx1 x2=>x1 ++ x2) #[] (bV m its.toArray)=(bV m its).flatten.toArray:=λm=>by
   have:=Q1c its m [];rw[dE]at this;exact this
  rw[f0];cases its with
  | nil=>simp
  | cons a r'=>rw[bP (by simp)]
 refine wpAny_binaryOp_repeat_ref (T := "list") (U := "int") (by decide) ⟨_,e,rfl⟩ (λs'=>typeIs_int s' k t) noFill_list_mul F.fills_int_mul F.slot_int_rmul repeat_list F.slot_int_index.lookup
  (bD F.slot_int_rmul (typeIs_int s k t) F.entry_int_rmul (F.args_int_rmul_2 _ _) (int___rmul___int_list k t l its.toArray n)
   ⟨e,rfl,⟨_,e,rfl⟩,bD F.slot_list_mul ⟨_,e,rfl⟩ F.entry_list_mul (F.args_list_mul_2 _ _) (AutoListH.list___mul___list_int_3 l its.toArray n k t Z Y B) ⟨e,?_⟩⟩)
 rw[O];exact⟨.ref _,_,I.lnew (t':=s.toks) (r.rep k.toNat) (by rw[Q6z,ee];exact hz),rfl,q _ I.fresh⟩
end L2
namespace Att
open PySem PySem.W PySem.Calls PyProof.Rows
theorem Q1w{P:Params}{h:Heap}:∀ (ns:List Int) (vs:List aA),WellAll P h vs (ns.map WData.int)->IntsAre vs ns:=by
 intro ns
 induction ns with
 | nil=>
  intro vs w;rw[eY]at w;cases w;exact .nil
 | cons n ns B=>
  intro vs w;rw[D8]at w;cases w with
  | cons a b=>
   cases a;exact .cons _ _ (B _ b)
theorem Qdt {l:OpenLaw} {n:Nat} (hn:l.most=zo n) {P:Params} {h:Heap} {args:List WData} {B:List aA}
  (I:l.row.toRowW.claim.pre args=zi) (a1:WellAll P h B args) :
  ∃ a vs ns,B=[bX a]/\args=[WData.list (ns.map WData.int)]/\h.get? a=zo { cls:=.type "list",data:=.seq vs.toArray }/\IntsAre vs ns/\ns.length<=n:=by
 have Z:WShape.hasAll [] args [.list .int]=zi:=(pre_splitW I).1;have hc:l.pre.holds [] { args:=args }=zi:=(pre_splitW I).2;obtain⟨d,r,rfl,h1,h2⟩:=hasAllW_cons Z;obtain rfl:=hasAllW_nil h2;obtain⟨xs,rfl,h3⟩:=hasW_list h1;obtain⟨ns,rfl⟩:=items_int h3;have J:ns.length<=n:=by
  unfold OpenLaw.pre at hc;have Y:(WTm.not (.lt (.lit (.int (n:Int))) (.len (.arg 0)))).holds [] { args:=[.list (ns.map .int)] }=zi:=by
   have Y:=(holds_andW hc).1;rw[hn]at Y;exact Y
  have U:=condW_of Y (w_not (w_lt w_lit (w_len_list (w_arg rfl))));rw[O0]at U;refine Nat.le_of_not_lt λq=>?_
  have q':(n:Int) < ((ns.length:Nat):Int):=by omega
  first
   | (rw[bR q']at U;exact absurd U (by decide))
   | (simp at U;omega)
 cases a1 with
 | cons w1 w2=>
  cases w2;cases w1 with
  | list ho O=>exact⟨_,_,ns,rfl,rfl,ho,Q1w ns _ O,J⟩
theorem Qe1(l:OpenLaw)(args:List WData):l.row.toRowW.claim.post args (.bool zi) args=zi:=
 postW_of (r:=l.row.toRowW) (X:=(zi == zi))
  (show WShape.has [] (.bool zi) .bool=zi by first | rfl | decide | simp[WShape.has,WShape.arms,WShape.armsAll])
  (show(WTm.eq .res (.lit (.bool zi))).value [] { args:=args,res:=zo (.bool zi),after:=args }=zo (.bool (zi == zi))from w_eq_bool (w_res rfl) w_lit) rfl
theorem attach_call {l:OpenLaw} {n:Nat} {q:aM} {I:List Str} {XP:(Str->Option aA)->Heap->Prop} {YP:aJ->Heap->Prop} {d:DefRec}
  (hn:l.most=zo n) (a4:d.params.defaults=[])
  (call:∀ (w:aJ) (s₀ B:aD) (mg mb:Str->Option aA) (U:aB) (o:Obj) (pm cd O:aA) (a:aB) (vs:List aA) (ns:List Int),
   Ground q I [] XP w s₀ mg mb B.heap->YP w B.heap ->
   B.heap.get? U=zo o->o.data=.func (docDef d.name d.params d.body d.scope pm cd O)->B.heap.CodeRec cd d.name->mg d.name=zo (.ref U) ->
   B.heap.get? a=zo { cls:=.type "list",data:=.seq vs.toArray }->IntsAre vs ns->ns.length<=n->B.gens=#[] ->
   codeAny (aI l.prog w) callerA (.call (.ref U) ⟨[.ref a],[]⟩) (λr s'=>r=.ok (.ret (.bool zi))/\OldK B.heap s'.heap/\s'.os=B.os/\AllBare s'.gens) B) :
  WalkO q I XP YP l.row.toRowW d [] (λf vs=>eh f vs):=by
 intro w s₀ B mg mb G Y U o pm cd O dV kV ho hd a6 hD a3 hg args a7 as Z a8 b0 a5 a9;obtain rfl:dV=.none:=Dflts.none hD a4;obtain rfl:kV=.none:=Dflts.noKw hD;obtain⟨a,vs,ns,rfl,rfl,a1,J,a2⟩:=Qdt hn Z a5;refine enter_call (bL (call w s₀ B mg mb U o pm cd O a vs ns G Y ho (fd_plain hd) a6 a3 a1 J a2 hg) λr s' hq=>?_)
 obtain⟨rfl,h2,h3,h4⟩:=hq;exact⟨.inl ⟨.bool zi,.bool zi,[],rfl,λ_=>rfl,.bool zi,Qe1 l _,λ_=>⟨dm,λ_ hm=>(nomatch hm)⟩⟩,h2,h3,h4⟩
end Att
namespace L2
open PySem PySem.Spec PyProof.Rows
variable{k k1 k2:Nat}{a f it l z i1 i2 l1 l2:aB}{fd:aO}{x:Str}{ns:List Int}{st:aK}{ta:TA}{h h':Heap}{Q:zAC}{t1 t2:Bool}{b:aA}{xs:List V}{tp:Pos}{o:HO}{cl:List (Str × aB)}
theorem Q50:∀ {vs:List aA} {ns:List Int},IntsAre vs ns->Vals (ns.map V.int) vs
 | _,_,.nil=>.nil
 | _,_,.cons n t h=>.cons ⟨t,rfl⟩ (Q50 h)
def Qtd(H:Hp):Prop:=∀ b,H b=zl\/∃ o xs,H b=zo (.frz o (.lst xs))
theorem Qhx {P:aM} {w:aJ} {K:bS} {mg mb:zAD} {CX:CXT} {k:Nat} {fa a:aB} {fd:aO} {x:Str} {sp:Sp} {B:aD} {vs:List aA} {ns:List Int}
  (KX:K.In B.heap) (a2:B.heap.Ns aS mg) (J:B.heap.Ns builtinsNs mb) (a5:∀ x:Str,x≠"__name__" -> mb x=aW x) (a1:B.heap.NoLimit) (hg:B.gens=#[])
  (ha:B.heap.get? a=zo { cls:=.type "list",data:=.seq vs.toArray }) (hi:IntsAre vs ns) (hl:ns.length<=sizeLine) (hr:Room k callerA)
  (F:∀ base:Heap,K.In base->base.Ns aS mg->FnOk P w K mg base CX k fa fd [x] sp) (Y:∀ (s:aD) (u:aA),BindsTo s fd ⟨[u],[]⟩ [(x,u)])
  (a6:∀ H:Hp,Qtd H->SqL K H a (ns.map V.int)->sp [.ref a] H (λv _=>v=.bl zi) λ_ _ _=>False)
  (a7:∀ H e s',CX [] H B (λ_ _ _=>False) e s'->False) :
  codeAny (aI P w) callerA (.call (.ref fa) ⟨[.ref a],[]⟩) (λr s'=>r=.ok (.ret (.bool zi))/\OldK B.heap s'.heap/\s'.os=B.os/\AllBare s'.gens) B:=by
 have rv:=Q50 hi;have a3:=hi.length;have U:∀ H:Hp,Qtd H->SqL K H a (ns.map V.int)->HOk P w H B.heap->(∀ b,H b≠zl->b=a)->(H a≠zl->K.lookup a=zl) ->
   codeAny (aI P w) callerA (.call (.ref fa) ⟨[.ref a],[]⟩) (λr s'=>r=.ok (.ret (.bool zi))/\OldK B.heap s'.heap/\s'.os=B.os/\AllBare s'.gens) B:=by
  intro H hO hS hok hA hK;have I:∀ {b:aB} {o:Obj},B.heap.get? b=zo o->H b=zl->(Q76 B.heap H).get? b=zo o:=λe n=>Qi7 e n
  have a8:∀ {b:aB} {o:Obj} {es:Array DictEntry} {ep:Nat},B.heap.get? b=zo o->o.data=.dict es ep->H b=zl:=λ{b o es ep} e d=>by
   cases q:H b with
   | none=>rfl
   | some u=>
    have e':b=a:=hA b (by rw[q];simp);subst e';rw[ha]at e;cases e;have d':Data.seq vs.toArray _=Data.dict es ep:=d;cases d'
  have O:∀ {b:aB} {m:zAD},B.heap.Ns b m->(Q76 B.heap H).Ns b m:=λ{b m} ⟨o,es,ep,e,d,r⟩=>⟨o,es,ep,I e (a8 e d),d,r⟩
  have a4:K.In (Q76 B.heap H):=λb o e=>I (KX b o e) (by
   cases q:H b with
   | none=>rfl
   | some u=>
    have e':b=a:=hA b (by rw[q];simp);subst e';rw[hK (by rw[q];simp)]at e;cases e)
  have hM:Mod K mg (Q76 B.heap H):=⟨a4,O a2,⟨mb,O J,a5⟩,let ⟨mc,h1,h2⟩:=a1;⟨mc,O h1,h2⟩⟩;have e0:Env0 P w K mg (Q76 B.heap H) callerA [] B H:=⟨rfl,hM,λb o e=>Qmg e,eu (Qes _ _),trivial,λb J=>absurd (show b∈([]:List aB)from J) (by simp),hok,.of_eq hg⟩;refine bL ((F _ a4 (O a2)).run callerA [] B H ⟨[.ref a],[]⟩ [.ref a] [.ref a] _ _ hr e0 (Y B (.ref a)) (.cons rfl .nil) (a6 H hO hS)) λr s' h=>?_
  cases r with
  | error e=>exact(a7 H e s' h).elim
  | ok fl=>
   cases fl with
   | next=>exact False.elim h
   | brk=>exact False.elim h
   | cont=>exact False.elim h
   | ret u=>
    obtain⟨v,H',os,bare,un,Z,r',q⟩:=h;have q':v=.bl zi:=q;subst q';obtain rfl:u=cL zi:=r';refine⟨rfl,OldK.of_keep λb o e=>?_,os,bare⟩;cases q:H b with
    | none=>exact un.keep b o e q (by intro z;exact absurd (show b∈([]:List aB)from z) (by simp)) (by simp)
    | some u=>
     rcases hO b with z | ⟨ob,xs,z⟩
     ·rw[q]at z;cases z
     ·have z2:=un.frzs b ob _ z;obtain⟨e1,_⟩:=hok b _ z;obtain⟨e2,_⟩:=Z b _ z2;rw[e]at e1;cases e1;exact e2
 cases hk:K.lookup a with
 | some o=>
  have e:=KX a o hk;rw[ha]at e;cases e;refine U (λ_=>zl) (λ_=>.inl rfl) (.inr ⟨_,vs.toArray,_,hk,rfl,rfl,rfl,by rw[D0,a3];exact hl,by simpa using rv⟩) (λb u z=>by have z':(zl:Option HO)=zo u:=z;cases z') (λb z=>absurd rfl z) λz=>absurd rfl z
 | none=>
  refine U (λb=>if b=a then zo (.frz { cls:=.type "list",data:=.seq vs.toArray } (.lst (ns.map V.int)))else zl) (λb=>?_) (.inl (.inr ⟨{ cls:=.type "list",data:=.seq vs.toArray },bO rfl⟩)) (λb u z=>?_) (λb z=>?_) λ_=>hk
  ·by_cases J:b=a
   ·exact .inr ⟨_,_,bO J⟩
   ·exact .inl (bP J)
  ·by_cases J:b=a
   ·have z':=(bO J).symm.trans z;cases z';subst J;exact⟨ha,by rw[O0];exact hl,vs,_,rv,ha⟩
   ·have z':=(bP J).symm.trans z;cases z'
  ·by_cases J:b=a
   ·exact J
   ·exact absurd (bP J) z
theorem walk_of {l:fA} {n k:Nat} {q:aM} {I:List Str} {XP:(Str->Option aA)->Heap->Prop} {YP:aJ->Heap->Prop} {d:DefRec} {K:Params->bS} {CX:aJ->CXT} {sp:aJ->Sp} {x:Str}
  (hn:l.most=zo n) (a3:n<=sizeLine) (a2:d.params.defaults=[]) (hr:Room k callerA)
  (hY:∀ (w:aJ) (h:Heap),YP w h->(K w.params).In h)
  (F:∀ (w:aJ) (mg:zAD) (Z:aB) (h:Heap),(K w.params).In h->h.Ns aS mg->mg d.name=zo (.ref Z) ->
   ∃ fd:aO,(∀ (s:aD) (u:aA),BindsTo s fd ⟨[u],[]⟩ [(x,u)]) /\
    ∀ base:Heap,(K w.params).In base->base.Ns aS mg->FnOk l.prog w (K w.params) mg base (CX w) k Z fd [x] (sp w))
  (a4:∀ (w:aJ) (H:Hp) (a:aB) (ns:List Int),ns.length<=n->Qtd H->SqL (K w.params) H a (ns.map V.int)->sp w [.ref a] H (λv _=>v=.bl zi) λ_ _ _=>False)
  (a5:∀ (w:aJ) (H:Hp) (s:aD) (e:aA) (s':aD),CX w [] H s (λ_ _ _=>False) e s'->False) :
  gI q I XP YP l.row.toRowW d [] (λf vs=>eh f vs):=by
 refine Att.attach_call hn a2 λw s₀ O mg mb Z o pm cd a6 a vs ns G Y ho hd a7 a1 U J B hg=>?_
 have KX:=hY w _ Y;obtain⟨fd,hb,hF⟩:=F w mg Z _ KX G.T.g a1;exact Qhx KX G.T.g G.T.b G.T.builtins G.T.nolimit hg U J (F8 B a3) hr hF hb (λH hO hS=>a4 w H a ns B hO hS) λH e s'=>a5 w H O e s'
def Wf(s:aK):Arguments:=match s with
 | .FunctionDef _ a _ _ _ _ _ _ _ _=>a
 | _=>{ posonlyargs:=[],args:=[],vararg:=zl,kwonlyargs:=[],kw_defaults:=[],kwarg:=zl,defaults:=[] }
def Ze(s:aK):List aK:=match s with
 | .FunctionDef _ _ b _ _ _ _ _ _ _=>b
 | _=>[]
def Qe(s:aK):Scope:=match s with
 | .FunctionDef _ _ _ _ _ _ sc _ _ _=>sc
 | _=>{ kind:=.function,names:=[],isGenerator:=zb,isCoroutine:=zb }
abbrev E0:XK:=λ_ _ _=>False
structure Fun(K:bS)(x qual:Str)(st:aK)(f:aB)(fd:aO):Prop where
 ex:∃ (oc:aA) (od:Option aB) (kV doc pm:aA) (an:Option aB) (cdv ct:aA) (osl:Array (Option aA)),
  fd=bc x qual (Wf st) (Ze st) (Qe st) .none kV doc pm an cdv ct/\K.lookup f=zo ⟨oc,od,.func fd,osl⟩/\cP K cdv qual=zi
 kp:cC K (.ref f)=zi
variable{P:aM}{K:bS}{mg:zAD}{base:Heap}
section
variable{w:aJ}
theorem Fun.binds {qual:Str} {ps:List Str} (F:Fun K x qual st f fd)
  (h:∀ (kV I O:aA) (J:Option aB) (B ct:aA) (us:List aA),us.length=ps.length->bindArgs (bc x qual (Wf st) (Ze st) (Qe st) .none kV I O J B ct) ⟨us,[]⟩=pure (ps.zip us)):Binds K fd ps []:=by
 obtain⟨oc,Z,kV,I,O,J,B,ct,Y,rfl,lk,U⟩:=F.ex;exact .all (h kV I O J B ct)
theorem Qid {qual:Str} {oc:aA} {Y U:Option aB} {J:Array (Option aA)} {kV I O B ct:aA} (l:K.lookup f=zo ⟨oc,Y,.func (bc x qual (Wf st) (Ze st) (Qe st) .none kV I O U B ct),J⟩)
  (c:cP K B qual=zi) (k:cC K (.ref f)=zi):Fun K x qual st f (bc x qual (Wf st) (Ze st) (Qe st) .none kV I O U B ct):=⟨⟨oc,Y,kV,I,O,U,B,ct,J,rfl,l,c⟩,k⟩
end
variable{X:Cx}
theorem pv (i:Nat) {pos:Pos} (J:X.N[i]?=zo x:=by rfl) (I:Vis X.env.scope x:=by first | exact Or.inl rfl | exact Or.inr (Or.inl rfl) | exact Or.inr (Or.inr rfl)) (hd:(x == ("__debug__" : Str))=zb:=by decide)
  (B:(x == ("__classdict__" : Str))=zb:=by decide):PE X (.Name x pos) (Qu1 i):=Qh1 J I hd B
def Same(H H':Hp):Prop:=∀ b o,H b=zo o->H' b=zo o
theorem Same.refl(H:Hp):Same H H:=λ_ _ h=>h
def Qnm(lo c:Int)(n:Nat):It:=⟨λi _=>i < n,λi H x H'=>H'=H/\x=.int (lo + i * c),λi _=>n<=i⟩
theorem Q7r{w:aJ}{tg:aH}(it:aB)(lo c:Int)(n:Nat):Turn P w K tg (Qnm lo c n) [it] it (λi h=>IsRangeIter h it (lo + (i:Nat) * c) ((n:Int) - (i:Nat)) c) where
 mem:=by simp
 obj:=λi h st b B=>by
  have e:b=it:=by simpa using B
  subst e;exact⟨_,st,λv z=>by
   have z':Data.fields _=Data.cell v:=z;cases z'⟩
 keep:=λi h h' st k=>k it (by simp) _ st
 item:=by
  intro X O hw Y Z i pins s σ H E I J st hg;subst O hw Y;obtain⟨f0,f1,f2,f3,f4,U⟩:=J it (by simp);have W:=Walks.range (prog:=X.prog) (w:=X.w) (I.ok.hd Z) it lo c n;refine W.item i s _ _ hg st λv h' tk hv st' kk=>?_
  obtain⟨t,rfl⟩:=hv;have I1:Inv X pins σ H { s with heap:=h',toks:=tk }:=I.turned (λb o B e=>kk b o (by simpa using B) e) f0 f1 f3 f4 U
  exact⟨_,rfl,Q95 (s:={ s with heap:=h',toks:=tk }) (n := "range_iterator") st' rfl rfl (by decide) ⟨.int (lo + i * c),H,I1,⟨t,rfl⟩,⟨rfl,rfl⟩,st',λb B=>(J b B).1⟩⟩
 done:=by
  intro X O hw Y Z i pins s σ H E I J st hg;subst O hw Y;obtain⟨f0,f1,f2,f3,f4,U⟩:=J it (by simp);exact wpAny_pyNext_range_end (I.ok.hd Z) st (by have:n<=i:=hg;omega) λh' eb=>⟨rfl,I.turned (t':=s.toks) (λb o B e=>eb b o B e) f0 f1 f3 f4 U⟩
 self:=λ_ _ _ _ _ st h=>wpAny_pyIter_rangeiter st h
variable{tg:aH}
def rsz(a b c:Int):Nat:=(Builtin.Range.rangeSize a b c).toNat
theorem Qa4(a b c:Int):0<=Builtin.Range.rangeSize a b c:=by
 unfold Builtin.Range.rangeSize
 split
 ·split
  ·rename_i h1 h2;have:=gJ (show 0<=b - a - 1 by omega) (show 0<=c by omega);omega
  ·omega
 ·split
  ·rename_i h1 h2;have:=gJ (show 0<=a - b - 1 by omega) (show 0<=-c by omega);omega
  ·omega
theorem Qga{a b c:Int}(B:c≠0){M:Int}(h0:0<=M)(h1:b - a<=M)(h2:a - b<=M):Builtin.Range.rangeSize a b c<=M:=by
 unfold Builtin.Range.rangeSize
 split
 ·split
  ·rename_i p q;have:=gK c (show 0<=b - a - 1 by omega);omega
  ·exact h0
 ·split
  ·rename_i p q;have:=gK (-c) (show 0<=a - b - 1 by omega);omega
  ·exact h0
theorem Qdx {pins:zAA} {σ:St} {H:Hp} {s:aD} {R:It->Hp->Prop} {E:zAC} {lo hi c:Int} {t u v:Tok} {B:Nat} (I:Inv X pins σ H s) (hs:Builtin.Range.small lo hi c=zi)
  (q:R (Qnm lo c (rsz lo hi c)) H):aF (aI X.prog X.w) X.A (pyIter (.ref s.heap.objs.size)) (PIE X pins σ tg R) E { s with heap:=s.heap.push { cls:=.type "range",data:=.fields #[.int lo t,.int hi u,.int c v] },toks:=B }:=by
 refine wpAny_pyIter_range (IsRange.new ..) hs ?_;have J:Inv X pins σ H { s with heap:=s.heap.push { cls:=.type "range",data:=.fields #[.int lo t,.int hi u,.int c v] },toks:=B }:=I.kept λb o e=>O4 _ e
 refine⟨(s.heap.push { cls:=.type "range",data:=.fields #[.int lo t,.int hi u,.int c v] }).objs.size,[(s.heap.push { cls:=.type "range",data:=.fields #[.int lo t,.int hi u,.int c v] }).objs.size],_,_,H,rfl,
  J.kept (t':=B) λb o e=>O4 _ e,Q7r _ lo c (rsz lo hi c),?_,λb O=>?_,q⟩
 ·have e1:lo + ((0:Nat):Int) * c=lo:=by simp
  have e2:(((rsz lo hi c:Nat):Int)) - ((0:Nat):Int)=Builtin.Range.rangeSize lo hi c:=by unfold rsz;have:=Qa4 lo hi c;omega
  show IsRangeIter _ _ (lo + ((0:Nat):Int) * c) ((rsz lo hi c:Int) - ((0:Nat):Int)) c;rw[e1,e2];exact E6 _ rfl
 ·have e:b=(s.heap.push { cls:=.type "range",data:=.fields #[.int lo t,.int hi u,.int c v] }).objs.size:=by simpa using O
  subst e;exact J.fpOk (O9 _) (J.hok.fresh (O9 _))
def Qw0(ta:TA):TI:=λσ H R=>ta σ H λvs H1=>∃ i j c:Int,vs=[.int i,.int j,.int c]/\(c≠0/\-1000000<=i/\i<=1000000/\-1000000<=j/\j<=1000000/\-1000000<=c/\c<=1000000)/\R (Qnm i c (rsz i j c)) H1
theorem Q5u{a:Int}(h1:-(2 ^ 62)<=a)(h2:a < 2 ^ 62):Builtin.Range.rangeFitsLong a=zi:=by
 unfold Builtin.Range.rangeFitsLong;simp only[L9,decide_eq_true_eq];omega
theorem Qq2{a b c:Int}(B:c≠0)(h1:-1000000<=a)(h2:a<=1000000)(U:-1000000<=b)(Y:b<=1000000)(I:-1000000<=c)(J:c<=1000000):Builtin.Range.small a b c=zi:=by
 have Z:=Qa4 a b c;have O:=Qga (a:=a) (b:=b) B (M:=2000000) (by omega) (by omega) (by omega);unfold Builtin.Range.small;rw[Q5u (a:=a) (by omega) (by omega),Q5u (a:=b) (by omega) (by omega),Q5u (a:=c) (by omega) (by omega),Q5u (by omega) (by omega)]
 split
 ·rw[Q5u (by omega) (by omega)];simp
 ·rw[Q5u (by omega) (by omega)];simp
theorem Qe3 {a b c:aH} {p pos:Pos} (hg:Gl X "range") (hm:X.mg "range" = zl) (ha:PA X [a,b,c] ta) (hs:aN [a,b,c] X.env=[(zb,aL a X.env),(zb,aL b X.env),(zb,aL c X.env)]:=by rfl) (B:aN [b,c] X.env=[(zb,aL b X.env),(zb,aL c X.env)]:=by rfl) :
  PI X tg (.Call (.Name "range" p) [a,b,c] [] pos) (Qw0 ta):=by
 intro pins s σ H R I h;refine Call_ (yn I hg hm boot_range (dA (thn (ha pos pins s σ H _ I h) λus s1 ⟨vs,H1,I1,r1,O⟩=>?_) (by rw[hs,B]) (by rw[B];rfl)))
 obtain⟨i,j,c,e,⟨Y,O,q2,Z,q4,q5,q6⟩,q⟩:=O;subst e;cases r1 with
 | cons r J=>
  cases J with
  | cons r' J=>
   cases J with
   | cons U J=>
    cases J;obtain⟨t,rfl⟩:=r;obtain⟨t',rfl⟩:=r';obtain⟨a1,rfl⟩:=U;refine call_range_3 Y (Qdx I1 (Qq2 Y O q2 Z q4 q5 q6) q) (.inl ?_);exact PyProof.noPylong_small (by omega)
theorem Qb6 {scope:Scope} {env:Env} (h:∀ x∈scope.names,x.2=.free->∃ c,env.cells.lookup x.1=zo c) :
  ∃ cl,closureFor scope env=pure cl/\(∀ x c,cl.lookup x=zo c->env.cells.lookup x=zo c)/\(∀ x∈scope.names,x.2=.free->∃ c,cl.lookup x.1=zo c):=by
 have key:∀ (l:List (Str × ar)) (B:List (Str × aB)),(∀ x∈l,x.2=.free->∃ c,env.cells.lookup x.1=zo c)->(∀ x c,B.lookup x=zo c->env.cells.lookup x=zo c) ->
   ∃ cl,(forIn l B λ(x:Str × ar) (r:List (Str × aB))=>(match x with
    | (name,kind)=>if(kind == NameKind.free)=zi then(do let c <- cellOf env name;pure (ForInStep.yield ((name,c) :: r)))else(do pure PUnit.unit;pure (ForInStep.yield r)):Sem (ForInStep (List (Str × aB)))))=pure cl /\
    (∀ x c,cl.lookup x=zo c->env.cells.lookup x=zo c)/\(∀ x∈l,x.2=.free->∃ c,cl.lookup x.1=zo c)/\(∀ x c,B.lookup x=zo c->∃ J,cl.lookup x=zo J):=by
  intro l
  induction l with
  | nil=>intro B _ Z;exact⟨B,rfl,Z,λx Y=>(by simp at Y),λx c e=>⟨c,e⟩⟩
  | cons x r ih=>
   intro B hl Z;obtain⟨n,k⟩:=x
   by_cases hk:k=.free
   ·subst hk;obtain⟨c,hc⟩:=hl (n,.free) D3 rfl;have a1:∀ x J,((n,c) :: B).lookup x=zo J->env.cells.lookup x=zo J:=λx J e=>by
     rw[bu]at e
     by_cases Y:x=n
     ·subst Y;simp at e;rw[<- e];exact hc
     ·have:(x == n)=zb:=by simpa using Y
      rw[this]at e;exact Z x J e
    obtain⟨cl,e1,e2,e3,U⟩:=ih ((n,c) :: B) (λy I=>hl y (O6 _ I)) a1
    refine⟨cl,?_,e2,λy I hf=>?_,λy J e=>?_⟩
    ·rw[dF];have O:cellOf env n=pure c:=by unfold cellOf;rw[hc]
     simp only[beq_self_eq_true,if_true,O];exact e1
    ·rcases E2.mp I with e | I
     ·subst e;exact U n c (by simp)
     ·exact e3 y I hf
    ·by_cases I:y=n
     ·subst I;exact U y c (by simp)
     ·have:(y == n)=zb:=by simpa using I
      exact U y J (by rw[bu,this];exact e)
   ·obtain⟨cl,e1,e2,e3,U⟩:=ih B (λy I=>hl y (O6 _ I)) Z
    refine⟨cl,?_,e2,λy I hf=>?_,U⟩
    ·rw[dF];have:(k == NameKind.free)=zb:=by simpa using hk
     simp only[this,L0,if_false];exact e1
    ·rcases E2.mp I with e | I
     ·subst e;exact absurd hf hk
     ·exact e3 y I hf
 obtain⟨cl,e1,e2,e3,_⟩:=key scope.names [] h (λx c e=>by simp at e);refine⟨cl,?_,e2,e3⟩;unfold closureFor;exact(congrArg (λz=>z >>= pure) e1).trans rfl
theorem Q09(f:Str->ar->ar)(x:Str):∀ l:List (Str × ar),(l.map λy=>(y.1,f y.1 y.2)).lookup x=(l.lookup x).map (f x)
 | []=>rfl
 | (n,k) :: r=>by
  have J:=Q09 f x r;rw[D8,bu,bu]
  by_cases B:x=n
  ·subst B;simp
  ·have I:(x == n)=zb:=by simpa using B
   rw[I];exact J
theorem ja {scope:Scope} {env:Env} :(relabel scope env).names.lookup x =
  (scope.names.lookup x).map λk=>if(k == .free && env.scope.kind == .function && env.kindOf x == zo .cell)then .cell else k:=by
 rw[<- Q09 (λn k=>if(k == .free && env.scope.kind == .function && env.kindOf n == zo .cell)then .cell else k)]
 unfold relabel;refine congrArg (List.lookup x) (L5 λy _=>?_);obtain⟨n,k⟩:=y;show(if(k == NameKind.free && env.scope.kind == .function && env.kindOf n == zo .cell)=zi then(n,NameKind.cell)else(n,k))=_
 split <;> rfl
def Q0h(cap:zAB)(σ:St):St:=cap.map λc=>c.bind λj=>(σ[j]?).join
def HasItems(t:Bool)(h:Heap)(a:aB)(items:Array aA):Prop:=if t=zi then h.IsTuple a items else h.IsList a items
def IterAt(t:Bool)(h:Heap)(it a:aB)(i:Nat):Prop:=if t=zi then h.IsTupleIter it a i else h.IsListIter it a i
theorem HasItems.at{t:Bool}{B:Array aA}(x:HasItems t h a B)(k:∀ o,h.get? a=zo o->h'.get? a=zo o):HasItems t h' a B:=by
 cases t
 ·exact Heap.IsList.at x k
 ·obtain⟨o,e,r⟩:=x;exact⟨o,k o e,r⟩
theorem HasItems.there{t:Bool}{B:Array aA}(x:HasItems t h a B):∃ o,h.get? a=zo o:=by
 cases t
 ·obtain⟨o,e,_⟩:=x;exact⟨o,e⟩
 ·obtain⟨o,e,_⟩:=x;exact⟨o,e⟩
theorem IterAt.at{t:Bool}{i:Nat}(x:IterAt t h it a i)(k:∀ o,h.get? it=zo o->h'.get? it=zo o):IterAt t h' it a i:=by
 cases t
 ·exact Heap.IsListIter.at x k
 ·obtain⟨o,e,r⟩:=x;exact⟨o,k o e,r⟩
theorem IterAt.there{t:Bool}{i:Nat}(x:IterAt t h it a i):∃ o,h.get? it=zo o/\∀ v,o.data≠.cell v:=by
 cases t
 ·obtain⟨o,e,_,d⟩:=x;exact⟨o,e,λv z=>by rw[d]at z;cases z⟩
 ·obtain⟨o,e,_,d⟩:=x;exact⟨o,e,λv z=>by rw[d]at z;cases z⟩
variable{prog:aM}{A:aQ}{E:zAC}{s:aD}
section
variable{w:aJ}
theorem Q02 {i:Nat} {items} {x:aA} {Q:zAC} (B:s.heap.IsTupleIter it l i)
  (hl:s.heap.IsTuple l items) (U:items[i]?=zo x)
  (Y:∀ h',h'.IsTupleIter it l (i + 1)->Heap.SameBut it s.heap h'->Q x { s with heap:=h' }) :
  aF (aI prog w) A (Builtin.SmallTypes.nextOf (.ref it)) Q E s:=by
 obtain⟨o,I,Z,hd⟩:=id B;obtain⟨ol,O,_,nl,J⟩:=hl;unfold Builtin.SmallTypes.nextOf;refine aC (wpAny_callSpecial?_slot (name:=bf "__next__") B.typeIs F.slot_tuple_iterator_next
  (aa F.slot_tuple_iterator_next B.typeIs F.entry_tuple_iterator_next ?_ (F.args_tuple_iterator_next_1 _)))
 show aF _ _ (field (.ref it) 0 >>= _) _ _ s;refine aC (aU I hd (x:=.ref l) rfl ?_);show aF _ _ (if(bX l == bW)=zi then _ else _) _ _ s;rw[bP (show ¬ ((bX l == bW)=zi)from F5)];show aF _ _ (field (.ref it) 1 >>= _) _ _ s;refine aC (aU I hd (x:=.int i 0) rfl ?_);show aF _ _ (seqItems? (.ref l) >>= _) _ _ s;refine aC (bC O J ?_);simp only[bh,U];refine aC (wpAny_setField I hd (by simp) (wpAny_pure ⟨x,rfl,wpAny_pure (Y _ ?_ (Heap.SameBut.update ..))⟩));exact⟨_,M9 _ I (fB (cf hd _)),(gL ..).trans Z,by
  rw[cf hd];simp[ae]⟩
theorem Q10 {it l:aB} {i:Nat} {items} {Q:zAC} (U:A.handled=zl)
  (B:s.heap.IsTupleIter it l i) (hl:s.heap.IsTuple l items) (Y:items[i]?=zl)
  (Z:∀ h' e,Heap.ExtBut it s.heap h'->(∃ o,h'.get? e=zo o/\o.cls=.type "StopIteration")->E (.ref e) { s with heap:=h' }) :
  aF (aI prog w) A (Builtin.SmallTypes.nextOf (.ref it)) Q E s:=by
 obtain⟨o,I,hc,hd⟩:=id B;obtain⟨ol,O,_,nl,J⟩:=hl;unfold Builtin.SmallTypes.nextOf;refine aC (wpAny_callSpecial?_slot (name:=bf "__next__") B.typeIs F.slot_tuple_iterator_next
  (aa F.slot_tuple_iterator_next B.typeIs F.entry_tuple_iterator_next ?_ (F.args_tuple_iterator_next_1 _)))
 show aF _ _ (field (.ref it) 0 >>= _) _ _ s;refine aC (aU I hd (x:=.ref l) rfl ?_);show aF _ _ (if(bX l == bW)=zi then _ else _) _ _ s;rw[bP (show ¬ ((bX l == bW)=zi)from F5)];show aF _ _ (field (.ref it) 1 >>= _) _ _ s;refine aC (aU I hd (x:=.int i 0) rfl ?_);show aF _ _ (seqItems? (.ref l) >>= _) _ _ s;refine aC (bC O J ?_);simp only[bh,Y];refine aC (ak (aC (wpAny_setField I hd (by simp) ?_)));show aF _ _ (newExc (.type "StopIteration") [] >>= _) _ _ _;refine aC ?_;simp only[newExc,newTuple];refine aC (bA ?_ (by size_fits));refine aC (m:=firstArgMember _ _) (wpAny_of_eq (a:=bW) (by first | rfl | (simp only[firstArgMember];rfl)) ?_);refine bA ?_ (by size_fits);simp only[bN]
 refine aC (wpAny_handled ?_)
 first | rw[show A.in1.handled=zl from U] | rw[U]
 refine aC (wpAny_pure (wpAny_throw ?_));exact Z _ _ (((Heap.SameBut.update ..).extBut.push _).push _) ⟨_,E6 _ rfl,rfl⟩
theorem Xq {t:Bool} {i:Nat} {B:Array aA} {x:aA} {Q:zAC} (I:IterAt t s.heap it l i)
  (U:HasItems t s.heap l B) (J:B[i]?=zo x)
  (O:∀ h',IterAt t h' it l (i + 1)->Heap.SameBut it s.heap h'->Q x { s with heap:=h' }) :
  aF (aI prog w) A (Builtin.SmallTypes.nextOf (.ref it)) Q E s:=by
 cases t
 ·exact wpAny_nextOf_list_item I U J O
 ·exact Q02 I U J O
theorem qc {t:Bool} {it l:aB} {i:Nat} {B:Array aA} {Q:zAC} (Y:A.handled=zl)
  (I:IterAt t s.heap it l i) (U:HasItems t s.heap l B) (J:B[i]?=zl)
  (O:∀ h' e,Heap.ExtBut it s.heap h'->(∃ o,h'.get? e=zo o/\o.cls=.type "StopIteration")->E (.ref e) { s with heap:=h' }) :
  aF (aI prog w) A (Builtin.SmallTypes.nextOf (.ref it)) Q E s:=by
 cases t
 ·exact wpAny_nextOf_list_end Y I U J O
 ·exact Q10 Y I U J O
def Ve(t:Bool)(l:aB):Obj:=if t=zi then { cls:=.type "tuple_iterator",data:=.fields #[.ref l,.int 0 0] }else { cls:=.type "list_iterator",data:=.fields #[.ref l,.int 0 0] }
theorem V3 {t:Bool} {B:Array aA} {Q:zAC} (I:HasItems t s.heap l B)
  (J:Q (.ref s.heap.objs.size) { s with heap:=s.heap.push (Ve t l) }):aF (aI prog w) A (pyIter (.ref l)) Q E s:=by
 cases t
 ·exact wpAny_pyIter_list I J
 ·exact bK I J
theorem yr{t:Bool}(e:h.get? it=zo (Ve t l)):IterAt t h it l 0:=by
 cases t
 ·exact⟨_,e,rfl,rfl⟩
 ·exact⟨_,e,rfl,rfl⟩
theorem qi(t:Bool)(l:aB):(Ve t l).isFreed=zb:=by cases t <;> rfl
theorem Qd9 {t1 t2:Bool} {TI TO:aB} {k1 k2:Nat} {xs ys:Array aA} {x y a b:aA} {Q:zAC} (D:ZipApart z TI TO i1 i2 l1 l2)
  (hz:IsZip s.heap z TI TO .none) (d0:aV s.heap TI (.ref i1) (.ref i2)) (d1:aV s.heap TO a b)
  (h1:IterAt t1 s.heap i1 l1 k1) (h2:IterAt t2 s.heap i2 l2 k2) (c9:HasItems t1 s.heap l1 xs) (d2:HasItems t2 s.heap l2 ys) (hx:xs[k1]?=zo x) (hy:ys[k2]?=zo y)
  (hQ:∀ h',IsZip h' z TI TO (ae s.heap.objs.size)->aV h' TO x y->IterAt t1 h' i1 l1 (k1 + 1)->IterAt t2 h' i2 l2 (k2 + 1)->aV h' s.heap.objs.size x y->h'.objs.size=s.heap.objs.size + 1 ->
   (∀ c o,c≠z->c≠TO->c≠i1->c≠i2->s.heap.get? c=zo o->h'.get? c=zo o)->Q (.ref s.heap.objs.size) { s with heap:=h' }) :
  aF (aI prog w) A (Builtin.«zip.__next__» ⟨[.ref z],[]⟩) (λfin s'=>∃ v,fin=.done (.ret v)/\Q v s') E s:=by
 show aF _ _ (field (.ref z) 2 >>= _) _ _ _;refine aC (aU hz rfl (x:=.bool zb) rfl ?_);show aF _ _ (field (.ref z) 3 >>= _) _ _ _;refine aC (aU hz rfl (x:=.ref TI) rfl ?_);refine aC (bC d0 rfl ?_);show aF _ _ (Builtin.SmallTypes.ownedTupleIsFree (.ref z) >>= _) _ _ _;refine aC ?_;unfold Builtin.SmallTypes.ownedTupleIsFree;refine aC (aU hz rfl (x:=.none) rfl (wpAny_pure ?_));simp only[if_true];refine aC (ak ?_);refine aC (aU hz rfl (x:=.ref TO) rfl ?_);refine aC (ay hz (by simp) λh₁ a6 I=>?_)
 replace a6:IsZip h₁ z TI TO .ellipsis:=a6;refine aC ?_;simp only[gM,gN,dF,dn];refine aC (aC (wpAny_onRaise ?_));show aF _ _ (Builtin.SmallTypes.nextOf (.ref i1) >>= _) _ _ _;refine aC (Xq (h1.at λo e=>I.extBut _ _ D.i1z e) (c9.at λo e=>I.extBut _ _ D.l1z e) hx λc8 b6 J=>wpAny_pure ?_)
 have a8:aV c8 TO a b:=J.extBut _ _ D.TOi1 (I.extBut _ _ D.TOz d1);refine aC (bC a8 rfl ?_);refine aC (wpAny_updateSeq_pair a8 λb9 a1 O=>?_);replace a1:aV b9 TO x b:=a1;refine aC (wpAny_letGo (wpAny_pure ?_));refine aC (aC (wpAny_onRaise ?_));show aF _ _ (Builtin.SmallTypes.nextOf (.ref i2) >>= _) _ _ _;refine aC (Xq (h2.at λo e=>O.extBut _ _ D.TOi2.symm (J.extBut _ _ D.i12.symm (I.extBut _ _ D.i2z e)))
  (d2.at λo e=>O.extBut _ _ D.l2TO (J.extBut _ _ D.l2i1 (I.extBut _ _ D.l2z e))) hy λc5 b5 Z=>wpAny_pure ?_)
 have a9:aV c5 TO x b:=Z.extBut _ _ D.TOi2 a1;refine aC (bC a9 rfl ?_);refine aC (wpAny_updateSeq_pair a9 λB U Y=>?_);replace U:aV B TO x y:=U;refine aC (wpAny_letGo (wpAny_pure (wpAny_pure ?_)));refine aC (bC U rfl ?_);refine aC (wpAny_newTuple ?_);have hsz:B.objs.size=s.heap.objs.size:=by rw[Y.1,Z.1,O.1,J.1,I.1]
 have b1:IsZip B z TI TO .ellipsis:=Y.extBut _ _ D.TOz.symm (Z.extBut _ _ D.i2z.symm (O.extBut _ _ D.TOz.symm (J.extBut _ _ D.i1z.symm a6)));have b3:∀ c o,c≠z->c≠TO->c≠i1->c≠i2->s.heap.get? c=zo o->B.get? c=zo o:=λc o c1 c2 c3 c4 e=>
  Y.extBut _ _ c2 (Z.extBut _ _ c4 (O.extBut _ _ c2 (J.extBut _ _ c3 (I.extBut _ _ c1 e))))
 have b8:IterAt t1 B i1 l1 (k1 + 1):=b6.at λo e=>Y.extBut _ _ D.TOi1.symm (Z.extBut _ _ D.i12 (O.extBut _ _ D.TOi1.symm e))
 have b4:IterAt t2 B i2 l2 (k2 + 1):=b5.at λo e=>Y.extBut _ _ D.TOi2.symm e
 have b2:z < B.objs.size:=E3 b1;show aF _ _ (Builtin.SmallTypes.ownedTupleHandOut (.ref z) (.ref B.objs.size) >>= _) _ _ _;refine aC ?_;unfold Builtin.SmallTypes.ownedTupleHandOut;have b7:IsZip (B.push { cls:=.type "tuple",data:=.seq #[x,y] }) z TI TO .ellipsis:=O4 _ b1;refine aC (ay b7 (by simp) λc7 a4 a5=>?_)
 replace a4:IsZip c7 z TI TO (ae B.objs.size):=a4;refine ay a4 (by simp) λa3 a2 a7=>?_
 replace a2:IsZip a3 z TI TO (ae B.objs.size):=a2;have up:∀ c o,c≠z->B.get? c=zo o->a3.get? c=zo o:=λc o c1 e=>a7.extBut _ _ c1 (a5.extBut _ _ c1 (O4 _ e))
 have b0:aV a3 B.objs.size x y:=a7.extBut _ _ (bj b2) (a5.extBut _ _ (bj b2) (E6 _ rfl));have c6:a3.objs.size=B.objs.size + 1:=by rw[a7.1,a5.1,G9]
 rw[hsz]at a2 b0 c6;refine wpAny_pure ⟨_,rfl,?_⟩;show Q (.ref B.objs.size) _;rw[hsz];exact hQ a3 a2 (up _ _ D.TOz U) (b8.at λo e=>up _ o D.i1z e) (b4.at λo e=>up _ o D.i2z e) b0 c6 λc o c1 c2 c3 c4 e=>up c o c1 (b3 c o c1 c2 c3 c4 e)
theorem Qfe {t1 t2:Bool} {TI TO:aB} {k1 k2:Nat} {xs ys:Array aA} {a b:aA} {Q:Fin->aD->Prop} (hh:A.handled=zl) (D:ZipApart z TI TO i1 i2 l1 l2)
  (hz:IsZip s.heap z TI TO .none) (b4:aV s.heap TI (.ref i1) (.ref i2)) (b5:aV s.heap TO a b)
  (h1:IterAt t1 s.heap i1 l1 k1) (h2:IterAt t2 s.heap i2 l2 k2) (b1:HasItems t1 s.heap l1 xs) (b6:HasItems t2 s.heap l2 ys) (a9:xs[k1]?=zl\/ys[k2]?=zl)
  (hE:∀ h' e,(∀ c o,c≠z->c≠TO->c≠i1->c≠i2->s.heap.get? c=zo o->h'.get? c=zo o)->(∃ o,h'.get? e=zo o/\o.cls=.type "StopIteration")->E (.ref e) { s with heap:=h' }) :
  aF (aI prog w) A (Builtin.«zip.__next__» ⟨[.ref z],[]⟩) Q E s:=by
 show aF _ _ (field (.ref z) 2 >>= _) _ _ _;refine aC (aU hz rfl (x:=.bool zb) rfl ?_);show aF _ _ (field (.ref z) 3 >>= _) _ _ _;refine aC (aU hz rfl (x:=.ref TI) rfl ?_);refine aC (bC b4 rfl ?_);show aF _ _ (Builtin.SmallTypes.ownedTupleIsFree (.ref z) >>= _) _ _ _;refine aC ?_;unfold Builtin.SmallTypes.ownedTupleIsFree;refine aC (aU hz rfl (x:=.none) rfl (wpAny_pure ?_));simp only[if_true];refine aC (ak ?_);refine aC (aU hz rfl (x:=.ref TO) rfl ?_);refine aC (ay hz (by simp) λh₁ O B=>?_)
 replace O:IsZip h₁ z TI TO .ellipsis:=O;refine aC ?_;simp only[gM,gN,dF,dn];refine aC (aC (wpAny_onRaise ?_));show aF _ _ (Builtin.SmallTypes.nextOf (.ref i1) >>= _) _ _ _;cases hx:xs[k1]? with
 | none=>
  refine aC (qc hh (h1.at λo e=>B.extBut _ _ D.i1z e) (b1.at λo e=>B.extBut _ _ D.l1z e) hx λa5 e I he=>?_)
  obtain⟨oe,U,a2⟩:=he;have a3:IsZip a5 z TI TO .ellipsis:=I _ _ D.i1z.symm O;have a7:e≠z:=λx=>by subst x;rw[a3]at U;cases U;simp at a2
  refine ay a3 (by simp) λa6 _ J=>hE a6 e (λc o c1 _ c3 _ x=>J.extBut _ _ c1 (I _ _ c3 (B.extBut _ _ c1 x))) ⟨oe,J.extBut _ _ a7 U,a2⟩
 | some x=>
  have hy:ys[k2]?=zl:=by rcases a9 with h | h;rw[hx]at h;cases h;exact h
  refine aC (Xq (h1.at λo e=>B.extBut _ _ D.i1z e) (b1.at λo e=>B.extBut _ _ D.l1z e) hx λa5 b3 I=>wpAny_pure ?_)
  have Y:aV a5 TO a b:=I.extBut _ _ D.TOi1 (B.extBut _ _ D.TOz b5);refine aC (bC Y rfl ?_);refine aC (wpAny_updateSeq_pair Y λa6 b2 J=>?_);refine aC (wpAny_letGo (wpAny_pure ?_));refine aC (aC (wpAny_onRaise ?_));show aF _ _ (Builtin.SmallTypes.nextOf (.ref i2) >>= _) _ _ _;refine aC (qc hh (h2.at λo e=>J.extBut _ _ D.TOi2.symm (I.extBut _ _ D.i12.symm (B.extBut _ _ D.i2z e)))
   (b6.at λo e=>J.extBut _ _ D.l2TO (I.extBut _ _ D.l2i1 (B.extBut _ _ D.l2z e))) hy λa8 e a4 he=>?_)
  obtain⟨oe,U,a2⟩:=he;have a1:IsZip a8 z TI TO .ellipsis:=a4 _ _ D.i2z.symm (J.extBut _ _ D.TOz.symm (I.extBut _ _ D.i1z.symm O));have a7:e≠z:=λx=>by subst x;rw[a1]at U;cases U;simp at a2
  refine ay a1 (by simp) λb0 _ Z=>hE b0 e (λc o c1 c2 c3 c4 x=>Z.extBut _ _ c1 (a4 _ _ c4 (J.extBut _ _ c2 (I.extBut _ _ c3 (B.extBut _ _ c1 x))))) ⟨oe,Z.extBut _ _ a7 U,a2⟩
theorem Q3i {t1 t2:Bool} {TI TO:aB} {k1 k2:Nat} {xs ys:Array aA} {x y a b:aA} {Q:Option aA->aD->Prop} (D:ZipApart z TI TO i1 i2 l1 l2)
  (hz:IsZip s.heap z TI TO .none) (B:aV s.heap TI (.ref i1) (.ref i2)) (J:aV s.heap TO a b)
  (h1:IterAt t1 s.heap i1 l1 k1) (h2:IterAt t2 s.heap i2 l2 k2) (O:HasItems t1 s.heap l1 xs) (I:HasItems t2 s.heap l2 ys) (hx:xs[k1]?=zo x) (hy:ys[k2]?=zo y)
  (hQ:∀ h',IsZip h' z TI TO (ae s.heap.objs.size)->aV h' TO x y->IterAt t1 h' i1 l1 (k1 + 1)->IterAt t2 h' i2 l2 (k2 + 1)->aV h' s.heap.objs.size x y->h'.objs.size=s.heap.objs.size + 1 ->
   (∀ c o,c≠z->c≠TO->c≠i1->c≠i2->s.heap.get? c=zo o->h'.get? c=zo o)->Q (zo (.ref s.heap.objs.size)) { s with heap:=h' }) :
  aF (aI prog w) A (ag (.ref z)) Q E s:=by
 have U:s.TypeIs (.ref z) "zip" := ⟨_,hz,rfl⟩;unfold ag;exact aC (wpAny_attempt (wpAny_callSpecial?_slot (name:=bf "__next__") U F.slot_zip_next
  (aa F.slot_zip_next U F.entry_zip_next
   (Qd9 D hz B J h1 h2 O I hx hy λh' a1 a2 Y a4 a5 Z a7=>wpAny_pure (hQ h' a1 a2 Y a4 a5 Z a7)) (F.args_zip_next_1 _))))
theorem Q4u {t1 t2:Bool} {TI TO:aB} {k1 k2:Nat} {xs ys:Array aA} {a b:aA} {Q:Option aA->aD->Prop} (hh:A.handled=zl) (D:ZipApart z TI TO i1 i2 l1 l2)
  (hz:IsZip s.heap z TI TO .none) (J:aV s.heap TI (.ref i1) (.ref i2)) (U:aV s.heap TO a b)
  (h1:IterAt t1 s.heap i1 l1 k1) (h2:IterAt t2 s.heap i2 l2 k2) (I:HasItems t1 s.heap l1 xs) (O:HasItems t2 s.heap l2 ys) (B:xs[k1]?=zl\/ys[k2]?=zl)
  (hQ:∀ h',(∀ c o,c≠z->c≠TO->c≠i1->c≠i2->s.heap.get? c=zo o->h'.get? c=zo o)->Q zl { s with heap:=h' }):aF (aI prog w) A (ag (.ref z)) Q E s:=by
 have Y:s.TypeIs (.ref z) "zip" := ⟨_,hz,rfl⟩;unfold ag;refine aC (wpAny_attempt (wpAny_callSpecial?_slot (name:=bf "__next__") Y F.slot_zip_next
  (aa F.slot_zip_next Y F.entry_zip_next (Qfe hh D hz J U h1 h2 I O B λh' e Z he=>?_) (F.args_zip_next_1 _))))
 obtain⟨o,ho,hc⟩:=he;refine aC (bJ (T := "StopIteration") (b:=zi) ⟨o,ho,hc⟩ isSubtype_stop ?_);exact wpAny_pure (hQ _ Z)
end
def zH1(t1:Bool)(h:Heap)(l1:aB):Heap:=h.push (Ve t1 l1)
def zH2(t1 t2:Bool)(h:Heap)(l1 l2:aB):Heap:=(zH1 t1 h l1).push (Ve t2 l2)
def zH3(t1 t2:Bool)(h:Heap)(l1 l2:aB):Heap:=(zH2 t1 t2 h l1 l2).push { cls:=.type "tuple",data:=.seq #[.ref h.objs.size,.ref (zH1 t1 h l1).objs.size] }
def zH4(t1 t2:Bool)(h:Heap)(l1 l2:aB):Heap:=(zH3 t1 t2 h l1 l2).push { cls:=.type "tuple",data:=.seq #[.none,.none] }
def zH5(t1 t2:Bool)(h:Heap)(l1 l2:aB):Heap:=(zH4 t1 t2 h l1 l2).push { cls:=.type "zip",data:=.fields #[.none,.bool zb,.bool zb,.ref (zH2 t1 t2 h l1 l2).objs.size,.ref (zH3 t1 t2 h l1 l2).objs.size] }
theorem Q3n (t1 t2:Bool) (l1 l2:aB) (xs ys:Array aA) :
  Meets (Builtin.«zip.__new__» ⟨[.type "zip",.ref l1,.ref l2],[]⟩) (λ_ R s=>HasItems t1 s.heap l1 xs/\HasItems t2 s.heap l2 ys /\
   R (.ok (.ret (.ref (zH4 t1 t2 s.heap l1 l2).objs.size))) { s with heap:=zH5 t1 t2 s.heap l1 l2 }):=
 .of_wp λprog w A R s h=>by
  obtain⟨Z,g,d,U,os⟩:=s;obtain⟨O,J,h⟩:=h;have Y:=sub_zip;have B:HasItems t1 (Shared.heap ⟨Z,g,d,U,os⟩) l1 xs:=O;have I:HasItems t2 (Shared.heap ⟨Z.push (Ve t1 l1),g,d,U,os⟩) l2 ys:=J.at λo e=>O4 _ e
  wp_walk using V3 B,V3 I
  exact⟨_,rfl,h⟩
section
variable{w:aJ}
theorem Qez {xs ys:Array aA} {Q:zAC} (B:HasItems t1 s.heap l1 xs) (Y:HasItems t2 s.heap l2 ys)
  (h:∀ h',IsZip h' (s.heap.objs.size + 4) (s.heap.objs.size + 2) (s.heap.objs.size + 3) .none->aV h' (s.heap.objs.size + 2) (.ref s.heap.objs.size) (.ref (s.heap.objs.size + 1)) ->
   aV h' (s.heap.objs.size + 3) .none .none->IterAt t1 h' s.heap.objs.size l1 0->IterAt t2 h' (s.heap.objs.size + 1) l2 0->h'.objs.size=s.heap.objs.size + 5 ->
   (∀ c o,s.heap.get? c=zo o->h'.get? c=zo o)->Q (.ref (s.heap.objs.size + 4)) { s with heap:=h' }) :
  aF (aI prog w) A (call (.type "zip") [.ref l1,.ref l2]) Q E s:=by
 refine callType_new F.called_zip (by decide) (F.typeCall_zip_2 _ _) (F.newCall_zip_2 _ _) (λobj=>F.args_object_init_3 obj _ _) F.entry_zip_new
  (Q3n t1 t2 l1 l2 xs ys) ⟨B,Y,?_⟩
 have J:(zH1 t1 s.heap l1).objs.size=s.heap.objs.size + 1:=G9 ..;have U:(zH2 t1 t2 s.heap l1 l2).objs.size=s.heap.objs.size + 2:=by unfold zH2;rw[G9,J]
 have Z:(zH3 t1 t2 s.heap l1 l2).objs.size=s.heap.objs.size + 3:=by unfold zH3;rw[G9,U]
 have I:(zH4 t1 t2 s.heap l1 l2).objs.size=s.heap.objs.size + 4:=by unfold zH4;rw[G9,Z]
 have z5:(zH5 t1 t2 s.heap l1 l2).objs.size=s.heap.objs.size + 5:=by unfold zH5;rw[G9,I]
 have O:(zH5 t1 t2 s.heap l1 l2).get? (zH4 t1 t2 s.heap l1 l2).objs.size=zo { cls:=.type "zip",data:=.fields #[.none,.bool zb,.bool zb,.ref (zH2 t1 t2 s.heap l1 l2).objs.size,.ref (zH3 t1 t2 s.heap l1 l2).objs.size] }:=E6 _ rfl;have g4:(zH5 t1 t2 s.heap l1 l2).get? (zH3 t1 t2 s.heap l1 l2).objs.size=zo { cls:=.type "tuple",data:=.seq #[.none,.none] }:=O4 _ (E6 _ rfl);have g3:(zH5 t1 t2 s.heap l1 l2).get? (zH2 t1 t2 s.heap l1 l2).objs.size=zo { cls:=.type "tuple",data:=.seq #[.ref s.heap.objs.size,.ref (zH1 t1 s.heap l1).objs.size] }:=O4 _ (O4 _ (E6 _ rfl));have g2:(zH5 t1 t2 s.heap l1 l2).get? (zH1 t1 s.heap l1).objs.size=zo (Ve t2 l2):=O4 _ (O4 _ (O4 _ (E6 _ (qi _ _))));have g1:(zH5 t1 t2 s.heap l1 l2).get? s.heap.objs.size=zo (Ve t1 l1):=O4 _ (O4 _ (O4 _ (O4 _ (E6 _ (qi _ _)))));show _/\_;rw[U,Z,I]at O;rw[J,U]at g3;rw[Z]at g4;rw[J]at g2;rw[I];exact⟨⟨_,O,rfl⟩,h _ O g3 g4 (yr g1) (yr g2) z5 λc o x=>
  O4 _ (O4 _ (O4 _ (O4 _ (O4 _ x))))⟩
end
def SqK(K:bS)(t:Bool)(H:Hp)(a:aB)(xs:List V):Prop:=if t=zi then SqT K H a xs else SqL K H a xs
variable{pins:zAA}{σ:St}{H:Hp}
theorem Inv.seqK{t:Bool}(I:Inv X pins σ H s)(h:SqK X.K t H a xs):∃ its:List aA,Vals xs its/\HasItems t s.heap a its.toArray/\xs.length<=sizeLine:=by
 cases t
 ·obtain⟨its,r,p,z⟩:=I.list h;exact⟨its,r,p.isList,z⟩
 ·obtain⟨its,r,p,z⟩:=I.tuple h;exact⟨its,r,p,z⟩
theorem Inv.seqK_inj{t:Bool}{ys:List V}(I:Inv X pins σ H s)(h:SqK X.K t H a xs)(h':SqK X.K t H a ys):xs=ys:=by
 cases t
 ·exact I.list_inj h h'
 ·exact I.tuple_inj h h'
theorem Inv.turnedL{t':Nat}{its:List aB}(I:Inv X pins σ H s)(k:∀ b o,b∉its->s.heap.get? b=zo o->h'.get? b=zo o)(O:∀ b∈its,Q4f X pins H b):Inv X pins σ H { s with heap:=h',toks:=t' }:=by
 have J:∀ b u,H b=zo u->b∉its:=λb u e z=>by rw[(O b z).1]at e;cases e
 refine I.step (g':=s.gens) (d':=s.drawn) (ch:=its) (λb Z=>?_) (λb o _ _ B e _=>k b o B e) (λb o _ _ B e _=>⟨o.slots,k b o B e⟩) (λ_ _ _ _ n=>n)
  (λb o B e=>⟨o,k b o B e⟩) (λ_ _ e=>e) (λ_ _ _ e=>e) (λb ps e=>⟨#[],by rw[e];simp⟩) (λm hm=>?_) (λb u e=>?_) I.bare
 ·obtain⟨f0,f1,f2,f3,f4,Y⟩:=O b Z;exact⟨f3,f1,f4,Y⟩
 ·obtain⟨o,es,ep,U,r⟩:=hm;exact⟨o,es,ep,k _ o (λz=>(O _ z).2.1 rfl) U,r⟩
 ·refine(I.hok b u e).stay (λc v B q=>k c v ?_ q) (λ_ q=>q) λ_ _ q=>q
  rcases B with z | z
  ·rw[z];exact J b u e
  ·exact J c _ z
def Itz(K:bS)(t1 t2:Bool)(a b:aB):It:=
 ⟨λi H=>∃ xs ys x y,SqK K t1 H a xs/\SqK K t2 H b ys/\xs[i]?=zo x/\ys[i]?=zo y,
  λi H v H'=>∃ p x y,H p=zl/\v=.ref p/\H'=upd H p (.tup [x,y])/\∀ xs ys,SqK K t1 H a xs->SqK K t2 H b ys->xs[i]?=zo x/\ys[i]?=zo y,
  λi H=>∃ xs ys,SqK K t1 H a xs/\SqK K t2 H b ys/\(xs.length<=i\/ys.length<=i)⟩
def Qty(t1 t2:Bool)(z TI TO i1 i2 a b:aB)(i:Nat)(h:Heap):Prop:=
 IsZip h z TI TO .none/\aV h TI (.ref i1) (.ref i2)/\(∃ u v,aV h TO u v)/\IterAt t1 h i1 a i/\IterAt t2 h i2 b i
theorem Q5b{a:aA}:∀ v,({ cls:=.type "tuple",data:=.seq #[a,b] }:Obj).data≠.cell v:=λv z=>by cases z
theorem Qfj {P:aM} {w:aJ} {K:bS} {elts:List aH} {k:Nat} {pos:Pos} {t1 t2:Bool} {TI TO b:aB} (D:ZipApart z TI TO i1 i2 a b) :
  Turn P w K (.Tuple elts k pos) (Itz K t1 t2 a b) [z,TI,TO,i1,i2] z (Qty t1 t2 z TI TO i1 i2 a b) where
 mem:=by simp
 obj:=λi h st c B=>by
  obtain⟨hz,J,⟨u,v,O⟩,h1,h2⟩:=st;simp at B;rcases B with rfl | rfl | rfl | rfl | rfl
  ·exact⟨_,hz,λv q=>by cases q⟩
  ·exact⟨_,J,Q5b⟩
  ·exact⟨_,O,Q5b⟩
  ·exact h1.there
  ·exact h2.there
 keep:=λi h h' st kk=>by
  obtain⟨hz,J,⟨u,v,O⟩,h1,h2⟩:=st;exact⟨kk z (by simp) _ hz,kk TI (by simp) _ J,⟨u,v,kk TO (by simp) _ O⟩,h1.at λo e=>kk i1 (by simp) o e,h2.at λo e=>kk i2 (by simp) o e⟩
 item:=by
  intro X hP hw hK B i pins s σ H E I hf st hg;subst hP hw hK;obtain⟨xs,ys,x,y,Y,a8,hx,hy⟩:=hg;obtain⟨hz,J,⟨u,v,O⟩,h1,h2⟩:=st;obtain⟨its,rv,p,_⟩:=I.seqK Y;obtain⟨b4,b0,p2,_⟩:=I.seqK a8;obtain⟨ux,b9,c2⟩:=rv.get hx;obtain⟨uy,c3,c5⟩:=b0.get hy;refine Q3i D hz J O h1 h2 p p2 (x:=ux) (y:=uy) (by simpa using b9) (by simpa using c3) λh' a1 a2 a3 a4 a5 a6 a7=>⟨_,rfl,?_⟩
  refine wpAny_letOwnedTupleGo_zip (s:={ s with heap:=h' }) a1 λa9 b1 b2=>?_
  have c6:H s.heap.objs.size=zl:=I.fresh;have c4:z < s.heap.objs.size:=E3 hz;have c8:TI < s.heap.objs.size:=E3 J;have c7:TO < s.heap.objs.size:=E3 O;have d0:i1 < s.heap.objs.size:=by obtain⟨o,e,_⟩:=h1.there;exact E3 e
  have c9:i2 < s.heap.objs.size:=by obtain⟨o,e,_⟩:=h2.there;exact E3 e
  have Z:Inv X pins σ H { s with heap:=a9 }:=I.turnedL (t':=s.toks) (its:=[z,TO,i1,i2]) (λc o B e=>(b2.2 c (λq=>B (by simp[q]))).trans (a7 c o (λq=>B (by simp[q])) (λq=>B (by simp[q])) (λq=>B (by simp[q])) (λq=>B (by simp[q])) e))
   λc B=>hf c (by simp at B ⊢;rcases B with rfl | rfl | rfl | rfl <;> simp)
  have b3:aV a9 s.heap.objs.size ux uy:=(b2.2 _ (bj c4)).trans a5;have U:H s.heap.objs.size=zl:=c6;have I2:Inv X pins σ (upd H s.heap.objs.size (.tup [x,y])) { s with heap:=a9 }:=by
   refine⟨Z.ok,Z.os,Z.bare,?_,Z.loc,Z.cell,?_,?_,?_,?_,Z.len⟩
   ·have u0:=Z.base;have old:∀ c o,X.s₀.heap.get? c=zo o->c≠s.heap.objs.size:=λc o e=>F7 (E4 (E3 e) I.sz)
    exact⟨u0.keep,u0.slot,λc o e n hx=>by rw[Qc (old c o e)];exact u0.free c o e n hx,u0.there,
     λc ts e=>by have:=u0.tups c ts e;rw[Qc (Qg this U)];exact this,
     λc o ts e=>by have:=u0.frzs c o ts e;rw[Qc (Qg this U)];exact this,
     λc ps e=>by obtain⟨b5,q⟩:=u0.tbls c ps e;exact⟨b5,by rw[Qc (Qg q U)];exact q⟩⟩
   ·rw[Qc (F7 I.lt)];exact I.free
   ·intro x' c e;obtain⟨v',q⟩:=I.cell x' c e;rw[Qc (F7 q.lt)];exact I.freeC x' c e
   ·intro p' b6;obtain⟨e,n,ne,nf,d⟩:=Z.pin p' b6;have e0:=(I.pin p' b6).1;exact⟨e,by rw[Qc (F7 (E3 e0))];exact n,ne,nf,d⟩
   ·intro c o q
    by_cases b7:c=s.heap.objs.size
    ·subst b7;rw[Qx]at q;cases q;exact⟨by simp only[E5,M7];rw[sizeLine_eq];decide,[ux,uy],.cons c2 (.cons c5 .nil),⟨_,b3,rfl,0,rfl⟩⟩
    ·rw[Qc b7]at q;exact(Z.hok c o q).stay (λ_ _ _ r=>r) (λc' r=>by rw[Qc (Qg r U)];exact r) λc' ts r=>by rw[Qc (Qg r U)];exact r
  refine⟨.ref s.heap.objs.size,_,I2,rfl,⟨s.heap.objs.size,x,y,U,rfl,rfl,λd2 d1 q1 q2=>?_⟩,?_,λc B=>?_⟩
  ·rw[I.seqK_inj q1 Y,I.seqK_inj q2 a8];exact⟨hx,hy⟩
  ·exact⟨b1,b2.extBut _ _ D.TIz (a7 _ _ D.TIz D.TITO D.TIi1 D.TIi2 J),⟨_,_,b2.extBut _ _ D.TOz a2⟩,a3.at λo e=>b2.extBut _ _ D.i1z e,a4.at λo e=>b2.extBut _ _ D.i2z e⟩
  ·have:=(hf c B).1;have c1:c < s.heap.objs.size:=by simp at B;rcases B with rfl | rfl | rfl | rfl | rfl <;> assumption
   rw[Qc (F7 c1)];exact this
 done:=by
  intro X hP hw hK B i pins s σ H E I hf st hg;subst hP hw hK;obtain⟨xs,ys,Y,a8,b8⟩:=hg;obtain⟨hz,J,⟨u,v,O⟩,h1,h2⟩:=st;obtain⟨its,rv,p,_⟩:=I.seqK Y;obtain⟨b4,b0,p2,_⟩:=I.seqK a8;have l1:=rv.length;have l2:=b0.length;refine Q4u (I.ok.hd B) D hz J O h1 h2 p p2 (b8.elim (λh=>.inl (by simp;omega)) λh=>.inr (by simp;omega)) λh' kk=>⟨rfl,?_⟩
  exact I.turnedL (t':=s.toks) (its:=[z,TO,i1,i2]) (λc o B e=>kk c o (λq=>B (by simp[q])) (λq=>B (by simp[q])) (λq=>B (by simp[q])) (λq=>B (by simp[q])) e)
   λc B=>hf c (by simp at B ⊢;rcases B with rfl | rfl | rfl | rfl <;> simp)
 self:=λ_ _ _ _ _ st h=>wpAny_pyIter_zip st.1 h
def Qyv(K:bS)(t1 t2:Bool)(ta:TA):TI:=λσ H R=>ta σ H λvs H1=>∃ a b xs ys,vs=[.ref a,.ref b]/\SqK K t1 H1 a xs/\SqK K t2 H1 b ys/\R (Itz K t1 t2 a b) H1
theorem Qj8:aW "zip" = zo (.type "zip"):=by decide +kernel
theorem Qqv (t1 t2:Bool) {a b:aH} {p pos:Pos} {elts:List aH} {k:Nat} {tp:Pos} (hg:Gl X "zip") (hm:X.mg "zip" = zl) (ha:PA X [a,b] ta) (hs:aN [a,b] X.env=[(zb,aL a X.env),(zb,aL b X.env)]:=by rfl) (O:aN [b] X.env=[(zb,aL b X.env)]:=by rfl) :
  PI X (.Tuple elts k tp) (.Call (.Name "zip" p) [a,b] [] pos) (Qyv X.K t1 t2 ta):=by
 intro pins s σ H R I h;refine Call_ (yn I hg hm Qj8 (dA (thn (ha pos pins s σ H _ I h) λus s1 ⟨vs,H1,J,r1,Y⟩=>?_) (by rw[hs,O]) (by rw[O];rfl)))
 obtain⟨a',b',xs,ys,e,Y,q2,q⟩:=Y;subst e;cases r1 with
 | cons r U=>
  cases U with
  | cons r' U=>
   cases U;cases r;cases r';obtain⟨its,rv,p1,_⟩:=J.seqK Y;obtain⟨Z,a1,p2,_⟩:=J.seqK q2;refine Qez p1 p2 λh' z1 z2 z3 z4 z5 z6 z7=>?_
   refine wpAny_pyIter_zip (s:={ s1 with heap:=h' }) z1 ?_;have a2:a' < s1.heap.objs.size:=by obtain⟨o,e⟩:=p1.there;exact E3 e
   have a3:b' < s1.heap.objs.size:=by obtain⟨o,e⟩:=p2.there;exact E3 e
   have D:ZipApart (s1.heap.objs.size + 4) (s1.heap.objs.size + 2) (s1.heap.objs.size + 3) s1.heap.objs.size (s1.heap.objs.size + 1) a' b':=by
    constructor <;> (intro z;unfold aB at*;omega)
   refine⟨_,[s1.heap.objs.size + 4,s1.heap.objs.size + 2,s1.heap.objs.size + 3,s1.heap.objs.size,s1.heap.objs.size + 1],_,_,H1,rfl,J.kept (t':=s1.toks) z7,Qfj (t1:=t1) (t2:=t2) D,⟨z1,z2,⟨_,_,z3⟩,z4,z5⟩,λc hc=>?_,q⟩
   have B:s1.heap.objs.size<=c:=by simp at hc;unfold aB at*;omega
   exact J.fpOk B (J.hok.fresh B)
theorem Q2k {prog:aM} {w:aJ} (U:A.handled=zl) (t:Bool) (I J:aB) (O:J≠I) (B:Array aA) :
  Walks prog w A I [I,J] [I] B.size (λi v=>B[i]?=zo v) (λi h=>IterAt t h I J i/\HasItems t h J B):=by
 cases t
 ·exact Walks.list U I J O B
 ·exact Walks.tuple U I J O B
theorem Q0e{α:Type}(l:List α)(d:α){n:Nat}(h:n < l.length):l.getD n d=l[n]:=by simp[ci,h]
theorem Q89(ns:List Int):preSum (λj=>ns.getD j 0) ns.length=ns.sum:=by
 have key:∀ (k:Nat),k<=ns.length->preSum (λj=>ns.getD j 0) k=(ns.take k).sum:=by
  intro k
  induction k with
  | zero=>intro _;rfl
  | succ k I=>
   intro J;show preSum _ k + ns.getD k 0=_;have B:k < ns.length:=by omega
   rw[I (by omega),List.take_succ,gO,Q0e _ _ B,O2 B];simp
 rw[key ns.length (O9 _),fC]
theorem Inv.movedNew{s':aD}(I:Inv X pins σ H s){o:Obj}(m:Moved [s.heap.objs.size] (λa b=>b=a) { s with heap:=s.heap.push o } s'):Inv X pins σ H s':=by
 obtain⟨m1,O,B,J,U⟩:=m;obtain⟨h',g',d',t',o'⟩:=s';have e1:g'=s.gens:=O;have e2:d'=s.drawn:=B;have e3:o'=s.os:=J;subst e1 e2 e3;refine I.kept (t':=t') λb u e=>m1 b u (λz=>?_) (O4 _ e)
 have:b=s.heap.objs.size:=by simpa using z
 exact absurd (E3 e) (by rw[this];exact bg _)
theorem ji{its:List aA}(r:Vals (ns.map V.int) its):∀ (i:Nat) (v:aA),its.toArray[i]?=zo v->∃ t,v=cJ (ns.getD i 0) t:=λi v e=>by
 have I:its[i]?=zo v:=by simpa using e
 have hi:i < its.length:=(O1.mp I).1;have O:=r.length;rw[O0]at O;have hn:(ns.map V.int)[i]?=zo (V.int (ns.getD i 0)):=by
  have:i < ns.length:=by omega
  simp[ci,this]
 obtain⟨u,B,t,J⟩:=r.get hn;rw[I]at B;cases B;exact⟨t,J⟩
theorem Q60{bs:List Bool}{its:List aA}(r:Vals (bs.map V.bl) its):∀ (i:Nat) (v:aA),its.toArray[i]?=zo v->v=cL (bs.getD i zb):=λi v e=>by
 have I:its[i]?=zo v:=by simpa using e
 have hi:i < its.length:=(O1.mp I).1;have O:=r.length;rw[O0]at O;have hn:(bs.map V.bl)[i]?=zo (V.bl (bs.getD i zb)):=by
  have:i < bs.length:=by omega
  simp[ci,this]
 obtain⟨u,B,J⟩:=r.get hn;rw[I]at B;cases B;exact J
theorem Vd {t:Bool} {B:Array aA} (O:HasItems t s.heap l B):l≠s.heap.objs.size /\
  (IterAt t (s.heap.push (Ve t l)) s.heap.objs.size l 0/\HasItems t (s.heap.push (Ve t l)) l B)/\∀ b∈[s.heap.objs.size,l],b < (s.heap.push (Ve t l)).objs.size:=by
 obtain⟨o,e⟩:=O.there;have I:=E3 e;refine⟨F7 I,⟨yr (E6 _ (qi _ _)),O.at λo e=>O4 _ e⟩,λb J=>?_⟩
 rw[G9];simp at J;rcases J with rfl | rfl
 ·exact cw _
 ·exact cD I
theorem Qiz(t:Bool)(Z:X.calm=zi):Uk X (.builtin "sum") (λxs H Q=>∃ (a:aB) (ns:List Int),xs=[.ref a]/\SqK X.K t H a (ns.map V.int)/\Q (.int ns.sum) H):=by
 intro pins s σ H xs us Q I r h;obtain⟨a,ns,rfl,hq,q⟩:=h;obtain⟨u,rfl,r1⟩:=qy r;cases r1;obtain⟨its,B,p,_⟩:=I.seqK hq;obtain⟨U,Y,O⟩:=Vd p;have J:=B.length;rw[O0]at J;refine call_sum_walkAnyS (V3 p ⟨_,_,_,_,_,_,_,λj=>ns.getD j 0,rfl,(Q2k (A:=X.A.in1) (I.ok.hd Z) t _ a U its.toArray).toS,Y,O,ji B,λs' t' m=>?_⟩);refine⟨.int ns.sum,H,I.movedNew m,⟨t',?_⟩,q⟩;rw[D0,<- J,Q89]
theorem Qdz(bs:List Bool):(bT bs.length).all (λi=>bs.getD i zb)=bs.all id:=by
 induction bs with
 | nil=>rfl
 | cons b r B=>
  rw[E5,fD,bp,cA,bp,<- B];rfl
theorem Qdy(bs:List Bool):(bT bs.length).any (λi=>bs.getD i zb)=bs.any id:=by
 induction bs with
 | nil=>rfl
 | cons b r B=>
  rw[E5,fD,cj,cT,cj,<- B];rfl
theorem Qj1(t:Bool)(hc:X.calm=zi):Uk X (.builtin "all") (λxs H Q=>∃ (a:aB) (bs:List Bool),xs=[.ref a]/\SqK X.K t H a (bs.map V.bl)/\Q (.bl (bs.all id)) H):=by
 intro pins s σ H xs us Q I r h;obtain⟨a,bs,rfl,hq,q⟩:=h;obtain⟨u,rfl,r1⟩:=qy r;cases r1;obtain⟨its,J,p,_⟩:=I.seqK hq;obtain⟨U,Z,w3⟩:=Vd p;have B:=J.length;rw[O0]at B;refine call_all_walkS (V3 p ⟨_,_,_,_,_,_,_,λj=>bs.getD j zb,rfl,(Q2k (A:=X.A.in1) (I.ok.hd hc) t _ a U its.toArray).toS,Z,λi v s' Q' E' O Y=>?_,λs' m=>?_⟩)
 ·rw[Q60 J i v O];exact av Y
 ·refine⟨.bl (bs.all id),H,I.movedNew m,?_,q⟩;show cL _=_;rw[D0,<- B,Qdz]
theorem Qj0(t:Bool)(hc:X.calm=zi):Uk X (.builtin "any") (λxs H Q=>∃ (a:aB) (bs:List Bool),xs=[.ref a]/\SqK X.K t H a (bs.map V.bl)/\Q (.bl (bs.any id)) H):=by
 intro pins s σ H xs us Q I r h;obtain⟨a,bs,rfl,hq,q⟩:=h;obtain⟨u,rfl,r1⟩:=qy r;cases r1;obtain⟨its,J,p,_⟩:=I.seqK hq;obtain⟨U,Z,w3⟩:=Vd p;have B:=J.length;rw[O0]at B;refine call_any_walkS (V3 p ⟨_,_,_,_,_,_,_,λj=>bs.getD j zb,rfl,(Q2k (A:=X.A.in1) (I.ok.hd hc) t _ a U its.toArray).toS,Z,λi v s' Q' E' O Y=>?_,λs' m=>?_⟩)
 ·rw[Q60 J i v O];exact av Y
 ·refine⟨.bl (bs.any id),H,I.movedNew m,?_,q⟩;show cL _=_;rw[D0,<- B,Qdy]
theorem Qf2(t:Bool)(hc:X.calm=zi):Uk X (.builtin "max") (λxs H Q=>∃ (a:aB) (ns:List Int),xs=[.ref a]/\SqK X.K t H a (ns.map V.int)/\ns≠[]/\∀ m,m∈ns->(∀ k,k∈ns->k<=m)->Q (.int m) H):=by
 intro pins s σ H xs us Q I r h;obtain⟨a,ns,rfl,hq,O,q⟩:=h;obtain⟨u,rfl,r1⟩:=qy r;cases r1;obtain⟨its,B,p,_⟩:=I.seqK hq;obtain⟨w1,w2,w3⟩:=Vd p;have hl:=B.length;rw[O0]at hl;have Y:0 < ns.length:=dI.mpr O;refine call_max_walkS (V3 p ⟨_,_,_,_,_,_,_,_,rfl,(Q2k (A:=X.A.in1) (I.ok.hd hc) t _ a w1 its.toArray).toS,w2,w3,by rw[D0];omega,CmpOf.ints_gt (λj=>ns.getD j 0) (λi v J=>ji B i v J),λv s' J m=>?_⟩);obtain⟨t',rfl⟩:=ji B _ _ J;obtain⟨h1,h2⟩:=argBest_gt (λj=>ns.getD j 0) (its.toArray.size - 1);have U:argBest (λi j=>decide (ns.getD i 0 > ns.getD j 0)) (its.toArray.size - 1) < ns.length:=by
  have e':its.toArray.size=ns.length:=by rw[D0];omega
  rw[e']at h1 ⊢;exact gP h1 (by omega)
 refine⟨.int (ns.getD (argBest (λi j=>decide (ns.getD i 0 > ns.getD j 0)) (its.toArray.size - 1)) 0),H,I.movedNew m,⟨t',rfl⟩,q _ ?_ λk Z=>?_⟩
 ·rw[Q0e _ _ U];exact F9 U
 ·obtain⟨j,hj,rfl⟩:=gQ.mp Z;have:=h2 j (by rw[D0];omega);rw[Q0e _ _ hj]at this;exact this
theorem Qf0(t:Bool)(hc:X.calm=zi):Uk X (.builtin "min") (λxs H Q=>∃ (a:aB) (ns:List Int),xs=[.ref a]/\SqK X.K t H a (ns.map V.int)/\ns≠[]/\∀ m,m∈ns->(∀ k,k∈ns->m<=k)->Q (.int m) H):=by
 intro pins s σ H xs us Q I r h;obtain⟨a,ns,rfl,hq,O,q⟩:=h;obtain⟨u,rfl,r1⟩:=qy r;cases r1;obtain⟨its,B,p,_⟩:=I.seqK hq;obtain⟨w1,w2,w3⟩:=Vd p;have hl:=B.length;rw[O0]at hl;have Y:0 < ns.length:=dI.mpr O;refine call_min_walkS (V3 p ⟨_,_,_,_,_,_,_,_,rfl,(Q2k (A:=X.A.in1) (I.ok.hd hc) t _ a w1 its.toArray).toS,w2,w3,by rw[D0];omega,CmpOf.ints_lt (λj=>ns.getD j 0) (λi v J=>ji B i v J),λv s' J m=>?_⟩);obtain⟨t',rfl⟩:=ji B _ _ J;obtain⟨h1,h2⟩:=argBest_lt (λj=>ns.getD j 0) (its.toArray.size - 1);have U:argBest (λi j=>decide (ns.getD i 0 < ns.getD j 0)) (its.toArray.size - 1) < ns.length:=by
  have e':its.toArray.size=ns.length:=by rw[D0];omega
  rw[e']at h1 ⊢;exact gP h1 (by omega)
 refine⟨.int (ns.getD (argBest (λi j=>decide (ns.getD i 0 < ns.getD j 0)) (its.toArray.size - 1)) 0),H,I.movedNew m,⟨t',rfl⟩,q _ ?_ λk Z=>?_⟩
 ·rw[Q0e _ _ U];exact F9 U
 ·obtain⟨j,hj,rfl⟩:=gQ.mp Z;have:=h2 j (by rw[D0];omega);rw[Q0e _ _ hj]at this;exact this
theorem Qst {prog:aM} {w:aJ} (Z:A.handled=zl) (t:Bool) (it l:aB) (O:l≠it) (B:Array aA) :
  Draws prog w A it [it,l] B.size (λi v=>B[i]?=zo v) (λi h=>IterAt t h it l i/\HasItems t h l B) where
 live:=λ_ _ st=>let ⟨o,e,_⟩:=st.1.there;⟨o,e⟩
 frame:=λ_ _ _ st U=>⟨st.1.at λo e=>U it (by simp) o e,st.2.at λo e=>U l (by simp) o e⟩
 item:=λi s Q E hi st hQ=>by
  refine Xq st.1 st.2 (x:=B[i]) (by simp[hi]) λh' J I=>?_
  exact hQ _ h' s.toks (by simp[hi]) ⟨J,st.2.at λo e=>I.extBut _ _ O e⟩ I
 done:=λs Q E st Y=>qc Z st.1 st.2 (by simp) Y
theorem Q8r (l:aB) (B:Array aA) (n:Nat) (O:Option aB) (Z:Array (Option aA)) :
  Meets (Builtin.«enumerate.__new__» ⟨[.type "enumerate",.ref l],[]⟩) (λ_ R s=>s.heap.get? l=zo { cls:=.type "tuple",dict:=O,data:=.seq B n,slots:=Z } /\
   R (.ok (.ret (.ref (s.heap.push { cls:=.type "tuple_iterator",data:=.fields #[.ref l,.int 0 0] }).objs.size)))
    { s with heap:=(s.heap.push { cls:=.type "tuple_iterator",data:=.fields #[.ref l,.int 0 0] }).push { cls:=.type "enumerate",data:=.fields #[.none,.bool zb,.ref s.heap.objs.size,ae 0,.none,.none] } }):=
 .of_wp λprog w A R s h=>by
  obtain⟨hp,g,d,Y,os⟩:=s;obtain⟨I,h⟩:=h;have U:=sub_enumerate;have J:Heap.IsTuple (Shared.heap ⟨hp,g,d,Y,os⟩) l B:=⟨_,I,rfl,n,rfl⟩
  wp_walk using AutoSeq1.wpAny_loadPart' I
  refine wpAny_stack_any λst=>wpAny_pure ?_
  split
  ·rename_i c _ _ _ _ _;cases (c == cY "enumerate")
   ·wp_walk using AutoSeq1.wpAny_loadPart' I,bK J
    exact⟨_,rfl,h⟩
   ·wp_walk using AutoSeq1.wpAny_loadPart' I,bK J
    exact⟨_,rfl,h⟩
  ·wp_walk using AutoSeq1.wpAny_loadPart' I,bK J
   exact⟨_,rfl,h⟩
section
variable{w:aJ}
theorem Qb7 {B:Array aA} {Q:zAC} (O:s.heap.IsTuple l B)
  (h:∀ h',IsEnum h' (s.heap.objs.size + 1) s.heap.objs.size 0 .none->h'.IsTupleIter s.heap.objs.size l 0->h'.objs.size=s.heap.objs.size + 2 ->
   (∀ b o,s.heap.get? b=zo o->h'.get? b=zo o)->Q (.ref (s.heap.objs.size + 1)) { s with heap:=h' }) :
  aF (aI prog w) A (call (.type "enumerate") [.ref l]) Q E s:=by
 obtain⟨⟨c,I,U,Y⟩,hl,hc,n,hd⟩:=O;replace hc:c=.type "tuple" := hc;replace hd:U=.seq B n:=hd;subst hc hd;refine callType_new F.called_enumerate (by decide) (F.typeCall_enumerate_1 _) (F.newCall_enumerate_1 _) (λobj=>F.args_object_init_2 obj _) F.entry_enumerate_new
  (Q8r l B n I Y) ⟨hl,?_⟩
 have hz:(s.heap.push { cls:=.type "tuple_iterator",data:=.fields #[.ref l,.int 0 0] }).objs.size=s.heap.objs.size + 1:=G9 ..;show _/\_;rw [hz];have J:IsEnum ((s.heap.push { cls:=.type "tuple_iterator",data:=.fields #[.ref l,.int 0 0] }).push
   { cls:=.type "enumerate",data:=.fields #[.none,.bool zb,.ref s.heap.objs.size,ae 0,.none,.none] }) (s.heap.objs.size + 1) s.heap.objs.size 0 .none:=by
  have:=E6 (s.heap.push { cls:=.type "tuple_iterator",data:=.fields #[.ref l,.int 0 0] })
   (o:={ cls:=.type "enumerate",data:=.fields #[.none,.bool zb,.ref s.heap.objs.size,ae 0,.none,.none] }) rfl
  rw[hz]at this;exact this
 refine⟨⟨_,J,rfl⟩,h _ J ⟨_,O4 _ (E6 _ rfl),rfl,rfl⟩ (by rw[G9,hz]) λb o x=>O4 _ (O4 _ x)⟩
theorem Qb8 {t:Bool} {B:Array aA} {Q:zAC} (I:HasItems t s.heap l B)
  (h:∀ h',IsEnum h' (s.heap.objs.size + 1) s.heap.objs.size 0 .none->IterAt t h' s.heap.objs.size l 0->h'.objs.size=s.heap.objs.size + 2 ->
   (∀ b o,s.heap.get? b=zo o->h'.get? b=zo o)->Q (.ref (s.heap.objs.size + 1)) { s with heap:=h' }) :
  aF (aI prog w) A (call (.type "enumerate") [.ref l]) Q E s:=by
 cases t
 ·exact call_enumerate_list I h
 ·exact Qb7 I h
end
def Ite(K:bS)(t:Bool)(a:aB):It:=
 ⟨λi H=>∃ xs x,SqK K t H a xs/\xs[i]?=zo x,
  λi H v H'=>∃ p x,H p=zl/\v=.ref p/\H'=upd H p (.tup [.int i,x])/\∀ xs,SqK K t H a xs->xs[i]?=zo x,
  λi H=>∃ xs,SqK K t H a xs/\xs.length<=i⟩
theorem Inv.tracks {s1:aD} {p:aB} {its:List aA} (I:Inv X pins σ H s) (B:Inv X pins σ H s1) (Z:s.heap.objs.size<=p) (hn:H p=zl) (rv:Vals xs its) (hz:xs.length<=sizeLine)
  (ht:IsTup s1.heap p its.toArray):Inv X pins σ (upd H p (.tup xs)) s1:=by
 refine⟨B.ok,B.os,B.bare,?_,B.loc,B.cell,?_,?_,?_,?_,B.len⟩
 ·have J:=B.base;have old:∀ c o,X.s₀.heap.get? c=zo o->c≠p:=λc o e=>F7 (E4 (E3 e) (F8 I.sz Z))
  exact⟨J.keep,J.slot,λc o e n hx=>by rw[Qc (old c o e)];exact J.free c o e n hx,J.there,
   λc ts e=>by have:=J.tups c ts e;rw[Qc (Qg this hn)];exact this,
   λc o ts e=>by have:=J.frzs c o ts e;rw[Qc (Qg this hn)];exact this,
   λc ps e=>by obtain⟨U,q⟩:=J.tbls c ps e;exact⟨U,by rw[Qc (Qg q hn)];exact q⟩⟩
 ·rw[Qc (F7 (E4 I.lt Z))];exact I.free
 ·intro x' c e;obtain⟨v',q⟩:=I.cell x' c e;rw[Qc (F7 (E4 q.lt Z))];exact I.freeC x' c e
 ·intro p' Y;obtain⟨e,n,ne,nf,d⟩:=B.pin p' Y;have e0:=(I.pin p' Y).1;exact⟨e,by rw[Qc (F7 (E4 (E3 e0) Z))];exact n,ne,nf,d⟩
 ·intro c o q
  by_cases O:c=p
  ·subst O;rw[Qx]at q;cases q;exact⟨hz,its,rv,ht⟩
  ·rw[Qc O]at q;exact(B.hok c o q).stay (λ_ _ _ r=>r) (λc' r=>by rw[Qc (Qg r hn)];exact r) λc' ts r=>by rw[Qc (Qg r hn)];exact r
def Qsr(t:Bool)(e it a:aB)(i:Nat)(h:Heap):Prop:=(∃ old,IsEnum h e it i old)/\IterAt t h it a i
theorem Qdd {P:aM} {w:aJ} {K:bS} {elts:List aH} {k:Nat} {pos:Pos} {t:Bool} {e:aB} (Z:e≠it) (b0:a≠e) (b2:a≠it) :
  Turn P w K (.Tuple elts k pos) (Ite K t a) [e,it] e (Qsr t e it a) where
 mem:=by simp
 obj:=λi h st c hc=>by
  obtain⟨⟨old,J⟩,h1⟩:=st;simp at hc;rcases hc with rfl | rfl
  ·exact⟨_,J,λv q=>by cases q⟩
  ·exact h1.there
 keep:=λi h h' st kk=>by
  obtain⟨⟨old,J⟩,h1⟩:=st;exact⟨⟨old,kk e (by simp) _ J⟩,h1.at λo q=>kk it (by simp) o q⟩
 item:=by
  intro X hP hw hK hc i pins s σ H E I hf st hg;subst hP hw hK;obtain⟨xs,x,U,hx⟩:=hg;obtain⟨⟨old,J⟩,h1⟩:=st;obtain⟨its,rv,p,_⟩:=I.seqK U;obtain⟨ux,a4,a9⟩:=rv.get hx;have b1:i < its.toArray.size:=by rw[D0];exact(O1.mp a4).1
  refine wpAny_pyNext_enum_itemD (Qst (A:=X.A.in1) (I.ok.hd hc) t it a b2 its.toArray) J ⟨h1,p⟩ b1 Z (by simp;exact⟨Z,λz=>b0 z.symm⟩) λx' h' tk a1 ho a8 hT hsz hk=>⟨_,rfl,?_⟩
  have:x'=ux:=by
   have e1:its[i]?=zo x':=by simpa using a1
   rw[a4]at e1;exact(bY e1).symm
  subst this;refine wpAny_letOwnedTupleGo_enum (s:={ s with heap:=h',toks:=tk + 1 }) ho λa5 a2 O=>?_
  have elt:e < s.heap.objs.size:=E3 J;have b4:it < s.heap.objs.size:=by obtain⟨o,q,_⟩:=h1.there;exact E3 q
  have a6:H s.heap.objs.size=zl:=I.fresh;have I1:Inv X pins σ H { s with heap:=a5,toks:=tk + 1 }:=I.turnedL (its:=[e,it]) (λc o B q=>(O.2 c (λz=>B (by simp[z]))).trans (hk c o (λz=>B (by simp[z])) (λz=>B (by simp[z])) q)) λc B=>hf c B
  have a3:a5.get? s.heap.objs.size=zo { cls:=.type "tuple",data:=.seq #[.int i tk,x'] }:=(O.2 _ (bj elt)).trans hT;have I2:=I.tracks (xs:=[.int i,x]) (its:=[.int i tk,x']) I1 (O9 _) a6 (.cons ⟨tk,rfl⟩ (.cons a9 .nil)) (by simp only[E5,M7];rw[sizeLine_eq];decide) ⟨_,a3,rfl,0,rfl⟩;refine⟨.ref s.heap.objs.size,_,I2,rfl,⟨s.heap.objs.size,x,a6,rfl,rfl,λb5 q1=>?_⟩,?_,λc B=>?_⟩
  ·rw[I.seqK_inj q1 U];exact hx
  ·exact⟨⟨x',by simpa using a2⟩,a8.1.at λo q=>O.extBut _ _ (Ne.symm Z) q⟩
  ·have:=(hf c B).1;have a7:c < s.heap.objs.size:=by simp at B;rcases B with rfl | rfl <;> assumption
   rw[Qc (F7 a7)];exact this
 done:=by
  intro X hP hw hK hc i pins s σ H E I hf st hg;subst hP hw hK;obtain⟨xs,U,b3⟩:=hg;obtain⟨⟨old,J⟩,h1⟩:=st;obtain⟨its,rv,p,_⟩:=I.seqK U;have hl:=rv.length;have hT:s.TypeIs (.ref e) "enumerate" := ⟨_,J,rfl⟩;unfold ag;refine aC (wpAny_attempt (wpAny_callSpecial?_slot (name:=bf "__next__") hT F.slot_enumerate_next
   (aa F.slot_enumerate_next hT F.entry_enumerate_next ?_ (F.args_enumerate_next_1 _))))
  show aF _ _ (field (.ref e) 2 >>= _) _ _ _;refine aC (aU J rfl (x:=.ref it) rfl ?_);refine aC (qc (I.ok.hd hc) h1 p (by simp;omega) λh' x a2 a1=>?_)
  obtain⟨o,ho,B⟩:=a1;refine aC (bJ (T := "StopIteration") (b:=zi) ⟨o,ho,B⟩ isSubtype_stop ?_);exact wpAny_pure ⟨rfl,I.turnedL (t':=s.toks) (its:=[it]) (λc o Y q=>a2 c o (λz=>Y (by simp[z])) q) λc Y=>hf c (by simp at Y;simp[Y])⟩
 self:=λ_ _ _ _ _ st h=>by
  obtain⟨⟨old,J⟩,_⟩:=st;exact wpAny_pyIter_enum J h
def Qw3(K:bS)(t:Bool)(ta:TA):TI:=λσ H R=>ta σ H λvs H1=>∃ a xs,vs=[.ref a]/\SqK K t H1 a xs/\R (Ite K t a) H1
theorem Q4b:aW "enumerate" = zo (.type "enumerate"):=by decide +kernel
theorem Qm1 (t:Bool) {a:aH} {p pos:Pos} {elts:List aH} {k:Nat} {tp:Pos} (hg:Gl X "enumerate") (hm:X.mg "enumerate" = zl) (ha:PA X [a] ta) (hs:aN [a] X.env=[(zb,aL a X.env)]:=by rfl) :
  PI X (.Tuple elts k tp) (.Call (.Name "enumerate" p) [a] [] pos) (Qw3 X.K t ta):=by
 intro pins s σ H R I h;refine Call_ (yn I hg hm Q4b (dA (thn (ha pos pins s σ H _ I h) λus s1 ⟨vs,H1,O,r1,U⟩=>?_) hs rfl))
 obtain⟨a',xs,e,U,q⟩:=U;subst e;obtain⟨u,rfl,r⟩:=qy r1;cases r;obtain⟨its,rv,Z,_⟩:=O.seqK U;refine Qb8 Z λh' Y z2 z3 z4=>?_
 refine wpAny_pyIter_enum (s:={ s1 with heap:=h' }) Y ?_;have J:a' < s1.heap.objs.size:=by obtain⟨o,e⟩:=Z.there;exact E3 e
 refine⟨_,[s1.heap.objs.size + 1,s1.heap.objs.size],_,_,H1,rfl,O.kept (t':=s1.toks) z4,Qdd (t:=t) (bj (cw _)) (F7 (cD J)) (F7 J),⟨⟨_,Y⟩,z2⟩,λc hc=>?_,q⟩
 have B:s1.heap.objs.size<=c:=by simp at hc;unfold aB at*;omega
 exact O.fpOk B (O.hok.fresh B)
theorem Q2z(h:H a=zl):Same H (upd H a o):=λb u e=>by rw[Qc (Qg e h)];exact e
variable{te:TE}{H1:Hp}{Q:VK}
section
variable{cap:zAB}
abbrev g2(K:bS):TG:=Qwb K 2 (Qic (Q97 0) (Qic (Q97 1) Qwc))
end
def Qwp:V->Option aA
 | .ty n=>zo (.type n)
 | .ref a=>zo (.ref a)
 | _=>zl
theorem Qiw{c:V}{B u:aA}(e:Qwp c=zo B)(r:RelV c u):u=B:=by
 cases c with
 | ty n=>cases e;exact r
 | ref a=>cases e;exact r
 | _=>cases e
theorem Q9h:Uk X (.builtin "isinstance") (λxs H Q=>∃ x c B t b,xs=[x,c]/\Qwp c=zo B/\TyOf X.K H x t/\eR X.K t B=zo b/\Q (.bl b) H):=by
 intro pins s σ H xs us Q I r h;obtain⟨x,c,B,t,b,rfl,U,ty,e,q⟩:=h;obtain⟨u,Z,rfl,Y,O⟩:=Qfg r;rw[Qiw U O];exact Qen I Y ty e λJ=>⟨.bl b,H,I.tok J,rfl,q⟩
theorem Q1x:aW "isinstance" = zo (.builtin "isinstance"):=by decide +kernel
theorem Qj9:aW "sum" = zo (.builtin "sum"):=by decide +kernel
theorem Qje:aW "all" = zo (.builtin "all"):=by decide +kernel
theorem Qjd:aW "any" = zo (.builtin "any"):=by decide +kernel
theorem Qjb:aW "max" = zo (.builtin "max"):=by decide +kernel
theorem Qja:aW "min" = zo (.builtin "min"):=by decide +kernel
theorem Qb9:aW "tuple" = zo (.type "tuple"):=by decide +kernel
theorem Q5z:aW "list" = zo (.type "list"):=by decide +kernel
theorem Qjc:aW "int" = zo (.type "int"):=by decide +kernel
theorem Qf6:aW "bool" = zo (.type "bool"):=by decide +kernel
theorem ObjOk.there{w:aJ}(x:ObjOk P w H h a o):∃ u,h.get? a=zo u:=by
 cases o with
 | lst xs=>obtain⟨_,_,_,_,e⟩:=x;exact⟨_,e⟩
 | tup xs=>obtain⟨_,_,_,o,e,_⟩:=x;exact⟨o,e⟩
 | dK B=>obtain⟨_,_,_,_,o,_,_,e,_⟩:=x;exact⟨o,e⟩
 | dT B=>obtain⟨_,_,_,_,o,_,_,e,_⟩:=x;exact⟨o,e⟩
 | set S n=>obtain⟨o,_,_,_,e,_⟩:=x;exact⟨o,e⟩
 | ins C dx fs=>obtain⟨_,_,_,e,_⟩:=x;exact⟨_,e⟩
 | own y=>exact x
 | xd fs=>obtain⟨_,⟨o,_,_,e,_⟩,_⟩:=x;exact⟨o,e⟩
 | rng lo hi=>obtain⟨_,_,_,e⟩:=x;exact⟨_,e⟩
 | frz ob u=>obtain⟨e,_⟩:=x;exact⟨_,e⟩
 | tbl ps=>exact⟨_,x⟩
 | met f y=>exact⟨_,x⟩
 | ext I=>exact x.2.1
theorem HOk.none_of{w:aJ}(x:HOk P w H h)(e:h.get? a=zl):H a=zl:=by
 cases q:H a with
 | none=>rfl
 | some o=>
  obtain⟨u,z⟩:=(x a o q).there;rw[e]at z;cases z
structure Fly(P:aM)(w:aJ)(outer:List Env)(H H':Hp)(s s':aD)(a:aB)(cls a0:aA)(B:Heap):Prop where
 os:s'.os=s.os
 bare:AllBare s'.gens
 fl:Heap.FlyingW B outer a cls a0 s'.heap
 hokB:HOk P w H' B
 keep:∀ b o,s.heap.get? b=zo o->H b=zl->b∉frs outer->B.get? b=zo o
 there:∀ b o,s.heap.get? b=zo o->b∉frs outer->∃ o',B.get? b=zo o'
 slot:∀ b o,s.heap.get? b=zo o->b∈frs outer->∃ sl,s'.heap.get? b=zo { o with slots:=sl }
 free:∀ b o,s.heap.get? b=zo o->H b=zl->H' b=zl
 tups:∀ b xs,H b=zo (.tup xs)->H' b=zo (.tup xs)
 frzs:∀ b o u,H b=zo (.frz o u)->H' b=zo (.frz o u)
 tbls:∀ b ps,H b=zo (.tbl ps)->∃ more,H' b=zo (.tbl (ps ++ more))
@[inline,reducible]def Qjf:List aA:=[.type "ValueError",.type "Exception",.type "BaseException",.type "object"]
theorem Qm9{C:aB}{I:List aA}{B:String}(X:K.In h)(m:mg x=zo (.ref C))(q:cU K C I B=zi):OwnCls x C I B mg h:=by
 refine⟨m,?_⟩;unfold cU at q
 split at q
 ·rename_i dd cd U Y
  split at q
  ·rename_i C' bm k0 k1 k2 k3 n k5 O hs;simp only[L9,beq_iff_eq,Bool.not_eq_true']at q;obtain⟨⟨⟨⟨⟨rfl,rfl⟩,hdel⟩,ht⟩,hok⟩,hni⟩:=q;obtain⟨nm,bs,Z,ns,qn,hd,sn,sub,ab,col,a1⟩:=cd;dsimp only at O hdel hok hni;subst O hdel;have J:U=#[k0,k1,k2,k3,zo (.builtin n),k5]:=by
    obtain⟨l⟩:=U;simp only at hs;rw[hs]
   subst J;exact⟨bm,ns,nm,qn,bs,hd,sn,sub,ab,col,dd,k0,k1,k2,k3,k5,_,X _ _ Y,.of_isNs (PySem.W.isNs_of_in X hok),PySem.W.nsMap_none_of_in X hok hni,PySem.W.tail_of_in X ht⟩
  ·cases q
 ·cases q
def Qpq(C:aB)(E:XK)(t:TA):TS:=λ_ σ H=>t σ H λvs H1=>vs.length<=sizeLine/\E (.ref C) zl H1
theorem Q2r (l:aB) (B:Array aA) (n:Nat) (dd:Option aB) (J:Array (Option aA)) (t:Tok) :
  Meets (Builtin.«tuple.__mul__» ⟨[.ref l,.int 1 t],[]⟩) (λ_ R s=>s.heap.get? l=zo { cls:=.type "tuple",dict:=dd,data:=.seq B n,slots:=J }/\R (.ok (.ret (.ref l))) s):=
 .of_wp λprog w A R s h=>by
  obtain⟨U,g,d,O,os⟩:=s;obtain⟨I,h⟩:=h
  wp_walk using wpAny_loadPart' I
  exact⟨_,rfl,h⟩
theorem Q2s (l:aB) (B:Array aA) (n:Nat) (dd:Option aB) (Z:Array (Option aA)) (x:Int) (t:Tok) (h1:¬ (decide (x < -(2 ^ 63)) || decide (x>=2 ^ 63))=zi) (h2:¬ (B.isEmpty || x == 1)=zi) (h3:¬ (decide (x<=0) || B.isEmpty)=zi) (Y:¬ (B.size:Int) * x > (2 ^ 63 - 1) / 8) (O:¬ Builtin.Tuple.tupleTooMany ((B.size:Int) * x)=zi)
  (U:((bV x.toNat B).foldl (λx1 I=>x1 ++ I) #[]).size<=sizeLine) :
  Meets (Builtin.«tuple.__mul__» ⟨[.ref l,.int x t],[]⟩) (λ_ R s=>s.heap.get? l=zo { cls:=.type "tuple",dict:=dd,data:=.seq B n,slots:=Z } /\
   R (.ok (.ret (bX s.heap.objs.size))) { s with heap:=s.heap.push { cls:=cY "tuple",data:=Data.seq ((bV x.toNat B).foldl (λx1 I=>x1 ++ I) #[]) } }):=
 .of_wp λprog w A R s h=>by
  obtain⟨hp,g,d,tk,os⟩:=s;obtain⟨J,h⟩:=h
  wp_walk using wpAny_loadPart' J
  refine wpAny_ite_false (bQ h1) ?_
  wp_walk using wpAny_loadPart' J
  refine wpAny_ite_false (bQ Y) ?_
  wp_walk using wpAny_loadPart' J
  all_goals first | exact⟨_,rfl,h⟩ | (refine wpAny_ite_false (bQ O) ?_;wp_walk) | skip
  all_goals first | exact⟨_,rfl,h⟩ | (refine wpAny_ite_false (bQ (gR.mpr U)) ?_;wp_walk;exact⟨_,rfl,h⟩)
theorem Q3x (a:Int) (t:Tok) (l:aB) (B:Array aA) (n:Nat) (dd:Option aB) (J:Array (Option aA)) :
  Meets (Builtin.«int.__rmul__» ⟨[.int a t,.ref l],[]⟩) (λ_ R s=>s.heap.get? l=zo { cls:=.type "tuple",dict:=dd,data:=.seq B n,slots:=J }/\R (.ok (.ret gB)) s):=
 .of_wp λprog w A R s h=>by obtain⟨U,g,d,O,os⟩:=s;obtain⟨I,h⟩:=h;wp_walk using wpAny_loadPart' I;exact⟨_,rfl,h⟩
theorem Q0z:fillsNumberSlot (.type "tuple") "mul" = pure zb:=
 PySem.fillsNumberSlot_seq (id := "tuple.__mul__") (r:=zo (.builtin "tuple.__rmul__")) F.slot_tuple_mul.lookup (by decide +kernel) F.slot_tuple_rmul.lookup (by decide +kernel)
theorem Q6m:seqRepeat? (.type "tuple")=pure (zo (.builtin "tuple.__mul__")):=by
 unfold seqRepeat?;rw[gT (T := "tuple") (name := "__mul__") (id := "tuple.__mul__") F.slot_tuple_mul.lookup (by decide +kernel),gT (T := "tuple") (name := "__rmul__") (id := "tuple.__rmul__") F.slot_tuple_rmul.lookup (by decide +kernel)];rfl
def Qun(K:bS):R2:=λx y H Q=>∃ a k xs,x=.ref a/\y=.int k/\SqT K H a xs/\xs≠[]/\1<=k/\xs.length * k.toNat<=4096 /\
 (k=1->Q (.ref a) H)/\(k≠1->∀ p,H p=zl->Q (.ref p) (upd H p (.tup (bV k.toNat xs).flatten)))
theorem Qmb:OpR X (aX .Mult) (Qun X.K):=by
 intro pins s σ H x y v u Q I rx ry h;obtain⟨a,k,xs,rfl,rfl,ha,a1,hk,hz,q1,q2⟩:=h;cases rx;obtain⟨t,rfl⟩:=ry;obtain⟨its,r,p1,hs⟩:=I.tuple ha;obtain⟨⟨cls,dd,data,Y⟩,ho,hc,n,hd⟩:=id p1;simp only at hc hd;subst hc hd;have Z:its.length=xs.length:=r.length.symm;have B:0 < its.length:=by rw[Z];exact dI.mpr a1
 have a2:k.toNat<=4096:=by
  have:1 * k.toNat<=xs.length * k.toNat:=Nat.mul_le_mul_right _ (by omega);omega
 refine wpAny_binaryOp_repeat_ref (T := "tuple") (U := "int") (by decide) ⟨_,ho,rfl⟩ (λs'=>typeIs_int s' k t) Q0z F.fills_int_mul F.slot_int_rmul Q6m F.slot_int_index.lookup
  (bD F.slot_int_rmul (typeIs_int s k t) F.entry_int_rmul (F.args_int_rmul_2 _ _) (Q3x k t a its.toArray n dd Y)
   ⟨ho,rfl,⟨_,ho,rfl⟩,?_⟩)
 by_cases h1:k=1
 ·subst h1;exact bD F.slot_tuple_mul ⟨_,ho,rfl⟩ F.entry_tuple_mul (F.args_tuple_mul_2 _ _) (Q2r a its.toArray n dd Y t) ⟨ho,⟨.ref a,H,I,rfl,q1 rfl⟩⟩
 ·have f0:dj (λx1 x2=>x1 ++ x2) #[] (bV k.toNat its.toArray)=(bV k.toNat its).flatten.toArray:=by
   have:=Q1c its k.toNat [];rw[dE]at this;exact this
  have J:(its.toArray.size:Int) * k=((its.length * k.toNat:Nat):Int):=by
   rw[D0,Int.natCast_mul,Int.toNat_of_nonneg (by omega)]
  have O:(bV k.toNat its).flatten.length<=4096:=by rw[Q6z,Z,ee];exact hz
  have hb:its.length * k.toNat<=4096:=by rw[Z];exact hz
  refine bD F.slot_tuple_mul ⟨_,ho,rfl⟩ F.entry_tuple_mul (F.args_tuple_mul_2 _ _) (Q2s a its.toArray n dd Y k t ?_ ?_ ?_ ?_ ?_ ?_) ⟨ho,?_⟩
  ·rw[bQ (by omega),bQ (by omega)];exact F5
  ·intro z;rcases gU.mp z with z | z
   ·rw[gV,gW]at z;rw[z]at B;simp at B
   ·exact h1 (eq_of_beq z)
  ·intro z;rcases gU.mp z with z | z
   ·have:=of_decide_eq_true z;omega
   ·rw[gV,gW]at z;rw[z]at B;simp at B
  ·rw[J];omega
  ·rw[J];have:(4096:Int)<=sizeLine:=by decide
   show ¬ decide (((its.length * k.toNat:Nat):Int) > (sizeLine:Int))=zi;rw[bQ (by omega)];exact F5
  ·rw[f0,D0];exact F8 O (by decide)
  ·rw[f0];refine⟨.ref s.heap.objs.size,_,I.laid (t':=s.toks) (o:=.tup (bV k.toNat xs).flatten) (λb ob q=>O4 _ q) (O9 _) ?_,rfl,q2 h1 _ (I.hok.fresh (O9 _))⟩;exact⟨by rw[Q6z,ee];exact F8 hz (by decide),_,r.rep k.toNat,IsTup.new _ _⟩
open PySem.SeqAt
theorem Qhc:OpR X (aR .Is) (λx y H Q=>∃ b c,x=.bl b/\y=.bl c/\Q (.bl (b == c)) H):=by
 intro pins s σ H x y v u Q I J B h;obtain⟨b,c,rfl,rfl,q⟩:=h;cases J;cases B;exact iI ⟨.bl _,H,I,rfl,q⟩
theorem Q8b:OpR X (aR .IsNot) (λx y H Q=>∃ b c,x=.bl b/\y=.bl c/\Q (.bl (b != c)) H):=by
 intro pins s σ H x y v u Q I J B h;obtain⟨b,c,rfl,rfl,q⟩:=h;cases J;cases B;exact iJ ⟨.bl _,H,I,rfl,q⟩
theorem Vg:∀ (names:List (Str × ar)) (h:Heap) (B:List (Str × aB)) (x:Str) (c:aB),(ah h.objs.size names B).lookup x=zo c ->
  B.lookup x=zo c\/((x,NameKind.cell)∈names/\h.objs.size<=c/\(pushCells h names).IsCell c zl)
 | [],_,_,_,_,e=>.inl e
 | (name,kind) :: r,h,B,x,c,e=>by
  unfold ah at e;unfold pushCells
  by_cases I:(kind == NameKind.cell)=zi
  ·rw[bO I]at e ⊢;have O:kind=.cell:=by simpa using I
   have ih:=Vg r (h.push { cls:=.type "cell",data:=.cell zl }) ((name,h.objs.size) :: B) x c (by rw[G9];exact e);rw[G9]at ih;rcases ih with z | ⟨U,Z,Y⟩
   ·rw[bu]at z;cases J:x == name with
    | true=>
     rw[J]at z;cases z;exact .inr ⟨by rw[beq_iff_eq.mp J,O];exact D3,O9 _,⟨_,pushCells_keeps _ _ _ _ (E6 _ rfl),rfl⟩⟩
    | false=>rw[J]at z;exact .inl z
   ·exact .inr ⟨O6 _ U,by omega,Y⟩
  ·rw[bP I]at e ⊢;rcases Vg r h B x c e with z | ⟨U,Z,Y⟩
   ·exact .inl z
   ·exact .inr ⟨O6 _ U,Z,Y⟩
theorem Ue{x:Str}:∀ (names:List (Str × ar)) (n:Nat) (B:List (Str × aB)),(x,NameKind.cell)∉names->(ah n names B).lookup x=B.lookup x
 | [],_,_,_=>rfl
 | (name,kind) :: r,n,B,h=>by
  unfold ah;have J:(x,NameKind.cell)∉r:=λz=>h (O6 _ z)
  by_cases I:(kind == NameKind.cell)=zi
  ·rw[bO I,Ue r _ _ J,bu];cases O:x == name with
   | true=>exact absurd (by rw[beq_iff_eq.mp O,show kind=.cell by simpa using I];exact D3) h
   | false=>rfl
  ·rw[bP I,Ue r _ _ J]
theorem K5{x:Str}{c:aB}:∀ (names:List (Str × ar)) (n:Nat) (B:List (Str × aB)),(x,NameKind.cell)∈names->(ah n names B).lookup x=zo c->n<=c
 | [],_,_,h,_=>by cases h
 | (name,kind) :: r,n,B,h,e=>by
  unfold ah at e
  by_cases I:(x,NameKind.cell)∈r
  ·by_cases J:(kind == NameKind.cell)=zi
   ·rw[bO J]at e;exact Nat.le_of_succ_le (K5 r _ _ I e)
   ·rw[bP J]at e;exact K5 r _ _ I e
  ·rcases E2.mp h with q | q
   ·cases q;rw[bO (by decide),Ue r _ _ I,bu]at e;simp at e;exact eu e
   ·exact absurd q I
theorem K6:∀ (names:List (Str × ar)) (n:Nat) (B:List (Str × aB)),(∀ x c,B.lookup x=zo c->c < n)->(∀ x y c,B.lookup x=zo c->B.lookup y=zo c->x=y) ->
  ∀ x y c,(ah n names B).lookup x=zo c->(ah n names B).lookup y=zo c->x=y
 | [],_,_,_,h=>h
 | (name,kind) :: r,n,B,h1,h2=>by
  unfold ah
  by_cases U:(kind == NameKind.cell)=zi
  ·rw[bO U];refine K6 r (n + 1) _ (λx c e=>?_) (λx y c e J=>?_)
   ·rw[bu]at e;cases O:x == name with
    | true=>rw[O]at e;cases e;exact cw _
    | false=>rw[O]at e;exact cD (h1 x c e)
   ·rw[bu]at e J;cases O:x == name with
    | true=>
     rw[O]at e;cases e;cases I:y == name with
     | true=>rw[beq_iff_eq.mp O,beq_iff_eq.mp I]
     | false=>rw[I]at J;exact absurd (h1 y _ J) (bg _)
    | false=>
     rw[O]at e;cases I:y == name with
     | true=>rw[I]at J;cases J;exact absurd (h1 x _ e) (bg _)
     | false=>rw[I]at J;exact h2 x y c e J
  ·rw[bP U];exact K6 r n B h1 h2
theorem Q4h {M:Model} {A:aQ} {E:zAC} {s:aD} {scope:Scope} {I:aB} {cl:List (Str × aB)} {qual:Str} {J:Option aB} {code:aA} {env:Env} {B:aB} {Q:Env->aD->Prop}
  (Y:Q (newEnv scope s.heap.objs.size I (ah (s.heap.objs.size + 1) scope.names cl) qual J code (zo env) B) { s with heap:=pushCells (s.heap.push { cls:=.type "dict",data:=.dict #[] }) scope.names }) :
  aF M A (newFunctionEnv scope I cl [] qual J code (zo env) B) Q E s:=by
 simp only[newFunctionEnv,gX,if_true];refine aC (wpAny_alloc ?_);refine aC (wpAny_layCells _ (λname kind U=>by cases O:kind == NameKind.cell <;> simp[O]) _ _ _ _ ?_);rw[show({ s with heap:=s.heap.push { cls:=.type "dict",data:=.dict #[] } }:aD).heap.objs.size=s.heap.objs.size + 1 from G9 ..];refine aC ?_;rw[dn];exact wpAny_pure (wpAny_pure Y)
def compOkC(N N':List Str)(sc scE:Scope)(cap:zAB):Bool:=
 sc.kind == .function && sc.names.all (λx=>x.2 != .cell || sc.names.lookup x.1 == zo .cell) && sc.names.all (λx=>x.2 != .local || sc.names.lookup x.1 == zo .local) &&
 sc.names.all (λx=>x.2 != .free || scE.names.lookup x.1 == zo .cell || scE.names.lookup x.1 == zo .free) && cap.length == N'.length &&
 (bT cap.length).all (λi=>match cap[i]? with
  | some (zo j)=>(match N'[i]?,N[j]? with | some a,zo b=>a == b && sc.names.lookup a == zo .free | _,_=>zb)
  | _=>zi)
structure CompOkC(N N':List Str)(sc scE:Scope)(cap:zAB):Prop where
 kind:sc.kind=.function
 cel:∀ x∈sc.names,x.2=.cell->sc.names.lookup x.1=zo .cell
 loc:∀ x∈sc.names,x.2=.local->sc.names.lookup x.1=zo .local
 fre:∀ x∈sc.names,x.2=.free->scE.names.lookup x.1=zo .cell\/scE.names.lookup x.1=zo .free
 len:cap.length=N'.length
 at_:∀ (i j:Nat),cap[i]?=zo (zo j)->∃ x,N'[i]?=zo x/\N[j]?=zo x/\sc.names.lookup x=zo .free
theorem compOkC.of{N N':List Str}{sc scE:Scope}{cap:zAB}(h:compOkC N N' sc scE cap=zi):CompOkC N N' sc scE cap:=by
 unfold compOkC at h;simp only[L9,G8,beq_iff_eq,Bool.or_eq_true,bne_iff_ne]at h;obtain⟨⟨⟨⟨⟨h1,h2⟩,h3⟩,h4⟩,h5⟩,h6⟩:=h;refine⟨h1,λx B e=>?_,λx B e=>?_,λx B e=>?_,h5,λi j e=>?_⟩
 ·rcases h2 x B with z | z
  ·exact absurd e z
  ·exact z
 ·rcases h3 x B with z | z
  ·exact absurd e z
  ·exact z
 ·rcases h4 x B with(z | z) | z
  ·exact absurd e z
  ·exact .inl z
  ·exact .inr z
 ·have hi:i < cap.length:=(O1.mp e).1;have:=h6 i (bq.mpr hi);rw[e]at this;simp only at this;cases e1:N'[i]? with
  | none=>rw[e1]at this;cases this
  | some a=>
   cases e2:N[j]? with
   | none=>rw[e1,e2]at this;cases this
   | some b=>
    rw[e1,e2]at this;simp only[L9,beq_iff_eq]at this;obtain⟨rfl,z⟩:=this;exact⟨a,rfl,rfl,z⟩
def Y2(X:Cx)(N':List Str)(sc:Scope)(cl:List (Str × aB))(C:aB)(s0:aD)(H0:Hp)(ex:List aB):Cx:=
 { X with N:=N',s₀:=s0,H₀:=H0,env:=compEnvC sc cl C X.env,outer:=X.stack,ex:=ex,fn:=λx=>sc.names.lookup x == zo .cell,pn:=[],xe:=λ_ _=>False }
theorem Qjh {pins:zAA} {σ:St} {H:Hp} {s:aD} {N N':List Str} {sc scE:Scope} {cap:zAB} {cl:List (Str × aB)} {fp:List aB}
  (I:Inv X pins σ H s) (hN:X.N=N) (hE:X.env.scope=scE) (ck:CompOkC N N' sc scE cap) (c1:∀ x c,cl.lookup x=zo c->X.env.cells.lookup x=zo c) (c2:∀ x∈sc.names,x.2=.free->∃ c,cl.lookup x.1=zo c)
  (hf:∀ b∈fp,Q4f X pins H b) (a5:∀ b∈fp,b < s.heap.objs.size) :
  Inv (Y2 X N' sc (ah (s.heap.objs.size + 1) sc.names cl) s.heap.objs.size s H fp) [] (Q0h cap σ) H { s with heap:=pushCells (s.heap.push { cls:=.type "dict",data:=.dict #[] }) sc.names }:=by
 obtain⟨h₁,O⟩:∃ h₁,pushCells (s.heap.push { cls:=.type "dict",data:=.dict #[] }) sc.names=h₁:=⟨_,rfl⟩;obtain⟨B,J⟩:∃ B,ah (s.heap.objs.size + 1) sc.names cl=B:=⟨_,rfl⟩;rw[O,J];have keep:∀ b o,s.heap.get? b=zo o->h₁.get? b=zo o:=λb o e=>by rw[<- O];exact pushCells_keeps _ _ b o (O4 _ e)
 have a8:h₁.Ns s.heap.objs.size (λ_=>zl):=by rw[<- O];exact(Heap.Ns.new s.heap (.type "dict")).keeps (pushCells_keeps _ _)
 have look:∀ x c,B.lookup x=zo c->cl.lookup x=zo c\/(s.heap.objs.size + 1<=c/\h₁.IsCell c zl):=λx c e=>by
  rw[<- J]at e;have:=Vg (sc.names) (s.heap.push { cls:=.type "dict",data:=.dict #[] }) cl x c (by rw[G9];exact e);rw[G9,O]at this;rcases this with z | ⟨_,z,z'⟩
  ·exact .inl z
  ·exact .inr ⟨z,z'⟩
 have Y:∀ x c,cl.lookup x=zo c->c < s.heap.objs.size:=λx c e=>by
  obtain⟨v,o,ho,_⟩:=I.cell x c (c1 x c e);exact E3 ho
 have inj:∀ x y c,B.lookup x=zo c->B.lookup y=zo c->x=y:=by
  rw[<- J];exact K6 _ _ _ (λx c e=>cD (Y x c e)) λx y c a b=>I.ok.inj x y c (c1 x c a) (c1 y c b)
 have a7:∀ x,sc.names.lookup x=zo .cell->∃ c,B.lookup x=zo c:=λx e=>by
  rw[<- J];exact fy.mp (eS _ _ _ (.inl e))
 have a3:∀ x,sc.names.lookup x=zo .free->B.lookup x=cl.lookup x:=λx e=>by
  rw[<- J];refine Ue _ _ _ λz=>?_
  have:=ck.cel _ z rfl;rw[e]at this;cases this
 have kindOf:∀ x k,(compEnvC sc B s.heap.objs.size X.env).kindOf x=zo k->k=.cell\/k=.free->sc.names.lookup x=zo .free\/sc.names.lookup x=zo .cell:=λx k e hk=>by
  have e':(relabel sc X.env).names.lookup x=zo k:=e;rw[ja]at e';cases q:sc.names.lookup x with
  | none=>rw[q]at e';cases e'
  | some k'=>
   rw[q]at e';have a6:(if(k' == NameKind.free && X.env.scope.kind == .function && X.env.kindOf x == zo .cell)=zi then NameKind.cell else k')=k:=bY e'
   by_cases U:(k' == NameKind.free && X.env.scope.kind == .function && X.env.kindOf x == zo .cell)=zi
   ·simp only[L9,beq_iff_eq]at U;rw[U.1.1];exact .inl rfl
   ·rw[bP U]at a6;subst a6;rcases hk with z | z
    ·rw[z];exact .inr rfl
    ·rw[z];exact .inl rfl
 have cellAt:∀ x c,X.env.cells.lookup x=zo c->∀ v,s.heap.IsCell c v->h₁.IsCell c v:=λx c e v ⟨o,ho,hd⟩=>⟨o,keep c o ho,hd⟩
 have a1:∀ c,s.heap.objs.size<=c->H c=zl:=λc U=>I.hok.fresh U
 refine⟨⟨I.ok.mod,ck.kind,I.ok.glob,I.ok.blt,O9 _,inj,λx hx=>?_,λx c h1 h2=>?_,I.ok.hd,I.ok.frames,.inl rfl,λb hb=>?_,I.bs,
  F8 I.ok.bsz I.sz,λb o e hb=>?_,λb hb hz=>?_,I.stack,I.stkFree⟩,rfl,I.bare,Un.kept keep,⟨_,a8,λi x v e1 e2 e3=>?_⟩,λx c e=>?_,a1 _ (O9 _),λx c e=>?_,λp hp=>(by cases hp),I.hok.kept keep,?_⟩
 ·have hx:(compEnvC sc B s.heap.objs.size X.env).kindOf x=zo .cell\/(compEnvC sc B s.heap.objs.size X.env).kindOf x=zo .free:=hx;have q:sc.names.lookup x=zo .free\/sc.names.lookup x=zo .cell:=by
   rcases hx with z | z
   ·exact kindOf x _ z (.inl rfl)
   ·exact kindOf x _ z (.inr rfl)
  rcases q with q | q
  ·obtain⟨c,U⟩:=c2 _ (bz q) rfl;exact⟨c,(a3 x q).trans U⟩
  ·exact a7 x q
 ·have h1:sc.names.lookup x=zo .cell:=by simpa[Y2]using h1
  have h2:B.lookup x=zo c:=h2;rw[<- J]at h2;exact F8 (cE _) (K5 _ _ _ (bz h1) h2)
 ·refine⟨F7 (a5 b hb),λx c e=>?_⟩;rcases look x c e with z | ⟨z,_⟩
  ·exact(hf b hb).2.2.2.2.1 x c (c1 x c z)
  ·exact λq=>absurd (E4 (a5 b hb) (F8 (cE _) (q ▸ z))) (bg _)
 ·rcases(hf b hb).2.2.2.1 with z | z
  ·exact I.ok.noex b o e z
  ·exact absurd (E4 (E3 e) (F8 I.ok.bsz z)) (bg _)
 ·rcases E2.mp (I.stkSub b hz)with e | z
  ·exact(hf b hb).2.1 e
  ·exact(hf b hb).2.2.1 z
 ·have e1:N'[i]?=zo x:=e1;have e2:(Q0h cap σ)[i]?=zo (zo v):=e2;unfold Q0h at e2;rw[F4]at e2;cases q:cap[i]? with
  | none=>rw[q]at e2;cases e2
  | some oj=>
   rw[q]at e2;cases oj with
   | none=>cases e2
   | some j=>
    obtain⟨y,z1,z2,z3⟩:=ck.at_ i j q;rw[e1]at z1;cases z1;have ev:σ[j]?=zo (zo v):=by
     have Z:(σ[j]?).join=zo v:=bY e2;cases r:σ[j]? with
     | none=>rw[r]at Z;cases Z
     | some o=>rw[r]at Z;exact congrArg zo Z
    obtain⟨m',a9,hl⟩:=I.loc;have sK:X.env.scope.names.lookup x=zo .cell\/X.env.scope.names.lookup x=zo .free:=by rw[hE];exact ck.fre _ (bz z3) rfl
    obtain⟨u,ru,l⟩:=hl j x v (by rw[hN];exact z2) ev (sK.elim (λz=>.inr (.inl z)) λz=>.inr (.inr z))
    refine⟨u,ru,?_⟩;obtain⟨c,U⟩:=c2 _ (bz z3) rfl;rcases l with⟨k,_⟩ | ⟨k,c',a4,a2⟩
    ·have k:X.env.scope.names.lookup x=zo .local:=k;rcases sK with z | z <;> (rw[k]at z;cases z)
    ·have:c=c':=by
      have q1:=c1 x c U;rw[a4]at q1;exact(bY q1).symm
     subst this;refine .inr ⟨?_,c,(a3 x z3).trans U,cellAt x c a4 _ a2⟩;show(relabel sc X.env).names.lookup x=zo .cell\/(relabel sc X.env).names.lookup x=zo .free;rw[ja,z3];show zo (if _ then NameKind.cell else NameKind.free)=_\/zo (if _ then NameKind.cell else NameKind.free)=_
     split
     ·exact .inl rfl
     ·exact .inr rfl
 ·rcases look x c e with z | ⟨_,z⟩
  ·obtain⟨v,q⟩:=I.cell x c (c1 x c z);exact⟨v,cellAt x c (c1 x c z) v q⟩
  ·exact⟨_,z⟩
 ·rcases look x c e with z | ⟨z,_⟩
  ·exact I.freeC x c (c1 x c z)
  ·exact a1 c (by omega)
 ·unfold Q0h;show _=N'.length;rw[O0];exact ck.len
end L2
namespace PySem
open Sem (wp)
def Q4y(o:Obj):Option aA:=match o.data with | .fields vs=>vs[2]? | _=>zl
theorem Qih{o:Obj}{vs:Array aA}{x:aA}(B:o.data=.fields vs):Q4y (cV (·.setIfInBounds 1 x) o)=Q4y o:=by
 have d:=cf B (·.setIfInBounds 1 x);unfold Q4y;rw[d,B];exact gY (by decide)
variable{M:Model}{A:aQ}{E:aA->aD->Prop}{s:aD}{en:Env}{ou:List Env}{L e:aB}{ob:Obj}{vs:Array aA}{a0:aA}{Q:Unit->aD->Prop}
section
variable{bs:Heap}
theorem Q43 {I:aA} {nx:Bool} (fr:A.frames=zo (en :: ou)) (ff:s.heap.FunFrames bs (en :: ou)) (ef:en.frame=zo L) (oe:s.heap.get? e=zo ob) (kb:bs.StaysIn s.heap) (ne:bs.get? e=zl)
  (O:ob.data=.fields vs) (z1:1 < vs.size) (z0:vs[0]?=zo a0)
  (h:∀ h',Heap.LeftW bs (en :: ou) e ob.cls a0 s.heap h'->(∃ o',h'.get? e=zo o'/\o'.dict=ob.dict/\Q4y o'=Q4y ob)->Q () { s with heap:=h' }) :
  aF M A (do
   let a <- frameOf en
   let pl <- entryPlaceOf L nx
   let b <- EntryCells.newEntry I a .none (ae L) .none pl
   setField (.ref e) 1 b) (λ_ s'=>aF M A (setFlight (.ref e) zl) Q E s') E s:=by
 have nf:e∉(en :: ou).filterMap (·.frame):=λm=>by
  obtain⟨_,o,q,n⟩:=ff.mem m;rw[oe]at q;cases q;exact n vs O
 refine aC (wpAny_frameOf_fun fr ff ef λg gs=>?_);refine aC (wpAny_entryPlaceOf λpl hp=>?_);unfold EntryCells.newEntry newFields;refine aC (bA ?_ (hp.sizeOk5 _ _ _ _ _));have ge:g.get? e=zo ob:=(gs.2.1 e nf).trans oe;have gb:bs.StaysIn g:=λb o q=>(gs.2.1 b λm=>by
  rw[(ff.mem m).1]at q;cases q).trans (kb b o q)
 obtain⟨tb,U⟩:∃ tb:List aA,[I,.ref L,.none,ae L,.none] ++ (if pl.isEmpty then bV 6 bW else pl)=tb:=⟨_,rfl⟩;have l5:3 < tb.length/\tb[3]?=zo (ae L):=by
  rw[<- U];exact⟨by simp,by simp⟩
 rw[U];have Y:=O4 (h:=g) { cls:=.type "traceback",dict:=zl,data:=.fields tb.toArray } ge;refine wpAny_setField Y O z1 ?_;have te:g.objs.size≠e:=bj (E3 ge);have d3:=cf O (·.setIfInBounds 1 (bX g.objs.size));have B:=M9 (cV (·.setIfInBounds 1 (bX g.objs.size))) Y (fB d3);have J:=(M6 (g.push { cls:=.type "traceback",dict:=zl,data:=.fields tb.toArray })
  (cV (·.setIfInBounds 1 (bX g.objs.size))) te.symm).trans
  (E6 g rfl)
 unfold setFlight;refine aC (aU B d3 (x:=.ref g.objs.size) (by simp[z1]) ?_);rw[bO (show(bX g.objs.size != bW)=zi by simp)];refine wpAny_setField J rfl (by simpa using l5.1) (h _ ?_ ?_)
 all_goals
  obtain⟨g3,Z⟩:∃ g3,((g.push { cls:=.type "traceback",dict:=zl,data:=.fields tb.toArray }).update e (cV (·.setIfInBounds 1 (bX g.objs.size))))=g3:=⟨_,rfl⟩;rw[Z]at B J ⊢
 ·have kp:∀ b o,b≠e->g.get? b=zo o->(g3.update g.objs.size (cV (·.setIfInBounds 3 ((zl:Option aB).elim bW λf=>ae f)))).get? b=zo o:=λb o n q=>by
   rw[M6 _ _ (bj (E3 q)),<- Z,M6 _ _ n.symm];exact O4 _ q
  have nr:∀ b o,s.heap.get? b=zo o->(∀ ws,o.data≠.fields ws)->b≠e:=λb o q n z=>by
   rw[z,oe]at q;cases q;exact n vs O
  refine⟨λb o q=>kp b o (λz=>by rw[z,ne]at q;cases q) (gb b o q),ff.of_keeps λb o q n=>?_,?_,λb o q n=>?_⟩
  ·obtain⟨sl,z⟩:=gs.2.2 b o q;exact⟨_,kp b _ (nr b o q n) z,rfl⟩
  ·refine⟨_,_,g.objs.size,_,_,?_,⟨gL _ _,?_⟩,d3,by simp[z1],gb.fresh,te,M9 _ J (fB (cf rfl _)),cf rfl _,?_⟩
   ·rw[M6 _ _ te];exact B
   ·rw[gY (by decide)];exact z0
   ·have:=l5.1;simp[this]
  ·obtain⟨sl,z⟩:=gs.2.2 b o q;exact⟨sl,kp b _ (nr b o q n) z⟩
 ·refine⟨_,(M6 _ _ te).trans B,?_,Qih O⟩;cases ob with
  | mk c d dt sl=>cases dt <;> first | rfl | cases O
theorem Q8x (fr:A.frames=zo (en :: ou)) (Y:s.heap.FunFrames bs (en :: ou)) (B:en.frame=zo L) (I:s.heap.get? e=zo ob) (kb:bs.StaysIn s.heap) (ne:bs.get? e=zl)
  (O:ob.data=.fields vs) (J:vs[1]?=zo .none) (U:vs[0]?=zo a0)
  (h:∀ h',Heap.LeftW bs (en :: ou) e ob.cls a0 s.heap h'->(∃ o',h'.get? e=zo o'/\o'.dict=ob.dict/\Q4y o'=Q4y ob)->Q () { s with heap:=h' }):aF M A (leaving en (.ref e)) Q E s:=by
 unfold leaving noteFrame;simp only[B];refine aC (aC (aU I O J ?_));rw[bP (by decide)];exact Q43 fr Y B I kb ne O (fE.mp J).1 U h
theorem Q8w {cls:aA} {dv:Option aB} (fr:A.frames=zo (en :: ou)) (Y:en.frame=zo L) (fl:Heap.FlyingW bs (en :: ou) e cls a0 s.heap) (dd:∃ o',s.heap.get? e=zo o'/\o'.dict=dv/\Q4y o'=zo .none)
  (h:∀ h',Heap.FlyingW bs ou e cls a0 h'->(∃ o',h'.get? e=zo o'/\o'.dict=dv/\Q4y o'=zo .none)->s.heap.UpToSlots h'->Q () { s with heap:=h' }):aF M A (leaving en (.ref e)) Q E s:=by
 obtain⟨kb,ne,ff,oe,ws,T,oT,ts,O,⟨hc,z0⟩,od,z1,nT,Te,hT,dT,z3⟩:=fl;obtain⟨o',B,J,U⟩:=dd;rw[O]at B;cases B;unfold leaving noteFrame;simp only[Y];refine aC (aC (aU O od z1 ?_));rw[bO (show(bX T != bW)=zi by simp)];refine aC (aU hT dT z3 ?_);rw[bP (show ¬ ((bW == ae L)=zi) by simp[ae])];refine aC (wpAny_setField hT dT (fE.mp z3).1 ?_);have I:∀ b,b≠T->(s.heap.update T (cV (·.setIfInBounds 3 bW))).get? b=s.heap.get? b:=λb n=>M6 _ _ n.symm
 have Z:∀ b o,s.heap.get? b=zo o->(∀ ws,o.data≠.fields ws)->b≠T:=λb o q n z=>by
  rw[z,hT]at q;cases q;exact n ts dT
 refine Q43 fr (ff.of_keeps λb o q n=>⟨o,(I b (Z b o q n)).trans q,rfl⟩) Y ((I e Te.symm).trans O) (λb o q=>(I b λz=>by rw[z,nT]at q;cases q).trans (kb b o q)) ne od (fE.mp z1).1 z0 λh' lf d'=>?_
 obtain⟨k1,⟨_,_,k2⟩,k3,k4⟩:=lf;rw[hc]at k3;exact h h' ⟨k1,ne,k2,k3⟩ (d'.imp λo q=>⟨q.1,q.2.1.trans J,q.2.2.trans U⟩) λb o q n=>k4 b o ((I b (Z b o q n)).trans q) n
end
end PySem
namespace L2
open PySem PySem.Spec PyProof.Rows
variable{σ:St}{H1 H':Hp}{s1:aD}{b a:aB}{x:Str}{tt:TT}{wi:TI}{g:TG}{te:TE}{o:Option V}{u:aA}{y:V}{xs:List (HK × aA × aA)}{k:HK}{Q:zAC}{h':Heap}
def CXD(P:aM)(w:aJ):CXT:=λouter H s E e s'=>∃ a cls a0 dv H' B,e=bX a/\Fly P w outer H H' s s' a cls a0 B/\(∃ o',s'.heap.get? a=zo o'/\o'.dict=dv/\Q4y o'=zo .none)/\E cls dv H'
theorem Q6p{P:aM}{w:aJ}{X:Cx}:Q4e (CXD P w) X E0:=λ_ _ _ _ _ _ _ h=>by
 obtain⟨_,_,_,_,_,_,_,_,_,z⟩:=h;exact z.elim
variable{P:aM}{K:bS}{mg:zAD}{base:Heap}{N:List Str}{qual:Str}{scope:Scope}{f:aB}{cd:aA}{A:aQ}{outer:List Env}{s:aD}{H:Hp}{E:XK}
section
variable{w:aJ}
abbrev cxD(P:aM)(w:aJ)(K:bS)(mg:zAD)(base:Heap)(N:List Str)(qual:Str)(scope:Scope)(f:aB)(cd:aA)(A:aQ)(outer:List Env)(s:aD)(H:Hp)(E:XK):Cx:=Qex (CXD P w) P w K mg base N qual scope f cd A outer s H E
theorem Q6f{pins:zAA}(I:Inv (cxD P w K mg base N qual scope f cd A outer s H E) pins σ H1 s1){o:Obj}(e:s.heap.get? b=zo o)(n:b∉frs outer):b∉frs (cxD P w K mg base N qual scope f cd A outer s H E).stack:=λB=>by
 rcases E2.mp (I.stkSub b B)with z | z
 ·have h1:b < s.heap.objs.size:=E3 e;have h2:s.heap.objs.size<=(cxD P w K mg base N qual scope f cd A outer s H E).env.locals:=I.ok.above;rw[<- z]at h2;exact absurd (E4 h1 h2) (bg _)
 ·exact n z
theorem Qie(h:b∈frs outer):b∈frs (cxD P w K mg base N qual scope f cd A outer s H E).stack:=by
 show b∈frs (_ :: outer);unfold frs at h ⊢;rw[cz]
 split
 ·exact h
 ·exact O6 _ h
theorem Qqh {pins:zAA} {U:Heap} {e C t:aB} {dv:Option aB} (I:Inv (cxD P w K mg base N qual scope f cd A outer s H E) pins σ H1 s1)
  (hk:∀ b o,b≠e->s1.heap.get? b=zo o->U.get? b=zo o) (a3:∀ o,s1.heap.get? e=zo o->∃ vs,o.data=.fields vs) (new:s.heap.get? e=zl) (hH:H1 e=zl)
  (oe:U.get? e=zo { cls:=.ref C,dict:=dv,data:=.fields #[.ref t,.none,.none,.none,.bool zb,.none] }) (hE:E (.ref C) dv H1) :
  (cxD P w K mg base N qual scope f cd A outer s H E).xe (.ref e) { s1 with heap:=U }:=by
 have a4:∀ en∈(cxD P w K mg base N qual scope f cd A outer s H E).stack,∀ b,en.frame=zo b->b∈e :: frs (cxD P w K mg base N qual scope f cd A outer s H E).stack:=λen he b B=>O6 _ (cx.mpr ⟨en,he,B⟩)
 have ff:=PySem.W.funFrames_hide I.stack a4;have a1:∀ b o,s1.heap.get? b=zo o->(∀ vs,o.data≠.fields vs)->b≠e:=λb o q n z=>by
  subst z;obtain⟨vs,d⟩:=a3 o q;exact n vs d
 have hid:(db s1.heap (e :: frs (cxD P w K mg base N qual scope f cd A outer s H E).stack)).get? e=zl:=fi _ D3;have kb:(db s1.heap (e :: frs (cxD P w K mg base N qual scope f cd A outer s H E).stack)).StaysIn U:=λb o q=>hk b o (λz=>by rw[z,hid]at q;cases q) (fh _ q)
 show aF (aI P w) _ (leaving _ (.ref e)) _ _ _;refine Q8x (bs:=db s1.heap (e :: frs (cxD P w K mg base N qual scope f cd A outer s H E).stack)) (a0:=.ref t) (s:={ s1 with heap:=U }) I.ok.frames (ff.of_keeps λb o q n=>⟨o,hk b o (a1 b o q n) q,rfl⟩) rfl oe kb hid rfl rfl rfl λh2 lf dd=>?_
 obtain⟨k1,⟨_,_,k2⟩,k3,k4⟩:=lf;have noex:∀ b:aB,b∉(cxD P w K mg base N qual scope f cd A outer s H E).ex:=λb z=>absurd (show b∈([]:List aB)from z) (by simp)
 have Y:∀ b o,s.heap.get? b=zo o->b≠e:=λb o q z=>by rw[z,new]at q;cases q
 have J:∀ b o,s.heap.get? b=zo o->b∉frs outer->b∉e :: frs (cxD P w K mg base N qual scope f cd A outer s H E).stack:=λb o q n m=>by
  rcases E2.mp m with z | z
  ·exact Y b o q z
  ·exact Q6f I q n z
 refine⟨e,.ref C,.ref t,dv,H1,_,rfl,⟨I.os,I.bare,⟨k1,hid,k2,k3⟩,λb u q=>?_,λb o q n B=>?_,λb o q B=>?_,λb o q B=>?_,λb o q n=>I.base.free b o q n (noex b),I.base.tups,I.base.frzs,I.base.tbls⟩,dd,hE⟩
 ·have ne:∀ c v,H1 c=zo v->c∉e :: frs (cxD P w K mg base N qual scope f cd A outer s H E).stack:=λc v z m=>by
   rcases E2.mp m with m | m
   ·rw[m,hH]at z;cases z
   ·rw[I.stkFree c m]at z;cases z
  refine(I.hok b u q).stay (λc v hc r=>df _ r ?_) (λ_ r=>r) λ_ _ r=>r
  rcases hc with rfl | hc
  ·exact ne c u q
  ·exact ne c _ hc
 ·exact df _ (I.base.keep b o q n B (noex b)) (J b o q B)
 ·obtain⟨o',z⟩:=I.base.there b o q (noex b);exact⟨o',df _ z (J b o q B)⟩
 ·obtain⟨sl,z⟩:=I.base.slot b o q (I.ok.frf b B) B (noex b);obtain⟨_,o',a5,a2⟩:=I.ok.funs.mem B;have O:s.heap.get? b=zo o':=a5;rw[q]at O;cases O;obtain⟨Z,z'⟩:=k4 b _ (hk b _ (Y b o q) z) a2;exact⟨Z,z'⟩
theorem Zj:Q4e (CXD P w) (cxD P w K mg base N qual scope f cd A outer s H E) E:=by
 intro pins σ H1 s1 e s' I h;obtain⟨a,cls,a0,dv,H',B,rfl,F,dd,hE⟩:=h;show aF (aI P w) _ (leaving _ (.ref a)) _ _ _;have noex:∀ b:aB,b∉(cxD P w K mg base N qual scope f cd A outer s H E).ex:=λb z=>absurd (show b∈([]:List aB)from z) (by simp)
 refine Q8w I.ok.frames rfl F.fl dd λh2 x1 d2 x2=>?_
 refine⟨a,cls,a0,dv,H',B,rfl,⟨F.os.trans I.os,F.bare,x1,F.hokB,λb o q n J=>?_,λb o q J=>?_,λb o q J=>?_,λb o q n=>?_,λb xs q=>F.tups b xs (I.base.tups b xs q),λb o u q=>F.frzs b o u (I.base.frzs b o u q),λb ps q=>?_⟩,d2,hE⟩
 ·exact F.keep b o (I.base.keep b o q n J (noex b)) (I.base.free b o q n (noex b)) (Q6f I q J)
 ·obtain⟨o',z⟩:=I.base.there b o q (noex b);exact F.there b o' z (Q6f I q J)
 ·obtain⟨sl,z⟩:=I.base.slot b o q (I.ok.frf b J) J (noex b);obtain⟨_,o',U,Z⟩:=I.ok.funs.mem J;have O:s.heap.get? b=zo o':=U;rw[q]at O;cases O;obtain⟨a1,z'⟩:=F.slot b _ z (Qie J);obtain⟨Y,z2⟩:=x2 b _ z' Z;exact⟨Y,z2⟩
 ·obtain⟨o',z⟩:=I.base.there b o q (noex b);exact F.free b o' z (I.base.free b o q n (noex b))
 ·obtain⟨m1,e1⟩:=I.base.tbls b ps q;obtain⟨m2,e2⟩:=F.tbls b _ e1;exact⟨m1 ++ m2,by rw[e2,fj]⟩
end
variable{X:Cx}
def Qbg(X:Cx)(E:XK):Prop:=∀ (pins:zAA) (σ:St) (H0 H1:Hp) (s0 s1:aD) (hx:Heap) (e C t:aB) (dv:Option aB),Inv X pins σ H0 s0->s0.heap.get? e=zl->Inv X pins σ H1 s1->(∀ b o,b≠e->s1.heap.get? b=zo o->hx.get? b=zo o) ->
 (∀ o,s1.heap.get? e=zo o->∃ vs,o.data=.fields vs)->H1 e=zl->hx.get? e=zo { cls:=.ref C,dict:=dv,data:=.fields #[.ref t,.none,.none,.none,.bool zb,.none] }->E (.ref C) dv H1->X.xe (.ref e) { s1 with heap:=hx }
theorem Qe0 {C:aB} {e:aH} {t:TA} {np cpos pos:Pos} (B:X.calm=zi) (RO:Qbg X E) (hg:Gl X x) (hm:X.mg x=zo (.ref C)) (q:cU X.K C Qjf "ValueError.__new__" = zi) (ha:PA X [e] t)
  (Y:(x == ("__debug__" : Str))=zb:=by decide) (he:aN [e] X.env=[(zb,aL e X.env)]:=by rfl):PS X (.Raise (zo (.Call (.Name x np) [e] [] cpos)) zl pos) (Qpq C E t):=by
 intro pins s σ H D I h;obtain⟨tl,N,nm,qn,bs,hdct,sn,sub,ab,col,dd,k0,k1,k2,k3,k5,mN,hC,hN,Z,T⟩:=(Qm9 I.mod.kin hm q).obj;refine wpAny_Raise_call_subU (C:=C) (nm:=nm) (q:=qn) (N:=N) (bs:=bs) (bm:=tl) (hdct:=hdct) (sn:=sn) (sub:=sub) (ab:=ab) (col:=col) (dd:=dd) (k0:=k0) (k1:=k1) (k2:=k2) (k3:=k3) (k5:=k5)
  gZ (by decide +kernel) gZ (mN:=mN) (T.hasType (by decide +kernel)) (I.ok.hd B) (by rw[he];rfl) Z (Q72 I hg hm ⟨rfl,?_⟩ Y)
 have O:=ha cpos pins s σ H _ I h;rw[he]at O ⊢;refine Calls.evalArgs_plain (ao O (λus s1 ⟨vs,H1,J,r,z,hE⟩=>?_) λ_ _ y=>y)
 refine⟨rfl,by rw[<- r.length];exact z,J.bk _ _ hC,hN.keeps J.bk,T.keeps J.bk,λh' e' U=>?_⟩;obtain⟨t,oe,_,_⟩:=U.there;exact RO pins σ H1 H1 s1 s1 h' e' C t zl J U.new J (λb o _ k=>U.keeps b o k) (λo k=>by rw[U.new]at k;cases k) (J.hok.none_of U.new) oe hE
theorem Qgh {P:aM} {w:aJ} {K:bS} {mg:zAD} {base:Heap} {N:List Str} {qual:Str} {scope:Scope} {f:aB} {cd:aA} {A:aQ} {outer:List Env} {s:aD} {H:Hp} {E:XK} :
  Qbg (cxD P w K mg base N qual scope f cd A outer s H E) E:=λpins σ H0 H1 s0 s1 hx e C t dv Y Z I J B hH U O=>by
 refine Qqh I J B ?_ hH U O;cases q:s.heap.get? e with
 | none=>rfl
 | some o=>
  obtain⟨o',z⟩:=Y.base.there e o q (λz=>absurd (show e∈([]:List aB)from z) (by simp))
  rw[Z]at z;cases z
theorem Fun.okD {P:aM} {w:aJ} {mg:zAD} {base:Heap} {st:aK} {fd:aO} {ps:List Str} {k:Nat} {sp:Sp} (F:Fun K x qual st f fd) (S:FnScope N ps (Qe st)) (len:∀ vs H Q E,sp vs H Q E->vs.length=ps.length)
  (I:∀ (B:aA) (A:aQ) (outer:List Env) (s:aD) (H:Hp) (vs:List V) (Q:VK) (E:XK),Room k (A.deeper (envOfC qual (Qe st) s.heap.objs.size f B))->sp vs H Q E ->
   ∃ t,PSs (cxD P w K mg base N qual (Qe st) f B A outer s H E) (Ze st) t/\t { nx:=λ_ H'=>Q .non H',rt:=Q } (start N vs) H):FnOk P w K mg base (CXD P w) (k + 1) f fd ps sp:=by
 obtain⟨oc,od,kV,a1,pm,an,B,ct,U,rfl,Z,J⟩:=F.ex;exact Qwm Z J S len λA outer s H vs Q E Y O=>I B A outer s H vs Q E Y O
def Qgj(K:bS):R2:=λx y H Q=>∃ a b ys,x=.ref a/\y=.ref b/\SqT K H a []/\SqT K H b ys/\Q (.ref b) H
theorem Qhd:OpR X (aX .Add) (Qgj X.K):=by
 intro pins s σ H x y v u Q I rx ry h;obtain⟨a,b,ys,rfl,rfl,Z,Y,q⟩:=h;cases rx;cases ry;obtain⟨its,r1,p1,_⟩:=I.tuple Z;obtain⟨B,r2,p2,_⟩:=I.tuple Y;have e1:its=[]:=r1.nil_iff.mpr rfl;subst e1;obtain⟨⟨cls,dd,data,sl⟩,ho,hc,n,hd⟩:=id p1;obtain⟨⟨U,J,data2,O⟩,ho2,hc2,n2,hd2⟩:=id p2;simp only at hc hd hc2 hd2;subst hc hd hc2 hd2;exact concat_meets ⟨_,ho,rfl⟩ ⟨_,ho2,rfl⟩ noFill_tuple_add seq_tuple_add eU eV (eW _ _)
  (tuple_addW0 a b ([]:List aA).toArray B.toArray n n2 dd J sl O (by simp)) ⟨ho,ho2,⟨.ref b,H,I,rfl,q⟩⟩
abbrev Qur(K:bS):R2:=λx y H Q=>Qnw K x y H Q\/Qgj K x y H Q
theorem Qme:OpR X (aX .Add) (Qur X.K):=op_catT.or Qhd
def PTs(X:Cx)(ifs:List aH)(t:TT):Prop:=
 ∀ (pins:zAA) (s:aD) (σ:St) (H:Hp) (Q:Bool->Hp->Prop),Inv X pins σ H s->t σ H Q ->
  aF (aI X.prog X.w) X.A (forIn ifs zi λc r=>if r=zi then do let ok <- isTrue c X.env (aL c X.env);pure (ForInStep.yield ok)else pure (ForInStep.yield r)) (TP X pins σ Q) X.xe s
def Qu2:TT:=λ_ H Q=>Q zi H
theorem Qkn:PTs X [] Qu2:=λ_ _ _ H _ I h=>wpAny_tests_nil ⟨H,I,h⟩
theorem Qkm{c:aH}{t:TT}(h:PT X c t):PTs X [c] t:=λpins s σ H Q I q=>wpAny_tests_one (h pins s σ H Q I q)
def Q5w(J:It)(cap:zAB)(g:TG)(tt:TT)(te:TE)(σ:St)(H1:Hp)(Q:VK):Prop:=∀ acc,H1 acc=zl ->
 ∃ W:Nat->Nat->List V->St->Hp->Prop,(∃ m,W 0 m [] (Q0h cap σ) (upd H1 acc (.lst [])))/\∀ i m ys σ' H',W i m ys σ' H'->H' acc=zo (.lst ys) /\
  ((J.stop i H'/\Q (.ref acc) H')\/(J.go i H'/\ys.length < sizeLine/\∀ x H2,J.yld i H' x H2->g x σ' H2 λσ3 H3=>tt σ3 H3 λb H4=>
    if b=zi then te σ3 H4 λy H5=>H5 acc=zo (.lst ys)/\∃ m',m' < m/\W (i + 1) m' (ys ++ [y]) σ3 (upd H5 acc (.lst (ys ++ [y])))
    else ∃ m',m' < m/\W (i + 1) m' ys σ3 H4))
def Q6d(cap:zAB)(wi:TI)(g:TG)(tt:TT)(te:TE):TE:=λσ H Q=>wi σ H λJ H1=>Q5w J cap g tt te σ H1 Q
variable{prog:aM}{R:Result->aD->Prop}
section
variable{w:aJ}
theorem Q4z {elt B iter:aH} {ifs:List aH} {scope:Scope} {pos:Pos} {it a4:aA} {env:Env} (I:Nat->aD->Prop)
  (turn:∀ n s,I n s->aF (aI prog w) A (ag it) (λr U=>match r with
   | none=>R (.ok .next) U
   | some v=>aF (aI prog w) A (letOwnedTupleGo B it v) (λ_ Y=>aF (aI prog w) A (assign B env v) (λ_ Z=>
     aF (aI prog w) A (forIn ifs zi λc r=>if r=zi then do let ok <- isTrue c env (aL c env);pure (ForInStep.yield ok)else pure (ForInStep.yield r)) (λok O=>
      if ok=zi then aF (aI prog w) A (aL elt env) (λx a2=>
       aF (aI prog w) A (call (.builtin "list.append") [a4,x]) (λ_ a1=>∃ m,m < n/\I m a1) (λ_ _=>False) a2) (λ_ _=>False) O
      else ∃ m,m < n/\I m O) (λ_ _=>False) Z)
     (λ_ _=>False) Y) (λ_ _=>False) U) (λ_ _=>False) s)
  (n:Nat) (h:I n s):codeAny (aI prog w) A (.compLoop (.ListComp elt [⟨B,iter,ifs,0⟩] scope pos) 0 it a4 env) R s:=by
 refine codeAny_loop rfl I (λn s hI=>?_) n h;show aF _ A ((compTurn (.ListComp elt [⟨B,iter,ifs,0⟩] scope pos) 0 it a4 env).onRaise (λx=>do noteFrame x env;theTreesLotGoes x)) _ _ s;refine wpAny_noted ?_;rw[compTurn_list];refine aC (wpAny_standAt (aC (ao (turn n s hI) (λr U h₁=>?_) λ_ _ h'=>h'.elim)))
 cases r with
 | none=>exact wpAny_pure h₁
 | some v=>
  refine aC (ao h₁ (λ_ Y a3=>?_) λ_ _ h'=>h'.elim)
  refine aC (ao a3 (λ_ Z a6=>aC (ao a6 (λok O J=>?_) λ_ _ h'=>h'.elim)) λ_ _ h'=>h'.elim)
  cases ok with
  | true=>
   rw[bO rfl]at J;exact aC (aC (ao J (λx a2 a7=>aC (ao a7 (λ_ a1 a5=>wpAny_pure (wpAny_pure ⟨rfl,a5⟩)) λ_ _ h'=>h'.elim)) λ_ _ h'=>h'.elim))
  | false=>
   rw[bP F5]at J;exact aC (wpAny_pure (wpAny_pure ⟨rfl,J⟩))
end
theorem Q48 {elt tg iter:aH} {ifs:List aH} {tt:TT} {pos:Pos} {N N':List Str} {sc scE:Scope} {cap:zAB} {g:TG} {te:TE} {use:Option (aA->Sem Unit)} {QQ:zAC} (c6:X.calm=zi) (hi:PI X tg iter wi)
  (hg:∀ cl C s0 H0 ex,PG (Y2 X N' sc cl C s0 H0 ex) tg g) (he:∀ cl C s0 H0 ex,PE (Y2 X N' sc cl C s0 H0 ex) elt te) (e4:∀ cl C s0 H0 ex,PTs (Y2 X N' sc cl C s0 H0 ex) ifs tt)
  (hN:X.N=N) (hE:X.env.scope=scE) (hc:compOkC N N' sc scE cap=zi) (hs:∀ x,aw iter X.env x=pure x)
  {pins:zAA} {s:aD} {σ:St} {H:Hp} {Q:VK} (I:Inv X pins σ H s) (h:Q6d cap wi g tt te σ H Q)
  (fin:∀ d0 C H' s' m,Inv X pins σ H' s'->s'.heap.Ns C m->Q4f X pins H' C->Q (.ref d0) H'->compPost (aI X.prog X.w) X.A X.xe use QQ (.ref d0) C (.ok .next) s') {pos':Pos} :
  aF (aI X.prog X.w) X.A (comprehension (.ListComp elt [⟨tg,iter,ifs,0⟩] sc pos) sc X.env pos' (newList []) zb (aL iter X.env) use) QQ X.xe s:=by
 have ck:=compOkC.of hc;obtain⟨cl,e6,c1,c2⟩:=Qb6 (scope:=sc) (env:=X.env) λx hx hf=>I.ok.has x.1 (by
  have:=ck.fre x hx hf;rw[<- hE]at this;exact this)
 refine wpAny_comprehension_free (use:=use) rfl hs e6 ck.kind ck.loc (thn (hi pins s σ H _ I h) λv s1 h1=>thn h1 λf8 Y h2=>?_)
 obtain⟨it,fp,tn,J,H2,e,I2,T,d1,f2,hw⟩:=h2;subst e;have b7:∀ b∈fp,b < Y.heap.objs.size:=λb O=>by
  obtain⟨o,e,_⟩:=T.obj _ _ d1 b O;exact E3 e
 obtain⟨W,⟨m0,w0⟩,turn⟩:=hw Y.heap.objs.size I2.fresh;refine bA (Q4h ?_);dsimp only;have I3:Inv X pins σ (upd H2 Y.heap.objs.size (.lst [])) { Y with heap:=Y.heap.push { cls:=.type "list",data:=.seq ([]:List aA).toArray } }:=
  I2.lnew (its:=[]) (ys:=[]) (t':=Y.toks) .nil (bb _)
 generalize d8:({ Y with heap:=Y.heap.push { cls:=.type "list",data:=.seq ([]:List aA).toArray } }:aD)=Z at I3;have d5:Z.heap=Y.heap.push { cls:=.type "list",data:=.seq ([]:List aA).toArray }:=by rw[<- d8]
 have hsz:Z.heap.objs.size=Y.heap.objs.size + 1:=by rw[d5,G9]
 have f3:∀ b∈fp,Q4f X pins (upd H2 Y.heap.objs.size (.lst [])) b:=λb O=>by
  obtain⟨g0,g1⟩:=f2 b O;exact⟨by rw[Qc (F7 (b7 b O))];exact g0,g1⟩
 have k3:∀ b o,Y.heap.get? b=zo o->Z.heap.get? b=zo o:=λb o e=>by rw[d5];exact O4 _ e
 obtain⟨a3,b3⟩:∃ a3,ah (Z.heap.objs.size + 1) sc.names cl=a3:=⟨_,rfl⟩;obtain⟨h₁,a1⟩:∃ h₁,pushCells (Z.heap.push { cls:=.type "dict",data:=.dict #[] }) sc.names=h₁:=⟨_,rfl⟩;have k1:∀ b o,Z.heap.get? b=zo o->h₁.get? b=zo o:=λb o e=>by rw[<- a1];exact pushCells_keeps _ _ b o (O4 _ e)
 have e0:∀ x c,a3.lookup x=zo c->cl.lookup x=zo c\/Z.heap.objs.size + 1<=c:=λx c e=>by
  rw[<- b3]at e;have:=Vg (sc.names) (Z.heap.push { cls:=.type "dict",data:=.dict #[] }) cl x c (by rw[G9];exact e);rcases this with z | ⟨_,z,_⟩
  ·exact .inl z
  ·rw[G9]at z;exact .inr z
 have I4:Inv (Y2 X N' sc a3 Z.heap.objs.size Z (upd H2 Y.heap.objs.size (.lst [])) fp) [] (Q0h cap σ) (upd H2 Y.heap.objs.size (.lst [])) { Z with heap:=h₁ }:=by
  rw[<- b3,<- a1];exact Qjh I3 hN hE ck c1 c2 f3 (λb O=>E4 (b7 b O) (by rw[hsz];exact cE _))
 have d6:tn 0 h₁:=T.keep _ _ _ d1 λb O o e=>k1 b o (k3 b o e)
 generalize B:Y2 X N' sc a3 Z.heap.objs.size Z (upd H2 Y.heap.objs.size (.lst [])) fp=X' at I4;have c4:X'.xe=λ_ _=>False:=by rw[<- B];rfl
 have U:X'.prog=X.prog:=by rw[<- B];rfl
 have a2:X'.w=X.w:=by rw[<- B];rfl
 have d3:X'.K=X.K:=by rw[<- B];rfl
 have a8:X'.A=X.A:=by rw[<- B];rfl
 have d4:X'.calm=zi:=by rw[<- B];exact c6
 have a5:X'.env=compEnvC sc a3 Z.heap.objs.size X.env:=by rw[<- B];rfl
 have a7:X'.env.locals=Z.heap.objs.size:=by rw[a5];rfl
 have e5:PG X' tg g:=by rw[<- B];exact hg _ _ _ _ _
 have e7:PE X' elt te:=by rw[<- B];exact he _ _ _ _ _
 have c8:PTs X' ifs tt:=by rw[<- B];exact e4 _ _ _ _ _
 have b1:∀ {H':Hp},(∀ b∈fp,H' b=zl)->∀ b∈fp,Q4f X' [] H' b:=λ{H'} hn b O=>by
  obtain⟨_,g1,g2,g3,g4,g5⟩:=f3 b O;refine⟨hn b O,by rw[a7,hsz];exact F7 (cD (b7 b O)),?_,?_,?_,λp hp=>?_⟩
  ·rw[<- B];intro z;rcases E2.mp (I3.stkSub b z)with e | z
   ·exact g1 e
   ·exact g2 z
  ·left
   rw[<- B];exact O
  ·intro x c e;rw[a5]at e;rcases e0 x c e with z | z
   ·exact g4 x c (c1 x c z)
   ·exact λq=>absurd (E4 (b7 b O) (F8 (F8 (cE _) (hsz ▸ cE _)) (q ▸ z))) (bg _)
  ·rw[<- B]at hp;cases hp
 have c9:∀ {b2:St} {H':Hp} {s':aD},Inv X' [] b2 H' s'->Q (.ref Y.heap.objs.size) H'->compPost (aI X.prog X.w) X.A X.xe use QQ (.ref Y.heap.objs.size) Z.heap.objs.size (.ok .next) s':=λ{b2 H' s'} J q=>by
  obtain⟨mm,d2,_⟩:=J.loc;rw[a7]at d2;have c5:H' Z.heap.objs.size=zl:=by have:=J.free;rw[a7]at this;exact this
  have hok:=J.hok;rw[U,a2]at hok;have u1:Un (frs X.stack) fp (upd H2 Y.heap.objs.size (.lst [])) H' Z.heap s'.heap:=by
   have:=J.base;rw[<- B]at this;exact this
  have d9:s'.os=Z.os:=by have:=J.os;rw[<- B]at this;exact this
  refine fin _ _ H' s' mm (I3.call' (s':=s') d9 u1 hok J.bare λb O=>?_) d2 (I3.fpOk (O9 _) c5) q
  obtain⟨_,g1,g2,g3,g4,g5⟩:=f3 b O;exact⟨g3,g1,g4,g5⟩
 have a4:codeAny (aI X.prog X.w) X.A (.compLoop (.ListComp elt [⟨tg,iter,ifs,0⟩] sc pos) 0 (.ref it) (.ref Y.heap.objs.size) X'.env)
   (compPost (aI X.prog X.w) X.A X.xe use QQ (.ref Y.heap.objs.size) Z.heap.objs.size) { Z with heap:=h₁ }:=by
  refine Q4z (λn s'=>∃ i ys b2 H',Inv X' [] b2 H' s'/\tn i s'.heap/\(∀ b∈fp,H' b=zl)/\W i n ys b2 H') ?_ m0 ⟨0,[],_,_,I4,d6,λb O=>(f3 b O).1,w0⟩
  rintro n s5 ⟨i,ys,b6,H5,I5,d7,c7,w5⟩;obtain⟨f7,q⟩:=turn i n ys b6 H5 w5;rcases q with⟨stop,q⟩ | ⟨go,f6,step⟩
  ·refine thn (a8 ▸ T.done X' U a2 d3 d4 i [] s5 b6 H5 _ I5 (b1 c7) d7 stop) λr s6 ⟨hr,I6⟩=>?_
   subst hr;exact c9 I6 q
  ·refine thn (a8 ▸ T.item X' U a2 d3 d4 i [] s5 b6 H5 _ I5 (b1 c7) d7 go) λr s6 ⟨u,hr,h6⟩=>?_
   subst hr;refine thn h6 λ_ s7 ⟨x,H7,I7,r7,y7,a6,f0⟩=>?_
   have e8:=I7.pinned (b1 f0) (T.obj _ _ a6);have g7:=e5 _ s7 b6 H7 x u _ e8 r7 (step x H7 y7);rw[U,a2,a8,c4]at g7;refine thn g7 λ_ s8 ⟨b0,H8,I8,q8⟩=>?_
   have t8:=c8 _ s8 b0 H8 _ I8 q8;rw[U,a2,a8,c4]at t8;refine thn t8 λf5 e9 ⟨f4,b5,b4⟩=>?_
   cases f5 with
   | false=>
    rw[bP F5]at b4 ⊢;obtain⟨m',c3,w9⟩:=b4;refine⟨m',c3,i + 1,_,b0,_,b5.unpinned,T.keep _ _ _ a6 λb O o eo=>(b5.pin (b,o) (G7 _ (G7 _ (Vz O eo)))).1,λb O=>?_,w9⟩;obtain⟨o,eo,d⟩:=T.obj _ _ a6 b O;exact(b5.pin (b,o) (G7 _ (G7 _ (Vz O eo)))).2.1
   | true=>
   rw[bO rfl]at b4 ⊢;have g8:=e7 _ e9 b0 f4 _ b5 b4;rw[U,a2,a8,c4]at g8;refine thn g8 λy s9 ⟨yv,H9,I9,r9,a9,m',c3,w9⟩=>?_
   obtain⟨z,its,nn,rr,hl,e⟩:=I9.lstM a9;refine bD F.slot_list_append ⟨_,e,rfl⟩ F.entry_list_append (F.args_list_append_2 _ _) (gE _ its.toArray nn y (by rw[D0];omega)) ⟨e,?_⟩;have b9:Inv X' ([] ++ Q37 fp s7.heap) b0 (upd H9 Y.heap.objs.size (.lst (ys ++ [yv]))) { s9 with heap:=s9.heap.update Y.heap.objs.size (ba λa=>a.push y) }:=
    I9.lset (t':=s9.toks) (its':=its ++ [y]) a9 e (by simp) (rr.append (.cons r9 .nil)) (by rw[O5,gF];omega)
   refine⟨m',c3,i + 1,_,b0,_,b9.unpinned,T.keep _ _ _ a6 λb O o eo=>(b9.pin (b,o) (G7 _ (G7 _ (Vz O eo)))).1,λb O=>?_,w9⟩;obtain⟨o,eo,d⟩:=T.obj _ _ a6 b O;exact(b9.pin (b,o) (G7 _ (G7 _ (Vz O eo)))).2.1
 rw[a5]at a4;have b8:=codeAny_compStart_list (rest:=[]) (ifs:=ifs) a4 (T.self X.A 0 _ _ _ d6 a4);subst d8;rw[<- b3,<- a1]at b8;exact b8
theorem Qh7 {elt tg iter:aH} {ifs:List aH} {tt:TT} {pos:Pos} {N N':List Str} {sc scE:Scope} {cap:zAB} {g:TG} {te:TE} (B:X.calm=zi) (hi:PI X tg iter wi)
  (hg:∀ cl C J H0 ex,PG (Y2 X N' sc cl C J H0 ex) tg g) (he:∀ cl C J H0 ex,PE (Y2 X N' sc cl C J H0 ex) elt te) (U:∀ cl C J H0 ex,PTs (Y2 X N' sc cl C J H0 ex) ifs tt)
  (hN:X.N=N:=by rfl) (hE:X.env.scope=scE:=by rfl) (hc:compOkC N N' sc scE cap=zi:=by decide +kernel) (hs:∀ x,aw iter X.env x=pure x:=by intro _;rfl) :
  PE X (.ListComp elt [⟨tg,iter,ifs,0⟩] sc pos) (Q6d cap wi g tt te):=by
 intro pins s σ H Q I h;rw[eval_ListComp];refine Q48 (use:=zl) B hi hg he U hN hE hc hs I h λY C H' s' m I' hm hf q=>⟨m,hm,λh' O=>?_⟩
 obtain⟨f0,f1,f2,f3,f4,Z⟩:=hf;exact⟨.ref Y,H',I'.turned (t':=s'.toks) (λb o hb e=>(O.2 b hb).trans e) f0 f1 f3 f4 Z,rfl,q⟩
theorem Q88 {ifs:List aH} {tt:TT} {i:Nat} {px B:Pos} {elt tg iter:aH} {pos:Pos} {N N':List Str} {sc scE:Scope} {cap:zAB} {g:TG} {te:TE} (a3:X.N.Nodup) (a2:X.N[i]?=zo x) (hx:Loc X.env.scope x) (J:X.calm=zi) (hi:PI X tg iter wi)
  (hg:∀ cl C U H0 ex,PG (Y2 X N' sc cl C U H0 ex) tg g) (he:∀ cl C U H0 ex,PE (Y2 X N' sc cl C U H0 ex) elt te) (a4:∀ cl C U H0 ex,PTs (Y2 X N' sc cl C U H0 ex) ifs tt)
  (a5:swapsWith (.ListComp elt [⟨tg,iter,ifs,0⟩] sc pos) (zo (.Name x px)) B.line X.env=pure zi:=by rfl)
  (hN:X.N=N:=by rfl) (hE:X.env.scope=scE:=by rfl) (hc:compOkC N N' sc scE cap=zi:=by decide +kernel) (hs:∀ x,aw iter X.env x=pure x:=by intro _;rfl)
  (hf:X.fn x=zi\/X.env.scope.names.lookup x=zo .local:=by first | exact .inl rfl | exact .inr rfl | assumption) :
  PS X (.Assign [.Name x px] (.ListComp elt [⟨tg,iter,ifs,0⟩] sc pos) B) (Qpu (Q6d cap wi g tt te) (Q97 i)):=by
 intro pins s σ H D I h;rw[exec_Assign_Name_used _ _ _ _ a5];refine aC (wpAny_standAt (aC ?_));show aF _ _ (do let _ <- comprehension (.ListComp elt [⟨tg,iter,ifs,0⟩] sc pos) sc X.env _ (newList []) zb (aL iter X.env) (zo (assign (.Name x px) X.env))) _ _ s;refine aC (ao (Q48 (use:=zo (assign (.Name x px) X.env)) (QQ:=λ_ s'=>SP X pins D .next s') J hi hg he a4 hN hE hc hs I h ?_) (λ_ s' hq=>wpAny_pure (wpAny_pure hq)) λ_ _ e=>e)
 intro Y C H' s' m I' hm Z q;obtain⟨f0,f1,f2,f3,f4,f5⟩:=Z;show aF _ _ (assign (.Name x px) X.env (.ref Y)) _ _ _;refine wpAny_assign_Name (Q51 I' a3 a2 hx (v:=.ref Y) rfl (λs2 I2 ⟨a,sb,O⟩=>⟨m,?_,λh' a1=>?_⟩) hf)
 ·refine hm.sameBut sb λz=>?_
  rcases O with O | O
  ·exact f1 (z.trans O)
  ·exact f4 x a O z.symm
 ·exact⟨_,H',I2.turned (t':=s2.toks) (λb o hb e=>(a1.2 b hb).trans e) f0 f1 f3 f4 f5,q⟩
section
section
variable{κ:Type}[DecidableEq κ]
def Xv(kvs:List (κ × V))(k:κ):Option V:=(kvs.find? λkv=>decide (kv.1=k)).map (·.2)
def Ki(kvs:List (κ × V))(k:κ)(v:V):List (κ × V):=
 if(kvs.any λkv=>decide (kv.1=k))=zi then kvs.map (λkv=>if kv.1=k then(kv.1,v)else kv)else kvs ++ [(k,v)]
theorem Q2m{p:κ × V}{r:List (κ × V)}{k:κ}(e:p.1=k):Xv (p :: r) k=zo p.2:=by simp[Xv,bv,e]
theorem Q2n{p:κ × V}{r:List (κ × V)}{k:κ}(e:¬ p.1=k):Xv (p :: r) k=Xv r k:=by simp[Xv,bv,e]
theorem Q7m(k:κ):∀ B:List (κ × V),(B.any λI=>decide (I.1=k))=(Xv B k).isSome
 | []=>rfl
 | p :: r=>by
  rw[cj]
  by_cases e:p.1=k
  ·simp only[Q2m e,bR e,Bool.true_or,gX]
  ·rw[Q2n e,bQ e,Bool.false_or];exact Q7m k r
theorem jg(B:List (κ × V))(k:κ)(v:V):(Ki B k v).length<=B.length + 1:=by
 unfold Ki
 split
 ·rw[O0];omega
 ·rw[O5,E5,M7];omega
theorem RelO.isSome_eq{u:Option aA}(r:RelO o u):o.isSome=u.isSome:=by
 cases o with
 | none=>cases u with
  | none=>rfl
  | some _=>exact(show False from r).elim
 | some _=>cases u with
  | none=>exact(show False from r).elim
  | some _=>rfl
theorem RelO.getD{u:Option aA}{d:V}{d':aA}(r:RelO o u)(B:RelV d d'):RelV (o.getD d) (u.getD d'):=by
 cases o with
 | none=>cases u with
  | none=>exact B
  | some _=>exact(show False from r).elim
 | some _=>cases u with
  | none=>exact(show False from r).elim
  | some _=>exact r
theorem KV.val{B:List (κ × V)}{vs:List (κ × aA)}(r:KV B vs)(k:κ):RelO (Xv B k) (bH vs k):=by
 unfold KV at r
 induction r with
 | nil=>exact True.intro
 | @cons p q ps J h t O=>
  obtain⟨h1,h2⟩:=h
  by_cases e:p.1=k
  ·have I:q.1=k:=h1.symm.trans e;have b:bH (q :: J) k=zo q.2:=by simp[bH,bv,I]
   rw[Q2m e,b];exact h2
  ·have I:¬ q.1=k:=λz=>e (h1.trans z)
   have b:bH (q :: J) k=bH J k:=by simp[bH,bv,I]
   rw[Q2n e,b];exact O
theorem KV.any{B:List (κ × V)}{vs:List (κ × aA)}(r:KV B vs)(k:κ):(B.any λI=>decide (I.1=k))=vs.any λI=>decide (I.1=k):=by
 unfold KV at r
 induction r with
 | nil=>rfl
 | cons h t J=>rw[cj,cj,J,h.1]
theorem KV.repl {I:List (κ × V)} {vs:List (κ × aA)} (r:KV I vs) (k:κ) (O:RelV y u) :
  KV (I.map λB=>if B.1=k then(B.1,y)else B) (vs.map λB=>if B.1=k then(B.1,u)else B):=by
 unfold KV at r ⊢
 induction r with
 | nil=>exact .nil
 | @cons p q ps U h t J=>
  rw[D8,D8];refine .cons ?_ J;obtain⟨h1,h2⟩:=h
  by_cases e:p.1=k
  ·rw[bO e,bO (h1.symm.trans e)];exact⟨h1,O⟩
  ·rw[bP e,bP (λz=>e (h1.trans z))];exact⟨h1,h2⟩
theorem KV.put{B:List (κ × V)}{vs:List (κ × aA)}(r:KV B vs)(k:κ)(I:RelV y u):KV (Ki B k y) (stored vs k u):=by
 unfold Ki stored;rw[r.any k]
 by_cases e:(vs.any λJ=>decide (J.1=k))=zi
 ·rw[bO e,bO e];exact r.repl k I
 ·rw[bP e,bP e];exact Paired.snoc r ⟨rfl,I⟩
theorem KV.length{B:List (κ × V)}{vs:List (κ × aA)}(r:KV B vs):B.length=vs.length:=Paired.length r
end
theorem Q91{w:aJ}{k:Key}(r:RelV (kV k) u):(Yw P w).is k u=zi:=by
 cases k with
 | inl i=>obtain⟨t,e⟩:=(show ∃ t,u=cJ i t from r);subst e;exact Q8p P w i t
 | inr x=>obtain⟨t,e⟩:=(show ∃ t,u=cW x t from r);subst e;exact Q8n P w x t
abbrev KT(H:Hp):List (HK × V)->List (HK × aA × aA)->Prop:=aq λp q=>p.1=q.1/\(∃ u,KR H p.1 u/\RelV u q.2.1)/\RelV p.2 q.2.2
theorem KT.val{B:List (HK × V)}(r:KT H B xs)(k:HK):RelO (Xv B k) ((vAt xs k).map (·.2)):=by
 induction r with
 | nil=>exact True.intro
 | @cons p q ps J h t O=>
  obtain⟨h1,_,h2⟩:=h
  by_cases e:p.1=k
  ·have I:q.1=k:=h1.symm.trans e;have b:vAt (q :: J) k=zo q.2:=by simp[vAt,bv,I]
   rw[Q2m e,b];exact h2
  ·have I:¬ q.1=k:=λz=>e (h1.trans z)
   have b:vAt (q :: J) k=vAt J k:=by simp[vAt,bv,I]
   rw[Q2n e,b];exact O
theorem KT.repl {B:List (HK × V)} (r:KT H B xs) (k:HK) (U:RelV y u) :
  KT H (B.map λI=>if I.1=k then(I.1,y)else I) (xs.map (Vu k u)):=by
 induction r with
 | nil=>exact .nil
 | @cons p q ps Y h t O=>
  rw[D8,D8];refine .cons ?_ O;obtain⟨h1,h2,J⟩:=h;unfold Vu
  by_cases e:p.1=k
  ·rw[bO e,bO (h1.symm.trans e)];exact⟨h1,h2,U⟩
  ·rw[bP e,bP (λz=>e (h1.trans z))];exact⟨h1,h2,J⟩
theorem KT.put {B:List (HK × V)} (r:KT H B xs) (k:HK) {b:V} {I:aA} (O:KR H k b) (rb:RelV b I) (J:RelV y u) :
  KT H (Ki B k y) (Q1t xs k I u):=by
 have e:(B.any λI=>decide (I.1=k))=(vAt xs k).isSome:=by
  rw[Q7m,(r.val k).isSome_eq,dq]
 unfold Ki Q1t;rw[e]
 by_cases q:(vAt xs k).isSome=zi
 ·rw[bO q,bO q];exact r.repl k J
 ·rw[bP q,bP q];exact Paired.snoc r ⟨rfl,⟨b,O,rb⟩,J⟩
theorem KT.keeps{B:List (HK × V)}(r:KT H B xs)(I:∀ b ys,H b=zo (.tup ys)->H' b=zo (.tup ys)):KT H' B xs:=
 Paired.mapP r λ_ _ z=>⟨z.1,(let ⟨u,a,b⟩:=z.2.1;⟨u,a.keep I,b⟩),z.2.2⟩
section
variable{P:aM}{w:aJ}{H:Hp}{h:Heap}{a:aB}
theorem Qnv{u:HO}(ok:HOk P w H h)(e:Rd H a u):ObjOk P w H h a u:=e.ok ok
theorem Q45{B:List (Key × V)}(ok:HOk P w H h)(e:Rd H a (.dK B)):B.length<=sizeLine/\(a == aZ)=zb/\∃ vs,KV B vs/\h.DictOf (Yw P w) a vs:=
 show ObjOk P w H h a (.dK B)from Qnv ok e
theorem Qwn{B:List (Key × V)}(ok:HOk P w H h)(e:H a=zo (.dK B)):B.length<=sizeLine/\(a == aZ)=zb/\∃ vs,KV B vs/\h.DictOf (Yw P w) a vs:=Q45 ok (.inl e)
mutual
theorem Qhz(ok:HOk P w H h):∀ {k:HK} {v:V} {u:aA},KAt H k v->RelV v u->KIs h k u
 | .int _,_,_,r,B=>by cases r;exact B
 | .str _,_,_,r,B=>by cases r;exact B
 | .tup l,_,u,⟨a,vs,e,J,r⟩,B=>by
  subst e;cases (show u=bX a from B);obtain⟨_,its,I,p⟩:=(show ObjOk P w H h a (.tup vs)from ok a _ J);exact⟨a,its.toArray,rfl,p,by simpa using katL_is ok r I⟩
theorem katL_is(ok:HOk P w H h):∀ {l:List HK} {vs:List V} {us:List aA},KAtL H l vs->Vals vs us->KIsL h l us
 | [],_,_,r,B=>by cases r;cases B;rfl
 | _ :: _,_,_,⟨v,r,e,h1,t⟩,B=>by
  subst e;cases B with
  | cons a b=>exact⟨_,_,rfl,Qhz ok h1 a,katL_is ok t b⟩
end
theorem Q7k{u:V}{v:aA}(ok:HOk P w H h)(e:KR H k u)(r:RelV u v):KIs h k v/\Dp 5 k:=⟨Qhz ok e.1 r,e.2⟩
theorem jy(B:A.units + 9 < aP):A.units + 6 < aP:=by omega
theorem qt {B:List (HK × V)} (ok:HOk P w H h) (e:Rd H a (.dT B)):B.length<=sizeLine/\(a == aZ)=zb /\
  ∃ xs,KT H B xs/\DictV P w h a xs:=by
 obtain⟨z,y,xs,r,o,es,ep,h1,h2,U,Y,O⟩:=(show ObjOk P w H h a (.dT B)from Qnv ok e);refine⟨z,y,xs,r,o,es,ep,h1,h2,U,Y,λx I=>?_,O⟩;have all:∀ {l:List (HK × V)} {m:List (HK × aA × aA)},KT H l m->∀ x∈m,KIs h x.1 x.2.1/\Dp 5 x.1:=by
  intro l m q
  induction q with
  | nil=>intro x I;exact nomatch I
  | @cons p q ps qs J t Z=>
   intro x I;rcases E2.mp I with e | I
   ·subst e;obtain⟨u,a,b⟩:=J.2.1;exact Q7k ok (by rw[<- J.1];exact a) b
   ·exact Z x I
 exact all r x I
theorem Qim {B:List (HK × V)} (ok:HOk P w H h) (e:H a=zo (.dT B)):B.length<=sizeLine/\(a == aZ)=zb /\
  ∃ xs,KT H B xs/\DictV P w h a xs:=qt ok (.inl e)
end
def DGet(H:Hp)(a:aB)(y:V)(r:Option V):Prop:=
 (∃ kvs k,Rd H a (.dK kvs)/\y=kV k/\r=Xv kvs k)\/∃ kvs k b,Rd H a (.dT kvs)/\y=b/\KR H k b/\r=Xv kvs k
def DPut(H:Hp)(a:aB)(y v:V)(H':Hp):Prop:=
 (∃ kvs k,H a=zo (.dK kvs)/\y=kV k/\kvs.length < sizeLine/\H'=upd H a (.dK (Ki kvs k v))) \/
 ∃ kvs k b,H a=zo (.dT kvs)/\y=b/\KR H k b/\kvs.length < sizeLine/\H'=upd H a (.dT (Ki kvs k v))
theorem DPut.t {b:V} {B:List (HK × V)} {v:V} (e:H a=zo (.dT B)) (I:KR H k b) (J:B.length < sizeLine) :
  DPut H a b v (upd H a (.dT (Ki B k v))):=.inr ⟨B,k,b,e,rfl,I,J,rfl⟩
section
variable{X:Cx}{pins:zAA}{σ:St}{H:Hp}{s:aD}{a:aB}{y v:V}{u r:aA}{o:Option V}{A:aQ}{E:zAC}
theorem Inv.big(I:Inv X pins σ H s):aZ < s.heap.objs.size:=by
 have h:aS < s.heap.objs.size:=(I.mod.glob.keeps I.bk).lt;exact Nat.lt_trans (by decide) h
theorem Qew (hu:A.units + 9 < aP) (I:Inv X pins σ H s) (g:DGet H a y (zo v)) (ry:RelV y u) (h:∀ O s',Inv X pins σ H s'->RelV v O->Q O s') :
  aF (aI X.prog X.w) A (getItem (.ref a) u) Q E s:=by
 rcases g with⟨Y,k,e,U,l⟩ | ⟨Y,k,b,e,U,eb,l⟩
 ·subst U;obtain⟨z,hd,vs,B,dd⟩:=Q45 I.hok e;obtain⟨O,hw,J⟩:=RelO.some_of (v:=v) (o:=bH vs k) (by rw[l];exact B.val k);exact wpAny_getItem_of (Q91 ry) dd.mapOf hw (h O _ (I.tok _) J)
 ·subst U;obtain⟨z,hd,xs,B,dd⟩:=qt I.hok e;obtain⟨O,hw,J⟩:=RelO.some_of (v:=v) (o:=(vAt xs k).map (·.2)) (by rw[l];exact B.val k);obtain⟨p,hp,Z⟩:=gc.mp hw;refine Qdb (jy hu) (Q7k I.hok eb ry) dd hp ?_;rw[Z];exact h O _ (I.tok _) J
theorem Qz0 (Z:A.units + 9 < aP) (I:Inv X pins σ H s) (g:DGet H a y o) (U:RelV y u) (h:∀ s',Inv X pins σ H s'->Q (.bool o.isSome) s') :
  aF (aI X.prog X.w) A (aR .In u (.ref a)) Q E s:=by
 rcases g with⟨O,k,e,J,l⟩ | ⟨O,k,b,e,J,Y,l⟩
 ·subst J;obtain⟨z,hd,vs,B,dd⟩:=Q45 I.hok e;refine wpAny_in_of (Q91 U) hd dd.mapOf ?_;rw[<- (B.val k).isSome_eq,<- l];exact h _ (I.tok _)
 ·subst J;obtain⟨z,hd,xs,B,dd⟩:=qt I.hok e;refine Qxz (jy Z) (Q7k I.hok Y U) hd dd ?_;have q:=(B.val k).isSome_eq;rw[dq]at q;rw[<- q,<- l];exact h _ (I.tok _)
theorem Qn6 (Z:A.units + 9 < aP) (I:Inv X pins σ H s) (g:DGet H a y o) (U:RelV y u) (h:∀ s',Inv X pins σ H s'->Q (.bool (!o.isSome)) s') :
  aF (aI X.prog X.w) A (aR .NotIn u (.ref a)) Q E s:=by
 rcases g with⟨O,k,e,J,l⟩ | ⟨O,k,b,e,J,Y,l⟩
 ·subst J;obtain⟨z,hd,vs,B,dd⟩:=Q45 I.hok e;refine wpAny_notIn_of (Q91 U) hd dd.mapOf ?_;rw[<- (B.val k).isSome_eq,<- l];exact h _ (I.tok _)
 ·subst J;obtain⟨z,hd,xs,B,dd⟩:=qt I.hok e;refine Qju (jy Z) (Q7k I.hok Y U) hd dd ?_;have q:=(B.val k).isSome_eq;rw[dq]at q;rw[<- q,<- l];exact h _ (I.tok _)
theorem Q2e {t':Nat} {ob:HO} (I:Inv X pins σ H s) (J:Mut (H a)) (hs:Heap.SameBut a s.heap h') (O:∃ q,h'.get? a=zo q) (new:ObjOk X.prog X.w (upd H a ob) h' a ob) :
  Inv X pins σ (upd H a ob) { s with heap:=h',toks:=t' }:=
 I.write (x:=a) (e:=a) J (.inl rfl) (λb q B z=>(hs.2 b B).trans z) O new
theorem Qsv {w:aJ} {H':Hp} {B:List (Key × V)} {vs:List (Key × aA)} (z:B.length<=sizeLine) (hd:(a == aZ)=zb) (I:KV B vs) (dd:h'.DictOf (Yw P w) a vs) :
  ObjOk P w H' h' a (.dK B):=⟨z,hd,vs,I,dd⟩
theorem Qev {Q:Unit->aD->Prop} (hu:A.units + 9 < aP) (I:Inv X pins σ H s) (g:DPut H a y v H') (ry:RelV y u) (rv:RelV v r) (h:∀ s',Inv X pins σ H' s'->Q () s') :
  aF (aI X.prog X.w) A (setItem (.ref a) u r) Q E s:=by
 rcases g with⟨J,k,e,ey,l,Y⟩ | ⟨J,k,b,e,ey,eb,l,Y⟩
 ·subst ey Y;obtain⟨z,hd,vs,B,dd⟩:=Qwn I.hok e;have hz:vs.length<=sizeLine:=by rw[<- B.length];exact z
  have Z:(Ki J k v).length<=sizeLine:=by have:=jg J k v;omega
  refine wpAny_setItem_pairs (hsz:=hz) (Q91 ry) dd λh' O hs=>h _ ?_
  have he:∃ q,h'.get? a=zo q:=let ⟨q,_,_,U,_⟩:=O;⟨q,U⟩;exact Q2e I (by rw[e];exact True.intro) hs he (Qsv Z hd (B.put k rv) O)
 ·subst ey Y;obtain⟨z,hd,xs,B,dd⟩:=Qim I.hok e;have hz:xs.length<=sizeLine:=by rw[<- Paired.length B];exact z
  have Z:(Ki J k v).length<=sizeLine:=by have:=jg J k v;omega
  refine Qda (jy hu) (Q7k I.hok eb ry) dd (λh' O hs=>h _ ?_) hz;obtain⟨q,es,ep,U,h2,h3,h4,_,h5⟩:=O;refine Q2e I (by rw[e];exact True.intro) hs ⟨q,U⟩ ⟨Z,hd,_,(B.put k eb ry rv).keeps λc ys ec=>?_,q,es,ep,U,h2,h3,h4,h5⟩;rw[Qc (Qhi ec e (λz=>nomatch z))];exact ec
end
def Qte(i:aH):Prop:=∀ ov iv,subscripted i zb ov iv=operate [ov,iv] (getItem ov iv)
theorem Qk1 {prog:aM} {w:aJ} {A:aQ} {E:zAC} {s:aD} {env:Env} {value B:aH} {pos:Pos} {T id:String} {Q:zAC}
  (hl:typeLookup (.type T) "__getitem__" = pure (zo (.builtin id))) (hs:Qte B)
  (h:aF (aI prog w) A (aL value env) (λo U=>aF (aI prog w) A (aL B env) (λi I=>I.TypeIs o T/\aF (aI prog w) A (getItem o i) Q E I) E U) E s) :
  aF (aI prog w) A (aL (.Subscript value B pos) env) Q E s:=by
 refine Subscript_ (ao h (λo U h₁=>ao h₁ (λi I J=>?_) λ_ _ x=>x) λ_ _ x=>x)
 obtain⟨Z,J⟩:=J;unfold subscriptTail;refine aC ?_;rw[getitemInPython_of_ne Z.not_modules];refine aC (wpAny_specialOf Z hl ?_);have fin:aF (aI prog w) A (subscripted B zb o i) (λr O=>aF (aI prog w) A (letTemporaryGo value o r >>= λ_=>pure r) Q E O) E I:=by
  rw[hs o i];exact wpAny_operating (ao J (λr O Y=>aC (wpAny_letTemporaryGo (wpAny_pure Y))) λ_ _ x=>x)
 first
  | exact wpAny_pure (aC fin)
  | exact aC (wpAny_pure (aC fin))
  | exact aC fin
theorem Q9c{pins:zAA}(I:Inv X pins σ H s)(g:DGet H a y o):s.TypeIs (.ref a) "dict" := by
 rcases g with⟨B,k,e,_,_⟩ | ⟨B,k,b,e,_,_,_⟩
 ·obtain⟨_,_,vs,_,dd⟩:=Q45 I.hok e;exact dd.typeIs
 ·obtain⟨_,_,xs,_,dd⟩:=qt I.hok e;exact dd.typeIs
def Qu8(td ty:TE):TE:=λσ H Q=>td σ H λx H1=>ty σ H1 λy H2=>∃ a v,x=.ref a/\DGet H2 a y (zo v)/\Q v H2
def Qug(td ty tv:TE):TS:=λD σ H=>tv σ H λv H1=>td σ H1 λx H2=>ty σ H2 λy H3=>∃ a H4,x=.ref a/\DPut H3 a y v H4/\D.nx σ H4
section
variable{X:Cx}{o i e value:aH}{pos pos' tpos:Pos}{td ty tv:TE}
theorem Qm5(hu:X.A.units + 9 < aP)(U:PE X o td)(hi:PE X i ty)(hs:Qte i):PE X (.Subscript o i pos) (Qu8 td ty):=by
 intro pins s σ H Q I h;refine Qk1 PySem.F.slot_dict_getitem.lookup hs (thn (U pins s σ H _ I h) λu s1 ⟨x,H1,Z,rx,O⟩=>thn (hi pins s1 σ H1 _ Z O) λiv s2 ⟨y,H2,J,ry,a,v,ex,g,q2⟩=>?_)
 subst ex;obtain rfl:u=bX a:=rx;exact⟨Q9c J g,Qew hu J g ry λw' s3 Y B=>⟨v,H2,Y,B,q2⟩⟩
theorem Qkt (hu:X.A.units + 9 < aP) (J:PE X o td) (hi:PE X i ty) (hv:PE X value tv) (hs:swapsWith value (zo (.Subscript o i pos')) pos.line X.env=pure zb) :
  PS X (.Assign [.Subscript o i pos'] value pos) (Qug td ty tv):=by
 intro pins s σ H D I h;refine wpAny_Assign_Subscript (thn (hv pins s σ H _ I h) λr s1 ⟨v,H1,I1,rv,q1⟩=>thn (J pins s1 σ H1 _ I1 q1) λu s2 ⟨x,H2,U,Y,q2⟩=>thn (hi pins s2 σ H2 _ U q2) λiv s3 ⟨y,H3,O,ry,a,Z,ex,g,B⟩=>?_) hs
 subst ex;obtain rfl:u=bX a:=Y;exact Qev hu O g ry rv λs4 I4=>⟨σ,Z,I4,B⟩
end
theorem Q9b{w:aJ}(h:Heap)(B:aZ < h.objs.size):ObjOk P w H (h.push { cls:=.type "dict",data:=.dict #[] }) h.objs.size (.dT []):=
 ⟨bb _,beq_eq_false_iff_ne.mpr (Ne.symm (F7 B)),[],.nil,_,#[],0,E6 _ rfl,⟨rfl,rfl,rfl⟩,rfl,rfl,cm⟩
def Qps:TE:=λ_ H Q=>∀ p,H p=zl->Q (.ref p) (upd H p (.dT []))
section
variable{X:Cx}{pos:Pos}
theorem Qh5:PE X (.Dict [] [] pos) Qps:=λpins s σ H Q I h=>
 wpAny_Dict_empty ⟨.ref s.heap.objs.size,_,I.laid (a:=s.heap.objs.size) (o:=.dT []) (t':=s.toks) (λ_ _ q=>O4 _ q) (O9 _) (Q9b s.heap I.big),rfl,h _ (I.hok.fresh (O9 _))⟩
end
def Q9u:List (TE × TE)->St->Hp->(List (V × V)->Hp->Prop)->Prop
 | [],_,H,Q=>Q [] H
 | (tk,tv) :: r,σ,H,Q=>tk σ H λx H1=>tv σ H1 λy H2=>Q9u r σ H2 λps H3=>Q ((x,y) :: ps) H3
abbrev VV:List (V × V)->List (aA × aA)->Prop:=aq λp q=>RelV p.1 q.1/\RelV p.2 q.2
def PPs(X:Cx)(pos:Pos)(keys:List (Option aH))(values:List aH)(trs:List (TE × TE)):Prop:=
 ∀ (pins:zAA) (s:aD) (σ:St) (H:Hp) (Q:List (V × V)->Hp->Prop),Inv X pins σ H s->Q9u trs σ H Q ->
  aF (aI X.prog X.w) X.A (evalPairs (pairTrees keys values X.env pos)) (λvs s'=>∃ ps H',Inv X pins σ H' s'/\VV ps vs/\Q ps H') X.xe s
theorem Qkv{pos:Pos}:PPs X pos [] [] []:=λpins s σ H Q I h=>pairTrees_nil_walk ⟨[],H,I,.nil,h⟩
theorem Qgv {pos:Pos} {k v:aH} {ks:List (Option aH)} {vs:List aH} {O tv:TE} {B:List (TE × TE)} (hk:PE X k O) (hv:PE X v tv) (Z:PPs X pos ks vs B) :
  PPs X pos (zo k :: ks) (v :: vs) ((O,tv) :: B):=λpins s σ H Q I h=>
 pairTrees_cons_walk (thn (hk pins s σ H _ I h) λu s1 ⟨x,H1,I1,rx,q1⟩=>thn (hv pins s1 σ H1 _ I1 q1) λw2 s2 ⟨y,H2,I2,ry,q2⟩=>
  thn (Z pins s2 σ H2 _ I2 q2) λws s3 ⟨ps,H3,Y,J,U⟩=>⟨(x,y) :: ps,H3,Y,.cons ⟨rx,ry⟩ J,U⟩)
structure M1(X:Cx)(o:aH)(m:Str)(apos:Pos)(e:aH)(cpos:Pos):Prop where
 base:bB o m X.env (aL o X.env)=aL o X.env
 few:((aY cpos (aN [e] X.env)).all (λx=>!x.1) && (backToKw cpos (keywordEach [] X.env)).all (λx=>x.1.isSome)
  && decide (([e]:List aH).length + ([]:List Keyword).length + (if([]:List Keyword).isEmpty then 0 else 1) < 30))=zi
 line:(apos.endLine == cpos.line)=zi
 trees:aY cpos (aN [e] X.env)=[(zb,aL e X.env)]
structure M2(X:Cx)(o:aH)(m:Str)(apos:Pos)(e f:aH)(cpos:Pos):Prop where
 base:bB o m X.env (aL o X.env)=aL o X.env
 few:((aY cpos (aN [e,f] X.env)).all (λx=>!x.1) && (backToKw cpos (keywordEach [] X.env)).all (λx=>x.1.isSome)
  && decide (([e,f]:List aH).length + ([]:List Keyword).length + (if([]:List Keyword).isEmpty then 0 else 1) < 30))=zi
 line:(apos.endLine == cpos.line)=zi
 trees:aY cpos (aN [e,f] X.env)=[(zb,aL e X.env),(zb,aL f X.env)]
def IsD(H:Hp)(a:aB):Prop:=(∃ kvs,Rd H a (.dK kvs))\/∃ kvs,Rd H a (.dT kvs)
theorem Qb0 {pins:zAA} (I:Inv X pins σ H s) (d:IsD H a) :
  s.TypeIs (.ref a) "dict" /\ (∀ b,bX a=.ref b->∃ ob,s.heap.get? b=zo ob/\ob.dict=zl)/\(a == aZ)=zb:=by
 rcases d with⟨B,e⟩ | ⟨B,e⟩
 ·obtain⟨_,hd,vs,_,dd⟩:=Q45 I.hok e;refine⟨dd.typeIs,λb q=>?_,hd⟩;cases q;obtain⟨ob,_,_,h1,h2,_⟩:=dd;exact⟨ob,h1,h2.2.1⟩
 ·obtain⟨_,hd,xs,_,dd⟩:=qt I.hok e;refine⟨dd.typeIs,λb q=>?_,hd⟩;cases q;obtain⟨ob,_,_,h1,h2,_⟩:=dd;exact⟨ob,h1,h2.2.1⟩
section
variable{X:Cx}{pins:zAA}{σ:St}{H:Hp}{s:aD}{a:aB}{y d:V}{u r:aA}{o:Option V}{A:aQ}{E:zAC}
theorem Qsw (hu:A.units + 9 < aP) (I:Inv X pins σ H s) (g:DGet H a y o) (Y:RelV y u) (U:RelV d r) (h:∀ Z s',Inv X pins σ H s'->RelV (o.getD d) Z->Q Z s') :
  aF (aI X.prog X.w) A (call (.builtin "dict.get") [.ref a,u,r]) Q E s:=by
 rcases g with⟨O,k,e,J,l⟩ | ⟨O,k,b,e,J,eb,l⟩
 ·subst J;obtain⟨z,hd,vs,B,dd⟩:=Q45 I.hok e;refine call_meetsIn fF dd.typeIs gf (gg _ _ _) (meets_dict_get_default (Yw X.prog X.w) a (Q91 Y) hd r) ⟨_,dd.mapOf,h _ _ (I.tok _) ?_⟩;rw[l];exact(B.val k).getD U
 ·subst J;obtain⟨z,hd,xs,B,dd⟩:=qt I.hok e;refine call_meetsIn fF dd.typeIs gf (gg _ _ _) (Qjv hd r) ⟨jy hu,k,xs,Q7k I.hok eb Y,dd,h _ _ (I.tok _) ?_⟩;rw[l];exact(B.val k).getD U
end
def Qpt(td ty tx:TE):TE:=λσ H Q=>td σ H λx H1=>∃ a,x=.ref a/\IsD H1 a/\ty σ H1 λy H2=>tx σ H2 λz H3=>∃ o,DGet H3 a y o/\Q (o.getD z) H3
section
variable{X:Cx}{o e f:aH}{apos cpos:Pos}{td ty tx:TE}
theorem Qh6(hu:X.A.units + 9 < aP)(U:PE X o td)(he:PE X e ty)(hf:PE X f tx)(m:M2 X o "get" apos e f cpos):PE X (.Call (.Attribute o "get" apos) [e,f] [] cpos) (Qpt td ty tx):=by
 intro pins s σ H Q I h;refine wpAny_Call_method m.base m.few m.line gh fF PySem.F.type_dict_get (thn (U pins s σ H _ I h) λu s1 ⟨x,H1,J,rx,a,ex,d,q1⟩=>?_)
 subst ex;obtain rfl:u=bX a:=rx;obtain⟨t1,t2,_⟩:=Qb0 J d;refine⟨t1,t2,?_⟩;rw[m.trees];refine Calls.callWith_builtin rfl (Calls.evalArgs_plain (Calls.spliced_cons (thn (he pins s1 σ H1 _ J q1) λiv s2 ⟨y,H2,Z,ry,q2⟩=>
  Calls.spliced_cons (thn (hf pins s2 σ H2 _ Z q2) λfv s3 ⟨z,H3,Y,rz,ov,g,O⟩=>Calls.spliced_nil ?_))))
 exact Qsw hu Y g ry rz λw' s4 I4 B=>⟨_,H3,I4,B,O⟩
end
end
variable{pins:zAA}{σ:St}{a:aB}{tg:aH}
def Qd6(X:Cx)(a:aB):Prop:=∀ o u,X.H₀ a≠zo (.frz o u)
end L2
namespace L2
open PySem PySem.Spec PyProof.Rows PySem.W
variable{p:Array Nat}{n:Nat}{h:Heap}{vs:List aA}
def evT{α:Type}(c:Nat->Nat->Bool):KasT α->α
 | .ret a=>a
 | .ask i j k=>evT c (k (c i j))
theorem Kn{α β:Type}(c:Nat->Nat->Bool)(f:α->KasT β):∀ t:KasT α,evT c (t.bind f)=evT c (f (evT c t))
 | .ret _=>rfl
 | .ask i j k=>Kn c f (k (c i j))
section
variable(r:Nat->Nat)
def rk(p:Array Nat)(i:Nat):Nat:=r (p.getD i 0)
def cR:Nat->Nat->Bool:=λi j=>decide (r i < r j)
variable{r}
theorem Q83{q:Array Nat}{i j:Nat}(h:p[i]?=q[j]?):rk r p i=rk r q j:=by
 unfold rk;rw[dJ,dJ,h]
theorem Qa5{i j:Nat}(B:j<=p.size)(k:Nat):rk r (kas_rev p i j) k=if i<=k/\k < j then rk r p (i + j - 1 - k)else rk r p k:=by
 have h:=getElem?_mirror_all (xs:=p) (i:=i) B k
 by_cases q:i<=k/\k < j
 ·rw[bO q]at h ⊢;exact Q83 h
 ·rw[bP q]at h ⊢;exact Q83 h
theorem Qgb{B d:Nat}(hs:B < p.size)(hd:d<=B)(k:Nat):rk r (bubble p B d) k=if k=B - d then rk r p B else if B - d < k/\k<=B then rk r p (k - 1)else rk r p k:=by
 have h:=getElem?_bubble hs d hd k
 by_cases q:k=B - d
 ·rw[bO q]at h ⊢;exact Q83 h
 ·rw[bP q]at h ⊢
  by_cases I:B - d < k/\k<=B
  ·rw[bO I]at h ⊢;exact Q83 h
  ·rw[bP I]at h ⊢;exact Q83 h
theorem xt(i j:Nat):(kas_rev p i j).size=p.size:=mirror_size _ _ _ _
theorem Vb(i j:Nat):(kas_rev p i j).Perm p:=mirror_perm _ _ _ _
theorem Qbc(p:Array Nat):∀ f n,1<=n->n<=evT (cR r) (kas_asc p f n)/\evT (cR r) (kas_asc p f n)<=n + f/\(∀ i,n<=i->i < evT (cR r) (kas_asc p f n)->rk r p (i - 1)<=rk r p i)/\(evT (cR r) (kas_asc p f n) < n + f->rk r p (evT (cR r) (kas_asc p f n)) < rk r p (evT (cR r) (kas_asc p f n) - 1))
 | 0,n,_=>⟨O9 _,O9 _,λi h1 h2=>absurd h2 (by show ¬ i < n;omega),λh=>absurd h (by show ¬ n < n + 0;omega)⟩
 | f + 1,n,hn=>by
  have e:evT (cR r) (kas_asc p (f + 1) n)=if rk r p n < rk r p (n - 1)then n else evT (cR r) (kas_asc p f (n + 1)):=by
   show evT (cR r) (if decide (rk r p n < rk r p (n - 1))=zi then KasT.ret n else kas_asc p f (n + 1))=_
   by_cases q:rk r p n < rk r p (n - 1)
   ·rw[bO (by simpa using q),bO q];rfl
   ·rw[bP (by simpa using q),bP q]
  rw[e]
  by_cases q:rk r p n < rk r p (n - 1)
  ·rw[bO q];exact⟨O9 _,by omega,λi h1 h2=>by omega,λ_=>q⟩
  ·rw[bP q];obtain⟨h1,h2,B,I⟩:=Qbc p f (n + 1) (by omega);refine⟨by omega,by omega,λi J g2=>?_,λg=>I (by omega)⟩
   by_cases z:i=n
   ·subst z;omega
   ·exact B i (by omega) g2
theorem Q30{i j:Nat}(B:j<=p.size)(h:∀ k,i<=k->k < j->rk r p k=rk r p (j - 1))(k:Nat):rk r (kas_rev p i j) k=rk r p k:=by
 rw[Qa5 B]
 by_cases q:i<=k/\k < j
 ·rw[bO q,h (i + j - 1 - k) (by omega) (by omega),h k q.1 q.2]
 ·rw[bP q]
structure Dsc(r:Nat->Nat)(p:Array Nat)(n q:Nat):Prop where
 n1:1<=n
 sz:n<=p.size
 qn:q + 1<=n
 de:∀ i,1<=i->i < n->rk r p i<=rk r p (i - 1)
 eq:∀ i,n - (q + 1)<=i->i < n->rk r p i=rk r p (n - 1)
theorem Q2d:∀ f (p:Array Nat) n q,Dsc r p n q->n + f<=p.size->Dsc r (evT (cR r) (kas_desc f p n q)).1 (evT (cR r) (kas_desc f p n q)).2.1 (evT (cR r) (kas_desc f p n q)).2.2/\(evT (cR r) (kas_desc f p n q)).1.Perm p/\n<=(evT (cR r) (kas_desc f p n q)).2.1/\(evT (cR r) (kas_desc f p n q)).2.1<=n + f
 | 0,p,n,q,h,_=>⟨h,dN _,O9 _,O9 _⟩
 | f + 1,p,n,q,h,hs=>by
  have e:evT (cR r) (kas_desc (f + 1) p n q)=if rk r p n < rk r p (n - 1)then(if q > 0 then evT (cR r) (kas_desc f (kas_rev p (n - (q + 1)) n) (n + 1) 0)else evT (cR r) (kas_desc f p (n + 1) 0))else if rk r p (n - 1) < rk r p n then(p,n,q)else evT (cR r) (kas_desc f p (n + 1) (q + 1)):=by
   show evT (cR r) (if decide (rk r p n < rk r p (n - 1))=zi then(if q > 0 then kas_desc f (kas_rev p (n - (q + 1)) n) (n + 1) 0 else kas_desc f p (n + 1) 0)else KasT.ask (p.getD (n - 1) 0) (p.getD n 0) λd=>if d=zi then .ret (p,n,q)else kas_desc f p (n + 1) (q + 1))=_
   by_cases z:rk r p n < rk r p (n - 1)
   ·rw[bO (by simpa using z),bO z]
    split <;> rfl
   ·rw[bP (by simpa using z),bP z];show evT (cR r) (if decide (rk r p (n - 1) < rk r p n)=zi then KasT.ret (p,n,q)else kas_desc f p (n + 1) (q + 1))=_
    by_cases I:rk r p (n - 1) < rk r p n
    ·rw[bO (by simpa using I),bO I];rfl
    ·rw[bP (by simpa using I),bP I]
  rw[e]
  by_cases z:rk r p n < rk r p (n - 1)
  ·rw[bO z]
   by_cases Y:q > 0
   ·rw[bO Y];have O:=Q30 (r:=r) (p:=p) (i:=n - (q + 1)) (j:=n) h.sz h.eq;obtain⟨h1,h2,J,U⟩:=Q2d f (kas_rev p (n - (q + 1)) n) (n + 1) 0 ⟨by omega,by rw[xt];omega,by omega,λi B g2=>by
     rw[O,O]
     by_cases y:i=n
     ·subst y;omega
     ·exact h.de i B (by omega),λi B g2=>by
     have:i=n:=by omega
     subst this;rfl⟩ (by rw[xt];omega)
    exact⟨h1,h2.trans (Vb _ _),by omega,by omega⟩
   ·rw[bP Y];obtain⟨h1,h2,J,U⟩:=Q2d f p (n + 1) 0 ⟨by omega,by omega,by omega,λi B g2=>by
     by_cases y:i=n
     ·subst y;omega
     ·exact h.de i B (by omega),λi B g2=>by
     have:i=n:=by omega
     subst this;rfl⟩ (by omega)
    exact⟨h1,h2,by omega,by omega⟩
  ·rw[bP z]
   by_cases I:rk r p (n - 1) < rk r p n
   ·rw[bO I];exact⟨h,dN _,O9 _,by show n<=n + (f + 1);omega⟩
   ·rw[bP I];have hn:=h.n1;have Z:=h.qn;obtain⟨h1,h2,J,U⟩:=Q2d f p (n + 1) (q + 1) ⟨by omega,by omega,by omega,λi B g2=>by
     by_cases y:i=n
     ·subst y;omega
     ·exact h.de i B (by omega),λi B g2=>by
     show rk r p i=rk r p n
     by_cases y:i=n
     ·rw[y]
     ·rw[h.eq i (by omega) (by omega)];omega⟩ (by omega)
    exact⟨h1,h2,by omega,by omega⟩
def Srt(r:Nat->Nat)(p:Array Nat)(m:Nat):Prop:=∀ i,1<=i->i < m->rk r p (i - 1)<=rk r p i
theorem Qbp {nrem:Nat} (hn:1<=n) (I:n<=nrem) (hs:nrem<=p.size) (hd:∀ i,1<=i->i < n->rk r p i<=rk r p (i - 1)) :
  1<=(evT (cR r) (kas_tail3 n nrem p)).1/\(evT (cR r) (kas_tail3 n nrem p)).1<=nrem/\Srt r (evT (cR r) (kas_tail3 n nrem p)).2 (evT (cR r) (kas_tail3 n nrem p)).1/\(evT (cR r) (kas_tail3 n nrem p)).2.Perm p:=by
 obtain⟨h1,h2,B,_⟩:=Qbc (r:=r) (kas_rev p 0 n) (nrem - n) n hn;unfold kas_tail3;rw[Kn];show 1<=evT (cR r) (kas_asc (kas_rev p 0 n) (nrem - n) n)/\_/\Srt r (kas_rev p 0 n) _/\(kas_rev p 0 n).Perm p;refine⟨by omega,by show evT (cR r) (kas_asc (kas_rev p 0 n) (nrem - n) n)<=nrem;omega,λi J g2=>?_,Vb _ _⟩
 by_cases z:i < n
 ·rw[Qa5 (by omega),Qa5 (by omega),bO (by omega),bO (by omega)];have:=hd (0 + n - 1 - (i - 1)) (by omega) (by omega);rw[show 0 + n - 1 - (i - 1) - 1=0 + n - 1 - i by omega]at this;exact this
 ·exact B i (by omega) g2
theorem Q1n {nrem:Nat} (hn:1<=n) (U:n < nrem) (hs:nrem<=p.size) (B:∀ i,i < n->rk r p i=rk r p (n - 1)) (a1:rk r p n < rk r p (n - 1)) :
  1<=(evT (cR r) (kas_descPart n nrem p)).1/\(evT (cR r) (kas_descPart n nrem p)).1<=nrem/\Srt r (evT (cR r) (kas_descPart n nrem p)).2 (evT (cR r) (kas_descPart n nrem p)).1/\(evT (cR r) (kas_descPart n nrem p)).2.Perm p:=by
 obtain⟨D,P,Y,Z⟩:=Q2d (r:=r) (nrem - (n + 1)) p (n + 1) 0 ⟨by omega,by omega,by omega,λi J g2=>by
  by_cases y:i=n
  ·subst y;omega
  ·rw[B i (by omega),B (i - 1) (by omega)];exact O9 _,λi J g2=>by
  have:i=n:=by omega
  subst this;rfl⟩ (by omega)
 unfold kas_descPart;rw[Kn];generalize evT (cR r) (kas_desc (nrem - (n + 1)) p (n + 1) 0)=x at*;obtain⟨I,m,q⟩:=x;have sz:I.size=p.size:=P.size_eq;simp only at D P Y Z;dsimp only
 by_cases z:q > 0
 ·rw[bO z];have O:=Q30 (r:=r) (p:=I) (i:=m - (q + 1)) (j:=m) D.sz D.eq;obtain⟨a,b,c,d⟩:=Qbp (r:=r) (p:=kas_rev I (m - (q + 1)) m) (n:=m) (nrem:=nrem) D.n1 (by omega) (by rw[xt];omega) (λi J g2=>by rw[O,O];exact D.de i J g2);exact⟨a,b,c,(d.trans (Vb _ _)).trans P⟩
 ·rw[bP z];obtain⟨a,b,c,d⟩:=Qbp (r:=r) (p:=I) (n:=m) (nrem:=nrem) D.n1 (by omega) (by omega) D.de;exact⟨a,b,c,d.trans P⟩
theorem Srt.le{m:Nat}(h:Srt r p m):∀ {i j:Nat},i<=j->j < m->rk r p i<=rk r p j:=by
 intro i j B
 induction j with
 | zero => intro _; have : i = 0 := by omega
           subst this;exact O9 _
 | succ j J=>
  intro I
  by_cases z:i=j + 1
  ·subst z;exact O9 _
  ·have h1:=J (by omega) (by omega);have h2:=h (j + 1) (by omega) I;rw[gi]at h2;exact F8 h1 h2
theorem Qiv (hn:1<=n) (hs:n<=p.size) :
  1<=(evT (cR r) (kas_count n p)).1/\(evT (cR r) (kas_count n p)).1<=n/\Srt r (evT (cR r) (kas_count n p)).2 (evT (cR r) (kas_count n p)).1/\(evT (cR r) (kas_count n p)).2.Perm p:=by
 obtain⟨h1,h2,Z,h4⟩:=Qbc (r:=r) p (n - 1) 1 (O9 _);unfold kas_count;rw[Kn];generalize evT (cR r) (kas_asc p (n - 1) 1)=m at*;have S:Srt r p m:=λi Y g2=>Z i Y g2
 by_cases z:m=n
 ·subst z;rw[bO (by simp)];exact⟨h1,O9 _,S,dN _⟩
 ·rw[bP (by simpa using z)];have B:=h4 (by omega)
  by_cases J:m > 1
  ·rw[bO J];show 1<=(evT (cR r) (if decide (rk r p 0 < rk r p (m - 1))=zi then KasT.ret (m,p)else kas_descPart m n (kas_rev p 0 m))).1/\(evT (cR r) (if decide (rk r p 0 < rk r p (m - 1))=zi then KasT.ret (m,p)else kas_descPart m n (kas_rev p 0 m))).1<=n/\Srt r (evT (cR r) (if decide (rk r p 0 < rk r p (m - 1))=zi then KasT.ret (m,p)else kas_descPart m n (kas_rev p 0 m))).2 (evT (cR r) (if decide (rk r p 0 < rk r p (m - 1))=zi then KasT.ret (m,p)else kas_descPart m n (kas_rev p 0 m))).1/\(evT (cR r) (if decide (rk r p 0 < rk r p (m - 1))=zi then KasT.ret (m,p)else kas_descPart m n (kas_rev p 0 m))).2.Perm p
   by_cases O:rk r p 0 < rk r p (m - 1)
   ·rw[bO (by simpa using O)];exact⟨h1,by show m<=n;omega,S,dN _⟩
   ·rw[bP (by simpa using O)];have eq:∀ i,i < m->rk r p i=rk r p (m - 1):=λi hi=>by
     have a:=S.le (i:=0) (j:=i) (by omega) hi;have b:=S.le (i:=i) (j:=m - 1) (by omega) (by omega);omega
    have I:=Q30 (r:=r) (p:=p) (i:=0) (j:=m) (by omega) (λk _ U=>eq k U);obtain⟨a,b,c,d⟩:=Q1n (r:=r) (p:=kas_rev p 0 m) (n:=m) (nrem:=n) h1 (by omega) (by rw[xt];exact hs) (λi hi=>by rw[I,I];exact eq i hi) (by rw[I,I];exact B);exact⟨a,b,c,d.trans (Vb _ _)⟩
  ·rw[bP J];have:m=1:=by omega
   subst this;exact Q1n (r:=r) (O9 _) (by omega) hs (λi hi=>by rw[show i=0 by omega]) B
theorem Q36 {p:Array Nat} {k:Nat} (S:Srt r p k):∀ f l q,l<=q->q<=k->q - l<=f->(∀ i,i < l->rk r p i<=rk r p k)->(∀ i,q<=i->i < k->rk r p k < rk r p i) ->
  evT (cR r) (kas_place p k f l q)<=k/\(∀ i,i < evT (cR r) (kas_place p k f l q)->rk r p i<=rk r p k)/\(∀ i,evT (cR r) (kas_place p k f l q)<=i->i < k->rk r p k < rk r p i)
 | 0,l,q,h1,h2,U,I,B=>by
  have:l=q:=by omega
  subst this;exact⟨h2,I,B⟩
 | f + 1,l,q,h1,h2,U,I,B=>by
  by_cases z:l>=q
  ·have:l=q:=by omega
   subst this;have e:evT (cR r) (kas_place p k (f + 1) l l)=l:=by rw[kas_place,bO (O9 _)];rfl
   rw[e];exact⟨h2,I,B⟩
  ·have e:evT (cR r) (kas_place p k (f + 1) l q)=if rk r p k < rk r p ((l + q) / 2)then evT (cR r) (kas_place p k f l ((l + q) / 2))else evT (cR r) (kas_place p k f ((l + q) / 2 + 1) q):=by
    rw[kas_place,bP z];show evT (cR r) (if decide (rk r p k < rk r p ((l + q) / 2))=zi then kas_place p k f l ((l + q) / 2)else kas_place p k f ((l + q) / 2 + 1) q)=_
    by_cases y:rk r p k < rk r p ((l + q) / 2)
    ·rw[bO (by simpa using y),bO y]
    ·rw[bP (by simpa using y),bP y]
   rw[e];have m1:l<=(l + q) / 2:=by omega
   have Y:(l + q) / 2 < q:=by omega
   generalize (l + q) / 2=J at*
   by_cases y:rk r p k < rk r p J
   ·rw[bO y];exact Q36 S f l J m1 (by omega) (by omega) I λi O g2=>E4 y (S.le O g2)
   ·rw[bP y];exact Q36 S f (J + 1) q (by omega) h2 (by omega) (λi g=>F8 (S.le (show i<=J by omega) (by omega)) (by omega)) B
theorem Qji:∀ f (p:Array Nat) k,1<=k->k + f<=p.size->Srt r p k->Srt r (evT (cR r) (kas_bin f p k)) (k + f)/\(evT (cR r) (kas_bin f p k)).Perm p
 | 0,p,k,_,_,S=>⟨S,dN _⟩
 | f + 1,p,k,J,hs,S=>by
  obtain⟨h1,h2,I⟩:=Q36 S k 0 k (bb _) (O9 _) (by omega) (λi g=>by omega) (λi B g2=>by omega);have e:evT (cR r) (kas_bin (f + 1) p k)=evT (cR r) (kas_bin f (bubble p k (k - evT (cR r) (kas_place p k k 0 k))) (k + 1)):=by rw[kas_bin,Kn]
  rw[e];generalize evT (cR r) (kas_place p k k 0 k)=l at*;have S2:Srt r (bubble p k (k - l)) (k + 1):=λi B g2=>by
   rw[Qgb (by omega) (by omega),Qgb (by omega) (by omega),show k - (k - l)=l by omega]
   by_cases a:i=l
   ·subst a;rw[bP (by omega),bP (by omega),bO rfl];exact h2 (i - 1) (by omega)
   ·by_cases b:i - 1=l
    ·rw[bO b,bP a,bO (by omega),b];exact cZ (I l (O9 _) (by omega))
    ·rw[bP b,bP a]
     by_cases c:l < i
     ·rw[bO (by omega),bO (by omega)];exact S (i - 1) (by omega) (by omega)
     ·rw[bP (by omega),bP (by omega)];exact S i B (by omega)
  obtain⟨a,b⟩:=Qji f (bubble p k (k - l)) (k + 1) (by omega) (by rw[bubble_size];omega) S2;exact⟨by rw[show k + (f + 1)=k + 1 + f by omega];exact a,b.trans (bubble_perm _ _ _)⟩
theorem Qk4(hn:1<=n):Srt r (evT (cR r) (kas_sort n)) n/\(evT (cR r) (kas_sort n)).Perm (bn (bT n)):=by
 obtain⟨h1,h2,I,B⟩:=Qiv (r:=r) (p:=bn (bT n)) (n:=n) hn (by simp);unfold kas_sort;rw[Kn];generalize evT (cR r) (kas_count n (bn (bT n)))=x at*;obtain⟨m,p⟩:=x;have sz:p.size=n:=by have:=B.size_eq;simpa using this
 simp only at h1 h2 I B;dsimp only
 by_cases z:m < n
 ·rw[bO z,show max m 1=m by omega];obtain⟨a,b⟩:=Qji (r:=r) (n - m) p m h1 (by omega) I;rw[show m + (n - m)=n by omega]at a;exact⟨a,b.trans B⟩
 ·rw[bP z];have:m=n:=by omega
  subst this;exact⟨I,B⟩
end
def Asks{α:Type}(n:Nat):KasT α->(α->Prop)->Prop
 | .ret a,P=>P a
 | .ask i j k,P=>i < n/\j < n/\∀ b,Asks n (k b) P
theorem Asks.bind{α β:Type}{P:α->Prop}{Q:β->Prop}{f:α->KasT β}(B:∀ a,P a->Asks n (f a) Q):∀ {t:KasT α},Asks n t P->Asks n (t.bind f) Q
 | .ret a,h=>B a h
 | .ask i j k,h=>⟨h.1,h.2.1,λb=>Asks.bind B (h.2.2 b)⟩
def AL(n:Nat)(p:Array Nat):Prop:=0 < n/\∀ x∈p.toList,x < n
theorem AL.get(h:AL n p)(i:Nat):p.getD i 0 < n:=by
 rw[dJ]
 by_cases z:i < p.size
 ·rw[fZ z];exact h.2 _ (by simp)
 ·rw[fG (by omega)];exact h.1
theorem AL.perm{q:Array Nat}(h:AL n p)(e:q.Perm p):AL n q:=⟨h.1,λx B=>h.2 x ((gj.mp e).mem_iff.mp B)⟩
theorem Vj{α:Type}{P:α->Prop}{c:Prop}[Decidable c]{t u:KasT α}(h1:Asks n t P)(h2:Asks n u P):Asks n (if c then t else u) P:=by
 split
 ·exact h1
 ·exact h2
theorem Q4c{n:Nat}{p:Array Nat}(h:AL n p):∀ f m,Asks n (kas_asc p f m) (λ_=>True)
 | 0,m=>trivial
 | f + 1,m=>⟨h.get _,h.get _,λb=>Vj trivial (Q4c h f (m + 1))⟩
theorem zj{n:Nat}:∀ f (p:Array Nat) m q,AL n p->Asks n (kas_desc f p m q) (λx=>AL n x.1)
 | 0,p,m,q,h=>h
 | f + 1,p,m,q,h=>⟨h.get _,h.get _,λb=>Vj (Vj (zj f _ _ _ (h.perm (Vb _ _))) (zj f _ _ _ h)) ⟨h.get _,h.get _,λd=>Vj h (zj f _ _ _ h)⟩⟩
theorem Q66(h:AL n p)(m k:Nat):Asks n (kas_tail3 m k p) (λx=>AL n x.2):=by
 unfold kas_tail3;refine Asks.bind (P:=λ_=>True) (λa _=>?_) (Q4c (h.perm (Vb _ _)) _ _);exact h.perm (Vb _ _)
theorem zy(h:AL n p)(m k:Nat):Asks n (kas_descPart m k p) (λx=>AL n x.2):=
 Asks.bind (λx B=>Vj (Q66 (AL.perm B (Vb _ _)) _ _) (Q66 B _ _)) (zj _ _ _ _ h)
theorem Qba(h:AL n p)(k:Nat):Asks n (kas_count k p) (λx=>AL n x.2):=by
 unfold kas_count;refine Asks.bind (P:=λ_=>True) (λm _=>?_) (Q4c h _ _);refine Vj (show AL n p from h) (Vj ?_ (zy h _ _));exact⟨h.get _,h.get _,λc=>Vj (show AL n p from h) (zy (h.perm (Vb _ _)) _ _)⟩
theorem yx{n:Nat}{p:Array Nat}(h:AL n p)(k:Nat):∀ f l q,Asks n (kas_place p k f l q) (λ_=>True)
 | 0,_,_=>trivial
 | f + 1,l,q=>by
  rw[kas_place];exact Vj trivial ⟨h.get _,h.get _,λc=>Vj (yx h k f _ _) (yx h k f _ _)⟩
theorem Q9k{n:Nat}:∀ f (p:Array Nat) k,AL n p->Asks n (kas_bin f p k) (λ_=>True)
 | 0,_,_,_=>trivial
 | f + 1,p,k,h=>by
  rw[kas_bin];exact Asks.bind (λl _=>Q9k f _ _ (h.perm (bubble_perm _ _ _))) (yx h k _ _ _)
theorem Qfa(hn:1<=n):Asks n (kas_sort n) (λ_=>True):=by
 have h:AL n (bn (bT n)):=⟨hn,λx B=>by simpa using B⟩;unfold kas_sort;refine Asks.bind (P:=λx=>AL n x.2) (λx B=>?_) (Qba h n);exact Vj (Q9k _ _ _ B) (show True from trivial)
theorem Q90 {α:Type} {B:Nat->Nat->(Bool->aD->Prop)->aD->Prop} {c:Nat->Nat->Bool} {n:Nat} {s:aD} (h:∀ i j (C:Bool->aD->Prop),i < n->j < n->C (c i j) s->B i j C s) :
  ∀ (t:KasT α) (P:α->Prop) (Q:α->aD->Prop),Asks n t P->Q (evT c t) s->t.kasWp B Q s
 | .ret a,_,_,_,q=>q
 | .ask i j k,P,Q,a,q=>h i j _ a.1 a.2.1 (Q90 h (k (c i j)) P Q (a.2.2 _) q)
variable{prog:aM}{A:aQ}{E:zAC}{s:aD}
section
variable{w:aJ}
inductive TupsAre(h:Heap):List aA->List (List Int)->Prop
 | nil:TupsAre h [] []
 | cons {a:aB} {o:Obj} {xs:Array aA} {n:Nat} {x:Int} {ns:List Int} {vs:List aA} {nss:List (List Int)} (ho:h.get? a=zo o) (hc:o.cls=.type "tuple") (hd:o.data=.seq xs n) (hi:IntsAre xs.toList (x :: ns)) (r:TupsAre h vs nss):TupsAre h (.ref a :: vs) ((x :: ns) :: nss)
theorem TupsAre.keep{h':Heap}(k:∀ b o,h.get? b=zo o->h'.get? b=zo o):∀ {vs:List aA} {nss:List (List Int)},TupsAre h vs nss->TupsAre h' vs nss
 | _,_,.nil=>.nil
 | _,_,.cons I B hd hi r=>.cons (k _ _ I) B hd hi (r.keep k)
theorem TupsAre.keepT{h':Heap}(k:∀ b o,o.cls=.type "tuple" -> h.get? b=zo o->h'.get? b=zo o):∀ {vs:List aA} {nss:List (List Int)},TupsAre h vs nss->TupsAre h' vs nss
 | _,_,.nil=>.nil
 | _,_,.cons I B hd hi r=>.cons (k _ _ B I) B hd hi (r.keepT k)
theorem TupsAre.length:∀ {vs:List aA} {nss:List (List Int)},TupsAre h vs nss->vs.length=nss.length
 | _,_,.nil=>rfl
 | _,_,.cons _ _ _ _ r=>by rw[E5,E5,r.length]
theorem TupsAre.at{h:Heap}:∀ {vs:List aA} {nss:List (List Int)},TupsAre h vs nss->∀ i,i < vs.length->∃ a o xs n,vs.getD i bW=.ref a/\h.get? a=zo o/\o.data=.seq xs n/\IntsAre xs.toList (nss.getD i [])
 | _,_,.nil,i,hi=>by simp at hi
 | _,_,.cons B O hd hi r,0,_=>⟨_,_,_,_,rfl,B,hd,hi⟩
 | _,_,.cons B O hd hi r,i + 1,U=>by
  obtain⟨a,o,xs,n,h1,h2,I,J⟩:=r.at i (by simpa using U);exact⟨a,o,xs,n,by simpa using h1,h2,I,by simpa using J⟩
theorem TupsAre.firsts{M:Model}:∀ {vs:List aA} {nss:List (List Int)},TupsAre h vs nss->∃ fs,KatTups h vs fs/\fs.length=vs.length/\∀ v∈fs,Looks M h (typeOf v) (.type "int")
 | _,_,.nil=>⟨[],.nil,rfl,λv I=>by cases I⟩
 | _,_,.cons (xs:=xs) (x:=U) J Y hd hi r=>by
  obtain⟨fs,h1,h2,O⟩:=r.firsts (M:=M);have B:=hi;generalize Z:xs.toList=l at B;cases B with
  | cons _ t hr=>
   refine⟨.int U t :: fs,.cons J Y hd ?_ h1,by simp[h2],λv I=>?_⟩
   ·rw[<- cX,Z];rfl
   ·rcases E2.mp I with rfl | I
    ·exact Looks.of_pure rfl
    ·exact O v I
def Vp:List Int->List Int->Bool
 | [],[]=>zb
 | [],_ :: _=>zi
 | _ :: _,[]=>zb
 | a :: as,b :: bs=>if a=b then Vp as bs else decide (a < b)
theorem Qck(b:Bool){Q:Bool->aD->Prop}:∀ {xs ys:List aA} {ns ms:List Int} (d:Bool) (i:Nat),IntsAre xs ns->IntsAre ys ms->d=decide (xs.length < ys.length)->Q (Vp ns ms) s->KatLex prog w A b d Q (xs.zip ys) i s
 | _,_,_,_,d,i,.nil,.nil,hd,q=>by
  have:d=zb:=by rw[hd];simp
  subst this;exact q
 | _,_,_,_,d,i,.nil,.cons _ _ _,hd,q=>by
  have:d=zi:=by rw[hd];simp
  subst this;exact q
 | _,_,_,_,d,i,.cons _ _ _,.nil,hd,q=>by
  have:d=zb:=by rw[hd];simp
  subst this;exact q
 | _,_,_,_,d,i,.cons x t I,.cons y u B,hd,q=>by
  rw[dB];refine kat_cons (wpAny_eqBool_int ?_)
  by_cases z:x=y
  ·subst z;rw[beq_self_eq_true];refine kat_yes (Qck b d (i + 1) I B (by rw[hd];simp) ?_);rw[Vp,bO rfl]at q;exact q
  ·rw[beq_eq_false_iff_ne.mpr z];refine kat_no ?_;rw[Vp,bP z]at q;cases b && i == 0 with
   | true=>exact oneLt_int q
   | false=>exact kat_one _ _ (lt_int q)
def Xd(nss:List (List Int))(i:Nat):Nat:=(nss.filter λms=>Vp ms (nss.getD i [])).length
theorem Q0c:∀ a:List Int,Vp a a=zb
 | []=>rfl
 | a :: B=>by rw[Vp,bO rfl];exact Q0c B
theorem qh:∀ {a b c:List Int},Vp a b=zi->Vp b c=zi->Vp a c=zi
 | [],[],_,h,_=>by cases h
 | [],_ :: _,[],_,h=>by cases h
 | [],_ :: _,_ :: _,_,_=>rfl
 | _ :: _,[],_,h,_=>by cases h
 | _ :: _,_ :: _,[],_,h=>by cases h
 | a :: U,b :: bs,c :: Y,h1,h2=>by
  rw[Vp]at h1 h2 ⊢
  by_cases I:a=b
  ·subst I;rw[bO rfl]at h1
   by_cases B:a=c
   ·subst B;rw[bO rfl]at h2 ⊢;exact qh h1 h2
   ·rw[bP B]at h2 ⊢;exact h2
  ·rw[bP I]at h1;have J:a < b:=by simpa using h1
   by_cases B:b=c
   ·subst B;rw[bP I];exact h1
   ·rw[bP B]at h2;have O:b < c:=by simpa using h2
    rw[bP (by omega)];simp;omega
theorem Q0b:∀ {a b:List Int},Vp a b=zb->Vp b a=zb->a=b
 | [],[],_,_=>rfl
 | [],_ :: _,h,_=>by cases h
 | _ :: _,[],_,h=>by cases h
 | a :: J,b :: bs,h1,h2=>by
  rw[Vp]at h1 h2
  by_cases z:a=b
  ·subst z;rw[bO rfl]at h1 h2;rw[Q0b h1 h2]
  ·rw[bP z]at h1;rw[bP (λe=>z e.symm)]at h2;have I:¬ a < b:=by simpa using h1
   have B:¬ b < a:=by simpa using h2
   exact absurd (show a=b by omega) z
theorem zw{α:Type}{p q:α->Bool}:∀ {l:List α},(∀ x∈l,p x=zi->q x=zi)->(∃ x∈l,p x=zb/\q x=zi)->(l.filter p).length < (l.filter q).length
 | [],_,h=>by obtain⟨_,h,_⟩:=h;cases h
 | x :: l,h,J=>by
  have O:(l.filter p).length<=(l.filter q).length:=by
   clear J
   induction l with
   | nil=>exact O9 _
   | cons y l B=>
    have B:=B λz hz=>h z (by rcases E2.mp hz with rfl | hz <;> simp[*])
    have I:=h y (by simp);rw[dO,dO]
    by_cases a:p y=zi
    ·rw[bO a,bO (I a)];simp;exact B
    ·rw[bP a]
     split
     ·simp;omega
     ·exact B
  rw[dO,dO];obtain⟨y,I,h1,h2⟩:=J;rcases E2.mp I with rfl | I
  ·rw[h1,h2];simp;omega
  ·have B:=zw (λz hz=>h z (O6 _ hz)) ⟨y,I,h1,h2⟩
   by_cases a:p x=zi
   ·rw[bO a,bO (h x (by simp) a)];simp;exact B
   ·rw[bP a]
    split
    ·simp;omega
    ·exact B
theorem Qc1{nss:List (List Int)}{i j:Nat}(hi:i < nss.length)(B:j < nss.length):cR (Xd nss) i j=Vp (nss.getD i []) (nss.getD j []):=by
 have mem:∀ k,k < nss.length->nss.getD k []∈nss:=λk I=>by
  rw[O7,O2 I];exact F9 I
 unfold cR;have key:∀ {i j:Nat},i < nss.length->j < nss.length->Vp (nss.getD i []) (nss.getD j [])=zi->Xd nss i < Xd nss j:=λ{i j} hi B h=>
  zw (λx _ O=>qh O h) ⟨nss.getD i [],mem i hi,Q0c _,h⟩
 cases z:Vp (nss.getD i []) (nss.getD j [])with
 | true=>exact bR (key hi B z)
 | false=>
  refine bQ ?_;cases J:Vp (nss.getD j []) (nss.getD i [])with
  | true=>have:=key B hi J;omega
  | false=>
   have e:=Q0b z J;unfold Xd;rw[e];exact bg _
theorem Qdi {a:aB} {nss:List (List Int)} {P:PySem.Fin->aD->Prop} (ho:s.heap.get? a=zo (seqObj "list" vs.toArray n)) (hT:TupsAre s.heap vs nss) (b2:vs.length < 64)
  (h:∀ (p:List Nat) (h':Heap) (k:Nat),p.Perm (bT vs.length)->(∀ i,1<=i->i < vs.length->Vp (nss.getD (p.getD i 0) []) (nss.getD (p.getD (i - 1) 0) [])=zb)->h'.get? a=zo (seqObj "list" (bn (p.map λi=>vs.getD i bW)) k)->(∀ b o,b≠a->s.heap.get? b=zo o->h'.get? b=zo o)->P (.done (.ret .none)) { s with heap:=h' }) :
  aF (aI prog w) A (Builtin.«list.sort» ⟨[.ref a],[]⟩) P E s:=by
 have ha:a < s.heap.objs.size:=E3 ho;obtain⟨e1,a5⟩:∃ e1,(s.heap.update a (ba λ_=>(#[]:Array aA))).get? a=zo (seqObj "list" #[] e1):=⟨_,get?_update_seq ho λ_=>#[]⟩
 have B:∀ b o,b≠a->s.heap.get? b=zo o->(((s.heap.update a (ba λ_=>(#[]:Array aA))).push (seqObj "tuple" vs.toArray 0)).push (seqObj "list" #[] 0)).get? b=zo o:=λb o hb e=>
  O4 _ (O4 _ (by rw[Heap.get?_update_ne _ _ _ _ hb];exact e))
 have U:(((s.heap.update a (ba λ_=>(#[]:Array aA))).push (seqObj "tuple" vs.toArray 0)).push (seqObj "list" #[] 0)).get? a=zo (seqObj "list" #[] e1):=O4 _ (O4 _ a5)
 rw[list_sort_plain];refine aC (listItems_at ho rfl ?_);refine aC (listUpdate_at ho rfl ?_ (by rw[D0,sizeLine_eq];omega) (bb _));refine aC (seqEpoch_at a5 rfl ?_);refine aC (wpAny_newTuple ?_ (by show vs.length<=_;rw[sizeLine_eq];omega));refine aC (wpAny_newList ?_ (bb _));refine af ?_;show aF (aI prog w) A _ P E { s with heap:=((s.heap.update a (ba λ_=>(#[]:Array aA))).push (seqObj "tuple" vs.toArray 0)).push (seqObj "list" #[] 0) }
 dsimp only;generalize hH:((s.heap.update a (ba λ_=>(#[]:Array aA))).push (seqObj "tuple" vs.toArray 0)).push (seqObj "list" #[] 0)=O at*
 have fin:∀ (st:SortSt) (p:List Nat),p.Perm (bT vs.length)->(arrOf st).map (·.2)=bn (p.map λi=>vs.getD i bW)->failedOf st=zl->(∀ i,1<=i->i < vs.length->Vp (nss.getD (p.getD i 0) []) (nss.getD (p.getD (i - 1) 0) [])=zb) ->
   aF (aI prog w) A (do
    let J:=(arrOf st).map (·.2)
    let I:=(<- seqEpoch a) != e1
    Builtin.List.listUpdate (.ref a) λ_=>J
    if let zo e:=failedOf st then rule "list.sort.comparison-raised";throw e
    if I then rule "list.sort.modified";raiseError "ValueError" "list modified during sort"
    ret .none) P E { s with heap:=O }:=λst p hp b0 hf hs=>by
  dsimp only;have hl:(bn (p.map λi=>vs.getD i bW)).size=vs.length:=by rw[D0,O0,hp.length_eq,F6]
  obtain⟨c2,b3⟩:∃ c2,(O.update a (ba λ_=>bn (p.map λi=>vs.getD i bW))).get? a=zo (seqObj "list" (bn (p.map λi=>vs.getD i bW)) c2):=⟨_,get?_update_seq U λ_=>bn (p.map λi=>vs.getD i bW)⟩
  rw[b0,hf];refine aC (seqEpoch_at U rfl ?_);refine aC (listUpdate_at U rfl ?_ (bb _) (F8 (eu hl) (by rw[sizeLine_eq];omega)));simp only[bne_self_eq_false,L0,if_false];exact wpAny_pure (h p _ c2 hp hs b3 λb o hb e=>by rw[Heap.get?_update_ne _ _ _ _ hb];exact B b o hb e)
 by_cases h2:vs.toArray.size < 2
 ·rw[bO h2,bO h2];refine aC (wpAny_pure ?_);rw[StateT.run_pure];refine aC (wpAny_pure ?_);refine fin (SortSt.mk' general' (vs.toArray.zip vs.toArray) #[] 7 zl) (bT vs.length) (du _) ?_ rfl (λi g1 g2=>?_)
  ·show(vs.toArray.zip vs.toArray).map (·.2)=_;apply Array.toList_inj.mp;apply dP;intro i
   by_cases z:i < vs.length
   ·simp[z]
   ·simp[z]
  ·rw[D0]at h2;omega
 ·rw[bP h2,bP h2];rw[D0]at h2;have Z:TupsAre O vs nss:=hT.keepT λb o hc e=>B b o (λz=>by
   rw[z,ho]at e;have e:=bY e;rw[<- e]at hc;exact absurd (show cY "list" = .type "tuple" from hc) (by decide)) e
  obtain⟨fs,k1,k2,k3⟩:=Z.firsts (M:=aI prog w);refine aC (kat_kind (s:={ s with heap:=O }) (T:=.type "int") k1 (by omega) k3 (by decide) ?_);have a7:∀ i j (C:Bool->aD->Prop),i < vs.length->j < vs.length->C (cR (Xd nss) i j) { s with heap:=O }->kas_ask prog w A (tuples' (cY "int" != cY "tuple")) vs i j C { s with heap:=O }:=λi j C hi hj q=>by
   obtain⟨ai,oi,xi,ni,e1,e2,e3,e4⟩:=Z.at i hi;obtain⟨aj,oj,xj,nj,f1,f2,f3,f4⟩:=Z.at j hj;rw[Qc1 (by rw[<- hT.length];exact hi) (by rw[<- hT.length];exact hj)]at q;unfold kas_ask;rw[e1,f1];exact kat_lt e2 e3 f2 f3 (Qck _ _ 0 e4 f4 (by simp) q)
  have Y:=Qk4 (r:=Xd nss) (n:=vs.length) (by omega);refine aC (ao (kat_run (vs:=vs) (ks:=vs) (Q:=λst' s'=>s'={ s with heap:=O }/\arrOf st'=(evT (cR (Xd nss)) (kas_sort vs.length)).map (kas_item (vs.toArray.zip vs.toArray))/\failedOf st'=zl)
   (G:=λp s'=>s'={ s with heap:=O }/\p=evT (cR (Xd nss)) (kas_sort vs.length)) rfl (by omega) b2 (λp' st' s' a1 a2 a3 a4=>⟨a4.1,by rw[<- a4.2];exact a2,a3⟩) (Q90 a7 _ (λ_=>True) _ (Qfa (by omega)) ⟨rfl,rfl⟩)) ?_ λ_ _ e=>e)
  rintro ⟨⟨⟩,st'⟩ s' ⟨rfl,a8,hf⟩;have b1:(evT (cR (Xd nss)) (kas_sort vs.length)).toList.Perm (bT vs.length):=by
   have:=gj.mp Y.2;simpa using this
  refine fin st' _ b1 (kat_snds rfl a8) hf λi g1 g2=>?_
  have hr:=Y.1 i g1 g2;have a6:∀ k,(evT (cR (Xd nss)) (kas_sort vs.length)).toList.getD k 0 < vs.length:=λk=>by
   have a9:AL vs.length (evT (cR (Xd nss)) (kas_sort vs.length)):=AL.perm (p:=bn (bT vs.length)) ⟨by omega,λx hx=>by simpa using hx⟩ Y.2;have:=a9.get k;rw[dJ,<- cX]at this;rw[O7];exact this
  have hg:∀ k,(evT (cR (Xd nss)) (kas_sort vs.length)).getD k 0=(evT (cR (Xd nss)) (kas_sort vs.length)).toList.getD k 0:=λk=>by
   rw[dJ,<- cX,O7]
  unfold rk at hr;rw[hg,hg]at hr;have:=Qc1 (nss:=nss) (i:=(evT (cR (Xd nss)) (kas_sort vs.length)).toList.getD i 0) (j:=(evT (cR (Xd nss)) (kas_sort vs.length)).toList.getD (i - 1) 0) (by rw[<- hT.length];exact a6 _) (by rw[<- hT.length];exact a6 _);rw[<- this];exact bQ (gR.mpr hr)
theorem Q7z {l:aB} {nss:List (List Int)} {Q:zAC} (Z:s.heap.IsList l vs.toArray) (U:TupsAre s.heap vs nss) (J:vs.length < 64)
  (h:∀ (p:List Nat) (h':Heap) (D k:Nat),p.Perm (bT vs.length)->(∀ i,1<=i->i < vs.length->Vp (nss.getD (p.getD i 0) []) (nss.getD (p.getD (i - 1) 0) [])=zb)->s.heap.objs.size<=D->h'.get? D=zo (seqObj "list" (bn (p.map λi=>vs.getD i bW)) k)->(∀ b o,s.heap.get? b=zo o->h'.get? b=zo o)->Q (.ref D) { s with heap:=h' }) :
  aF (aI prog w) A (call (.builtin "sorted") [.ref l]) Q E s:=by
 refine Calls.call_function_entry kind_sorted plain_sorted entry_sorted (args_sorted1 _) ?_;unfold Builtin.«sorted»;refine aC (m:=checkCount "sorted" 1 1 _) (wpAny_pure ?_);refine aC (collect_list Z ?_ (by rw[sizeLine_eq];omega));refine aC (wpAny_newList ?_ (by rw[sizeLine_eq];omega));have hsz:((s.heap.push (seqObj "list" #[] 0)).update s.heap.objs.size (ba (· ++ vs.toArray))).objs.size=s.heap.objs.size + 1:=by
  rw[Heap.size_update,size_push']
 have I:(((s.heap.push (seqObj "list" #[] 0)).update s.heap.objs.size (ba (· ++ vs.toArray))).push (seqObj "list" vs.toArray 0)).get? (s.heap.objs.size + 1)=zo (seqObj "list" vs.toArray 0):=by
  rw[<- hsz];exact E6 _ rfl
 have keep:∀ b o,s.heap.get? b=zo o->(((s.heap.push (seqObj "list" #[] 0)).update s.heap.objs.size (ba (· ++ vs.toArray))).push (seqObj "list" vs.toArray 0)).get? b=zo o:=λb o q=>by
  have B:b < s.heap.objs.size:=E3 q;rw[Heap.get?_push_ne _ _ _ (by rw[hsz];exact F7 (cD B)),Heap.get?_update_ne _ _ _ _ (F7 B),Heap.get?_push_ne _ _ _ (F7 B)];exact q
 show aF _ _ _ _ _ { s with heap:=((s.heap.push (seqObj "list" #[] 0)).update s.heap.objs.size (ba (· ++ vs.toArray))).push (seqObj "list" vs.toArray 0) };rw[hsz];refine aC (af (aa slot_list_sort ⟨_,I,rfl⟩ entry_list_sort ?body (args_list_sort _)))
 case body=>
  refine Qdi (s:={ s with heap:=((s.heap.push (seqObj "list" #[] 0)).update s.heap.objs.size (ba (· ++ vs.toArray))).push (seqObj "list" vs.toArray 0) }) I (U.keep keep) J λp h' k a1 Y O a4=>?_
  exact⟨_,rfl,wpAny_pure ⟨_,rfl,h p h' _ k a1 Y (cE _) O λb o e=>a4 b o (F7 (cD (E3 e))) (keep b o e)⟩⟩
end
end L2
namespace L2
open PySem PySem.Spec PyProof.Rows
variable{X:Cx}{a it:aB}{es:Array DictEntry}{ep k:Nat}{h:Heap}{Q:Option aA->aD->Prop}{P:aM}{o:Obj}{K:bS}{l:aH}{tl:TE}
def Qb1(a:List Int):List (List Int)->List (List Int)
 | []=>[a]
 | b :: r=>if Vp b a=zi then b :: Qb1 a r else a :: b :: r
def qq:List (List Int)->List (List Int)
 | []=>[]
 | a :: r=>Qb1 a (qq r)
def leL(a b:List Int):Prop:=Vp b a=zb
theorem Q70(a b:List Int):leL a b <-> a=b\/Vp a b=zi:=by
 unfold leL;constructor
 ·intro h;cases z:Vp a b with
  | true=>exact .inr rfl
  | false=>exact .inl (Q0b z h)
 ·rintro (rfl | h)
  ·exact Q0c a
  ·cases z:Vp b a with
   | false=>rfl
   | true=>have:=qh h z;rw[Q0c]at this;cases this
theorem Q5k{a b c:List Int}(h1:leL a b)(h2:leL b c):leL a c:=by
 rw[Q70]at*;rcases h1 with rfl | h1
 ·exact h2
 ·rcases h2 with rfl | h2
  ·exact .inr h1
  ·exact .inr (qh h1 h2)
theorem Qhu{a b:List Int}(h1:leL a b)(h2:leL b a):a=b:=Q0b h2 h1
theorem Q18(a:List Int):∀ l,(Qb1 a l).Perm (a :: l)
 | []=>du _
 | b :: r=>by
  rw[Qb1]
  split
  ·exact((Q18 a r).cons b).trans (iK a b r)
  ·exact du _
theorem Q2v:∀ l,(qq l).Perm l
 | []=>du _
 | a :: r=>(Q18 a (qq r)).trans ((Q2v r).cons a)
theorem Q1j{a:List Int}:∀ {l:List (List Int)},l.Pairwise leL->(Qb1 a l).Pairwise leL
 | [],_=>by rw[Qb1];exact List.pairwise_singleton _ _
 | b :: r,h=>by
  obtain⟨h1,h2⟩:=cF.mp h;rw[Qb1]
  split
  ·rename_i q;refine cF.mpr ⟨λx B=>?_,Q1j h2⟩;rcases E2.mp ((Q18 a r).mem_iff.mp B)with rfl | B
   ·exact(Q70 b x).mpr (.inr q)
   ·exact h1 x B
  ·rename_i q;have I:leL a b:=by unfold leL;simpa using q
   refine cF.mpr ⟨λx B=>?_,h⟩;rcases E2.mp B with rfl | B
   ·exact I
   ·exact Q5k I (h1 x B)
theorem xm:∀ l,(qq l).Pairwise leL
 | []=>dm
 | a :: r=>Q1j (xm r)
theorem Q53:∀ {a b:List (List Int)},a.Perm b->a.Pairwise leL->b.Pairwise leL->a=b
 | [],b,h,_,_=>(List.nil_perm.mp h).symm
 | x :: a,[],h,_,_=>absurd (List.perm_nil.mp h) (by simp)
 | x :: a,y :: b,h,Y,U=>by
  obtain⟨a1,Z⟩:=cF.mp Y;obtain⟨O,B⟩:=cF.mp U;have e:x=y:=by
   rcases E2.mp (h.mem_iff.mp (D3 (a:=x) (l:=a)))with e | I
   ·exact e
   ·rcases E2.mp (h.mem_iff.mpr (D3 (a:=y) (l:=b)))with e | J
    ·exact e.symm
    ·exact Qhu (a1 y J) (O x I)
  subst e;rw[Q53 (iL h) Z B]
theorem Q4k{l:List (List Int)}(h:∀ i,1<=i->i < l.length->Vp (l.getD i []) (l.getD (i - 1) [])=zb):l.Pairwise leL:=by
 rw[fH];have g:∀ k (B:k < l.length),l.getD k []=l[k]:=λk B=>by rw[O7,O2 B];rfl
 have key:∀ d i (hi:i + d < l.length),leL (l.getD i []) (l.getD (i + d) []):=by
  intro d
  induction d with
  | zero=>intro i hi;exact(Q70 _ _).mpr (.inl rfl)
  | succ d O=>
   intro i hi;have h1:=O i (by omega);have h2:=h (i + d + 1) (by omega) (by omega);rw[gi]at h2;exact Q5k h1 h2
 intro i j hi J I;have:=key (j - i) i (by omega);rw[show i + (j - i)=j by omega,g i hi,g j J]at this;exact this
theorem Qdj{nss:List (List Int)}{p:List Nat}(J:p.Perm (bT nss.length))(h:∀ i,1<=i->i < nss.length->Vp (nss.getD (p.getD i 0) []) (nss.getD (p.getD (i - 1) 0) [])=zb):p.map (λi=>nss.getD i [])=qq nss:=by
 have Y:p.length=nss.length:=by rw[J.length_eq,F6]
 have e1:(bT nss.length).map (λi=>nss.getD i [])=nss:=by
  apply dP;intro i
  by_cases z:i < nss.length
  ·simp[z]
  ·simp[z]
 have U:(p.map λi=>nss.getD i []).Perm nss:=by
  have:=J.map (λi=>nss.getD i [])
  rwa [e1]at this
 have I:∀ k,k < p.length->(p.map λi=>nss.getD i []).getD k []=nss.getD (p.getD k 0) []:=λk B=>by
  rw[O7,F4,O2 B,O7 (l:=p),O2 B];rfl
 refine Q53 (U.trans (Q2v nss).symm) (Q4k λi O g2=>?_) (xm nss);rw[O0]at g2;rw[I i g2,I (i - 1) (by omega)];exact h i O (by omega)
theorem Qbj{P:aM}{w:aJ}{H:Hp}{h:Heap}(ok:HOk P w H h):∀ {nss:List (List Int)} {vs:List V} {its:List aA},aq (λ(v:V) (ns:List Int)=>ns≠[]/\∃ a,v=.ref a/\H a=zo (.tup (ns.map V.int))) vs nss->Vals vs its->TupsAre h its nss
 | [],_,_,.nil,.nil=>.nil
 | [] :: _,v :: vs,u :: us,.cons ⟨z,_⟩ t,.cons B I=>absurd rfl z
 | (x :: ns) :: nss,v :: vs,u :: us,.cons ⟨_,a,ea,O⟩ t,.cons B I=>by
  have r:=Qbj ok t I;subst ea;cases B;obtain⟨_,Z,Y,o,J,U,n,hd⟩:=ok a _ O;exact .cons J U hd (by simpa using yt Y) r
theorem Q7c :Uk X (.builtin "sorted") (λxs H Q=>∃ p vs,∃ nss:List (List Int),xs=[.ref p]/\SqL X.K H p vs/\vs.length < 64/\aq (λ(v:V) (ns:List Int)=>ns≠[]/\∃ a,v=.ref a/\H a=zo (.tup (ns.map V.int))) vs nss /\
  ∀ d (B:List Nat),H d=zl->B.Perm (bT vs.length)->B.map (λi=>nss.getD i [])=qq nss->Q (.ref d) (upd H d (.lst (B.map λi=>vs.getD i .non)))):=by
 intro pins s σ H xs us Q I r h;obtain⟨p,vs,nss,rfl,hq,a7,hp,q⟩:=h;obtain⟨u,rfl,rx⟩:=qy r;cases rx;obtain⟨its,U,pl,hz⟩:=I.list hq;have J:=U.length;have T:=Qbj I.hok hp U;refine Q7z pl.isList T (by omega) λB h' D k a1 a2 Z a4 a5=>?_
 have Y:its.length=nss.length:=T.length;have e:=Qdj (nss:=nss) (p:=B) (by rw[<- Y];exact a1) (λi g1 g2=>a2 i g1 (by omega))
 have a6:B.length=its.length:=by rw[a1.length_eq,F6]
 have hv:Vals (B.map λi=>vs.getD i .non) (B.map λi=>its.getD i bW):=by
  have key:∀ l:List Nat,(∀ x∈l,x < vs.length)->Vals (l.map λi=>vs.getD i .non) (l.map λi=>its.getD i bW):=by
   intro l
   induction l with
   | nil=>intro _;exact .nil
   | cons x l ih=>
    intro hl;have O:=hl x (by simp);obtain⟨u,hu,ru⟩:=U.get (O2 O);refine .cons ?_ (ih λy hy=>hl y (O6 _ hy))
    show RelV (vs.getD x V.non) (its.getD x bW);rw[O7,O2 O,O7,hu];exact ru
  exact key B λx O=>by have:=a1.mem_iff.mp O;rw[J];simpa using this
 exact⟨.ref D,_,I.laid (t':=s.toks) (o:=.lst (B.map λi=>vs.getD i .non)) a5 Z ⟨by rw[O0];omega,_,k,hv,a4⟩,rfl,q D B (I.hok.fresh Z) (by rw[J];exact a1) e⟩
theorem zr:entryFor table "dict_itemiterator.__iter__" = zo Builtin.«dict_keyiterator.__iter__»:=
 entryFor_alias (id' := "dict_keyiterator.__iter__") (by kernel_rfl) rfl (by decide +kernel) (by kernel_rfl)
def RawD(h:Heap)(a:aB)(es:Array DictEntry)(ep:Nat):Prop:=∃ o,h.get? a=zo o/\o.ExactDict/\o.data=.dict es ep
variable{prog:aM}{A:aQ}{E:zAC}{s:aD}
section
variable{w:aJ}
theorem RawD.typeIs(h:RawD s.heap a es ep):s.TypeIs (.ref a) "dict" := let ⟨o,e,x,_⟩:=h;⟨o,e,x.1⟩
theorem RawD.obj(x:RawD h a es ep):h.get? a=zo { cls:=.type "dict",dict:=zl,data:=.dict es ep,slots:=#[] }:=by
 obtain⟨⟨c,B,I,J⟩,ho,⟨h1,h2,h3⟩,h4⟩:=x;simp only at h1 h2 h3 h4;subst h1 h2 h3 h4;exact ho
theorem Qge {d:aB} {Q:zAC} (hd:(d == aZ)=zb) (I:RawD s.heap d es ep)
  (J:Q (.ref s.heap.objs.size) { s with heap:=s.heap.push { cls:=.type "dict_keyiterator",data:=.fields #[.ref d,.int 0 0,.int es.size 0,.int ep 0] } }) :
  aF (aI prog w) A (pyIter (.ref d)) Q E s:=by
 have B:=I.typeIs;have U:=I.obj;obtain⟨Z,g,Y,O,os⟩:=s;refine wpAny_pyIter_slot B gk (aa gk B PySem.F.entry_dict_iter ?_ (PySem.F.args_dict_iter_1 _));unfold Builtin.«dict.__iter__» Builtin.Dict.dictSlotNone
 repeat (any_goals (first | assumption | wp_step))
 refine⟨_,rfl, "dict_keyiterator",_,⟨_,E6 _ rfl,rfl⟩,PySem.F.slot_dict_keyiterator_next.lookup,J⟩
theorem Q3u:Builtin.Dict_items.ownsTuple ((Manifest.find? "dict_keyiterator").elim "dict_keyiterator" λx=>x.tpName)=zb:=by decide +kernel
theorem Qgf {d:aB} {i:Nat} {e:DictEntry} {Q:Option aA->aD->Prop} (B:s.heap.IsKeyIter it d i es.size ep) (Z:RawD s.heap d es ep) (J:es[i]?=zo e)
  (U:∀ h',h'.IsKeyIter it d (i + 1) es.size ep->Heap.SameBut it s.heap h'->Q (zo e.key) { s with heap:=h' }) :
  aF (aI prog w) A (ag (.ref it)) Q E s:=by
 have I:=B.typeIs;have ho:=Z.obj;obtain⟨⟨c,O,Y,sl⟩,hoi,hci,hdi⟩:=B;simp only at hci hdi;subst hci hdi;obtain⟨hp,g,dr,tk,os⟩:=s;unfold ag;refine aC (wpAny_attempt (wpAny_callSpecial?_slot (name:=bf "__next__") I dw (aa dw I gl ?_ (gn _))))
 repeat (any_goals (first | assumption | wp_step))
 simp only[Q3u,L0,if_false];simp only[show ¬ ((i:Int) < 0) by omega,if_false,bh,J]
 repeat (any_goals (first | assumption | wp_step))
 simp only[Q3u,L0,if_false];rw[bP (show ¬ ((_:Bool)=zi) by decide +kernel)];refine⟨_,rfl,wpAny_pure (U _ ⟨_,M9 _ hoi rfl,rfl,?_⟩ (Heap.SameBut.update ..))⟩;simp[cV,ae]
theorem Qkg {d:aB} {i:Nat} {Q:Option aA->aD->Prop} (hh:A.handled=zl) (B:s.heap.IsKeyIter it d i es.size ep) (hm:RawD s.heap d es ep) (O:es[i]?=zl)
  (Y:∀ h',Heap.ExtBut it s.heap h'->Q zl { s with heap:=h' }) :
  aF (aI prog w) A (ag (.ref it)) Q E s:=by
 have I:=B.typeIs;have ho:=hm.obj;obtain⟨⟨c,U,Z,sl⟩,hoi,hci,hdi⟩:=B;simp only at hci hdi;subst hci hdi;obtain⟨hp,g,dr,tk,os⟩:=s;unfold ag;refine aC (wpAny_attempt (wpAny_callSpecial?_slot (name:=bf "__next__") I dw (aa dw I gl ?_ (gn _))))
 repeat (any_goals (first | assumption | wp_step))
 simp only[Q3u,L0,if_false];simp only[show ¬ ((i:Int) < 0) by omega,if_false,bh,O];have J:=isSubtype_stop
 repeat (any_goals (first | assumption | wp_step))
 unfold bN;refine aC (wpAny_handled ?_);rw[show A.in1.handled=zl from hh];refine aC (wpAny_pure (wpAny_throw ?_));refine aC (bJ (T := "StopIteration") (b:=zi) ⟨_,E6 _ rfl,rfl⟩ isSubtype_stop ?_);exact wpAny_pure (Y _ (((Heap.SameBut.update ..).extBut.push _).push _))
theorem RawD.at{h':Heap}(x:RawD h a es ep)(k:∀ o,h.get? a=zo o->h'.get? a=zo o):RawD h' a es ep:=let ⟨o,e,r⟩:=x;⟨o,k o e,r⟩
end
def Qpr(tk tv:TE):TE:=λσ H Q=>∀ p,H p=zl->Q9u [(tk,tv)] σ (upd H p (.dT [])) λps H2=>∃ (ks:HK) (b:V) (y:V),ps=[(b,y)]/\KR H2 ks b/\H2 p=zo (.dT [])/\Q (.ref p) (upd H2 p (.dT [(ks,y)]))
theorem Qe7{pos:Pos}{k v:aH}{Y tv:TE}(hu:X.A.units + 5 < aP)(hk:PE X k Y)(hv:PE X v tv):PE X (.Dict [zo k] [v] pos) (Qpr Y tv):=by
 intro pins s σ H Q I q;have hn:=I.hok.fresh (O9 s.heap.objs.size);have I1:=I.laid (a:=s.heap.objs.size) (o:=.dT []) (h':=s.heap.push { cls:=.type "dict",data:=.dict #[] }) (t':=s.toks) (λ_ _ q=>O4 _ q) (O9 _) (Q9b s.heap I.big);rw[arm_eval_Dict,zip_pairTrees [zo k] [v] X.env pos rfl rfl,dictDisplay_pairs _ (by simp[pairTrees]) (by simp[pairTrees])];refine aC (wpAny_standAt (aC ?_));unfold subDict;refine aC (wpAny_alloc (aC (af ?_)));rw[bO (by simp[pairTrees])];refine aC (thn ((Qgv hk hv Qkv) pins _ σ _ _ I1 (q _ hn)) λws s2 ⟨ps,H2,J,B,ks,b,y,ep,U,e,q2⟩=>?_)
 subst ep;obtain⟨⟨u,r⟩,rfl,r1,r2⟩:∃ p:aA × aA,ws=[p]/\RelV b p.1/\RelV y p.2:=by
  cases B with
  | @cons a c as bs h t=>
   cases t;exact⟨_,rfl,h.1,h.2⟩
 obtain⟨z,hd,xs,B,dd⟩:=Qim J.hok e;cases B;refine af ?_;refine aC ?_;rw[dF];refine aC (aC (Qnn hu (Q7k J.hok U r1) dd (λh' O hs=>wpAny_pure ?_) (by simp)));dsimp only;rw[dn];refine wpAny_pure (wpAny_pure (wpAny_pure (wpAny_pure ⟨.ref s.heap.objs.size,_,?_,rfl,q2⟩)));obtain⟨o,es,ep,hq,h2,h3,h4,_,h5⟩:=O;refine Q2e J (by rw[e];exact True.intro) hs ⟨o,hq⟩ ⟨by simp[sizeLine_eq],hd,[(ks,u,r)],.cons ⟨rfl,⟨b,?_,r1⟩,r2⟩ .nil,o,es,ep,hq,h2,h3,by simpa[Q1t,vAt]using h4,by simp⟩;exact U.keep λc ys Z=>by rw[Qc (Qhi Z e (λz=>nomatch z))];exact Z
def ItT(a:aB)(o:Obj)(kvs:List (HK × V)):It:=
 ⟨λi H=>H a=zo (.frz o (.dT kvs))/\i < kvs.length,λi H x H'=>H'=H/\∃ kv,kvs[i]?=zo kv/\KR H kv.1 x,λi H=>H a=zo (.frz o (.dT kvs))/\kvs.length<=i⟩
theorem Q87 {w:aJ} {H:Hp} {I:List (HK × V)} (ok:HOk P w H h) (e:H a=zo (.frz o (.dT I))) (hd:o.data=.dict es ep) :
  (a == aZ)=zb/\RawD h a es ep/\aq (λ(p:HK × V) (u:aA)=>∃ v,KR H p.1 v/\RelV v u) I (es.toList.map (·.key)):=by
 obtain⟨Y,hz,hs,xs,O,o',a1,a2,B,hx,J,Z,U⟩:=ok a _ e;rw[Y]at B;cases B;rw[hd]at J;cases J;refine⟨hs,⟨o,Y,hx,hd⟩,?_⟩;have:es.toList.map (·.key)=xs.map (λq=>q.2.1):=by rw[Z,F3];exact L5 λq _=>rfl
 rw[this];clear this Z hz U e
 induction O with
 | nil=>exact .nil
 | cons hr _ ih=>exact .cons hr.2.1 ih
theorem Paired.get{α β:Type}{R:α->β->Prop}:∀ {xs:List α} {ys:List β} {i:Nat} {x:α},aq R xs ys->xs[i]?=zo x->∃ y,ys[i]?=zo y/\R x y
 | _,_,_,_,.nil,e=>by simp at e
 | a :: _,b :: _,0,x,.cons h t,e=>by
  simp at e;subst e;exact⟨b,by simp,h⟩
 | _ :: _,_ :: _,i + 1,x,.cons h t,e=>by
  obtain⟨y,h1,h2⟩:=Paired.get (i:=i) t (by simpa using e);exact⟨y,by simpa using h1,h2⟩
theorem Q9s {P:aM} {w:aJ} {K:bS} {tg:aH} (a it:aB) (o:Obj) (J:List (HK × V)) (hd:o.data=.dict es ep) :
  Turn P w K tg (ItT a o J) [it] it (λi h=>h.IsKeyIter it a i J.length ep) where
 mem:=by simp
 obj:=λi h st b O=>by
  have e:b=it:=by simpa using O
  subst e;obtain⟨o,e,c,d⟩:=st;exact⟨o,e,λv z=>by rw[d]at z;cases z⟩
 keep:=λi h h' st k=>by
  obtain⟨o,e,r⟩:=st;exact⟨o,k it (by simp) o e,r⟩
 item:=by
  intro X hP hw hK hc i pins s σ H E I Y st hg;subst hP hw hK;obtain⟨hx,hl⟩:=hg;obtain⟨hs,Z,U⟩:=Q87 I.hok hx hd;have B:J.length=es.size:=by have:=Paired.length U;simpa using this
  obtain⟨u,hu,v,kr,rv⟩:=Paired.get U (O2 hl);rw[F4]at hu;obtain⟨e,he,rfl⟩:=gc.mp hu;obtain⟨f0,f1,f2,f3,f4,f5⟩:=Y it (by simp);rw[B]at st;refine Qgf st Z (by rw[<- cX];exact he) λh' st' sb=>?_
  rw[<- B]at st';have I1:Inv X pins σ H { s with heap:=h' }:=I.turned (t':=s.toks) (λb o O e=>(sb.2 b O).trans e) f0 f1 f3 f4 f5
  obtain⟨o,e',c,d⟩:=id st';exact⟨e.key,rfl,Q95 (s:={ s with heap:=h' }) e' c d (by decide) ⟨v,H,I1,rv,⟨rfl,J[i],O2 hl,kr⟩,st',λb O=>(Y b O).1⟩⟩
 done:=by
  intro X hP hw hK hc i pins s σ H E I Y st hg;subst hP hw hK;obtain⟨hx,hl⟩:=hg;obtain⟨hs,Z,U⟩:=Q87 I.hok hx hd;have B:J.length=es.size:=by have:=Paired.length U;simpa using this
  obtain⟨f0,f1,f2,f3,f4,f5⟩:=Y it (by simp);rw[B]at st;exact Qkg (I.ok.hd hc) st Z (by rw[fG];omega) λh' eb=>⟨rfl,I.turned (t':=s.toks) (λb o O e=>eb b o O e) f0 f1 f3 f4 f5⟩
 self:=λ_ _ _ _ _ st h=>wpAny_pyIter_keyiter st h
variable{X:Cx}{pins:zAA}{σ:St}{H:Hp}{a:aB}{tg:aH}
theorem Inv.noFrzT(I:Inv X pins σ H s){B:List (HK × V)}(e:H a=zo (.dT B)):Qd6 X a:=λo u q=>by
 have:=I.base.frzs a o u q;rw[e]at this;cases this
theorem Inv.thawT{B:List (HK × V)}(I:Inv X pins σ H s)(e:H a=zo (.frz o (.dT B)))(n:Qd6 X a):Inv X pins σ (upd H a (.dT B)) s:=by
 have O:∀ b,H b=zl->b≠a:=λb h z=>by rw[z,e]at h;cases h
 refine⟨I.ok,I.os,I.bare,⟨I.base.keep,I.base.slot,λb o q h U=>?_,I.base.there,λb xs q=>?_,λb o u q=>?_,λb ps q=>?_⟩,I.loc,I.cell,?_,λx c q=>?_,λp Z=>?_,λb ob q=>?_,I.len⟩
 ·have:=I.base.free b o q h U;rw[Qc (O b this)];exact this
 ·have:=I.base.tups b xs q;rw[Qc (λz=>by rw[z,e]at this;cases this)];exact this
 ·have:=I.base.frzs b o u q
  by_cases z:b=a
  ·subst z;exact absurd q (n o u)
  ·rw[Qc z];exact this
 ·obtain⟨J,this⟩:=I.base.tbls b ps q;exact⟨J,by rw[Qc (λz=>by rw[z,e]at this;cases this)];exact this⟩
 ·rw[Qc (O _ I.free)];exact I.free
 ·rw[Qc (O _ (I.freeC x c q))];exact I.freeC x c q
 ·obtain⟨h1,h2,Y⟩:=I.pin p Z;exact⟨h1,by rw[Qc (O _ h2)];exact h2,Y⟩
 ·have stay:∀ {ob:HO},ObjOk X.prog X.w H s.heap b ob->ObjOk X.prog X.w (upd H a (.dT B)) s.heap b ob:=λh=>h.stay (λ_ _ _ q=>q) (λc q=>by
   rw[Qc (λz=>by rw[z,e]at q;cases q)];exact q) λc xs q=>by
   rw[Qc (λz=>by rw[z,e]at q;cases q)];exact q
  by_cases z:b=a
  ·subst z;rw[Qx]at q;cases q;exact stay (I.hok b _ e).2
  ·rw[Qc z]at q;exact stay (I.hok b _ q)
def Qsh(X:Cx)(tl:TE):TI:=λσ H R=>tl σ H λx H1=>∃ a kvs,x=.ref a/\H1 a=zo (.dT kvs)/\∀ o,Qd6 X a->R (ItT a o kvs) (upd H1 a (.frz o (.dT kvs)))
theorem Qgy(hl:PE X l tl):PI X tg l (Qsh X tl):=by
 intro pins s σ H R I h;refine thn (hl pins s σ H _ I h) λv s1 ⟨x,H1,U,r1,q1⟩=>?_
 obtain⟨a,B,rfl,Y,q⟩:=q1;cases r1;obtain⟨z,hs,xs,J,o,es,ep,O,hx,hd,he,hn⟩:=U.hok a _ Y;have hsz:es.size=B.length:=by
  rw[<- bt,he,O0,<- Paired.length J]
 refine Qge hs ⟨o,O,hx,hd⟩ ?_;have a1:s1.heap.objs.size≠a:=bj (E3 O);have Z:H1 s1.heap.objs.size=zl:=U.hok.fresh (O9 _);have keep:∀ b u,s1.heap.get? b=zo u->(s1.heap.push { cls:=.type "dict_keyiterator",data:=.fields #[.ref a,.int 0 0,.int es.size 0,.int ep 0] }).get? b=zo u:=λb u e=>O4 _ e
 refine⟨s1.heap.objs.size,[s1.heap.objs.size],_,_,upd H1 a (.frz o (.dT B)),rfl,U.write (t':=s1.toks) (x:=a) (e:=a) (by rw[Y];trivial) (.inl rfl) (λb u _ e=>keep b u e) ⟨o,keep a o O⟩ ⟨keep a o O,z,hs,xs,Paired.mapP J λp q y=>⟨y.1,?_,y.2.2⟩,o,es,ep,keep a o O,hx,hd,he,hn⟩,
  Q9s a _ o B hd,⟨_,E6 _ rfl,rfl,by rw[hsz];rfl⟩,λb hb=>?_,q o (U.noFrzT Y)⟩
 ·obtain⟨u,k1,k2⟩:=y.2.1;exact⟨u,k1.keep λc ys ec=>by rw[Qc (λz=>by rw[z,Y]at ec;cases ec)];exact ec,k2⟩
 ·have e:b=s1.heap.objs.size:=by simpa using hb
  subst e;exact U.fpOk (O9 _) (by rw[Qc a1];exact Z)
def Qu3(td ty tx:TE):TE:=λσ H Q=>td σ H λx H1=>∃ a,x=.ref a/\IsD H1 a/\ty σ H1 λy H2=>tx σ H2 λz H3=>∃ kvs k,H3 a=zo (.dT kvs)/\KR H3 k y/\kvs.length < sizeLine /\
 (∀ v,Xv kvs k=zo v->Q v H3)/\(Xv kvs k=zl->Q z (upd H3 a (.dT (Ki kvs k z))))
variable{o e f:aH}{apos cpos:Pos}{td ty tx:TE}
theorem Qe6(hu:X.A.units + 9 < aP)(ho:PE X o td)(he:PE X e ty)(hf:PE X f tx)(m:M2 X o "setdefault" apos e f cpos):PE X (.Call (.Attribute o "setdefault" apos) [e,f] [] cpos) (Qu3 td ty tx):=by
 intro pins s σ H Q I h;refine wpAny_Call_method m.base m.few m.line gh gq PySem.F.type_dict_setdefault (thn (ho pins s σ H _ I h) λu s1 ⟨x,H1,I1,rx,a,ex,d,q1⟩=>?_)
 subst ex;obtain rfl:u=bX a:=rx;obtain⟨t1,t2,_⟩:=Qb0 I1 d;refine⟨t1,t2,?_⟩;rw[m.trees];refine Calls.callWith_builtin rfl (Calls.evalArgs_plain (Calls.spliced_cons (thn (he pins s1 σ H1 _ I1 q1) λiv s2 ⟨y,H2,I2,ry,q2⟩=>Calls.spliced_cons (thn (hf pins s2 σ H2 _ I2 q2) λdv s3 ⟨z,H3,Y,rz,B,k,ea,kr,hl,g1,g2⟩=>Calls.spliced_nil ?_))))
 obtain⟨hz,hs,xs,J,dd⟩:=Qim Y.hok ea;have Z:xs.length<=sizeLine:=by rw[<- Paired.length J];exact hz
 refine call_meetsIn gq dd.typeIs PySem.F.entry_dict_setdefault (PySem.F.args_dict_setdefault_3 _ _ _) (Q6c hs) ⟨jy hu,k,xs,Q7k Y.hok kr ry,dd,Z,λp hp=>?_,λhp h' a1 sb=>?_⟩
 ·have O:=J.val k;rw[hp]at O;cases U:Xv B k with
  | none=>rw[U]at O;exact O.elim
  | some v=>
   rw[U]at O;exact⟨v,H3,Y.tok _,O,g1 v U⟩
 ·have O:=J.val k;rw[hp]at O;have U:Xv B k=zl:=by
   cases U:Xv B k with
   | none=>rfl
   | some v=>rw[U]at O;exact O.elim
  have a2:(Ki B k z).length<=sizeLine:=by have:=jg B k z;omega
  obtain⟨q,es,ep,hq,h2,h3,h4,_,h5⟩:=a1;refine⟨z,upd H3 a (.dT (Ki B k z)),Q2e Y (by rw[ea];exact True.intro) sb ⟨q,hq⟩ ⟨a2,hs,_,(J.put k kr ry rz).keeps λc ys ec=>?_,q,es,ep,hq,h2,h3,h4,h5⟩,rz,g2 U⟩;rw[Qc (Qhi ec ea (λz=>nomatch z))];exact ec
section
variable{w:aJ}
theorem Qdv (d:aB) (hd:(d == aZ)=zb):MeetsIn prog w (Builtin.«dict.items» ⟨[.ref d],[]⟩) (λ_ R s=>(∃ es ep,RawD s.heap d es ep) /\
   R (.ok (.ret (.ref s.heap.objs.size))) { s with heap:=s.heap.push { cls:=.type "dict_items",data:=.fields #[.ref d] } }):=
 .of_wp λA R s ⟨⟨es,ep,B⟩,h⟩=>by
  unfold Builtin.«dict.items»;refine aC ?_;unfold Builtin.Dict.noArgs;refine aC (wpAny_notOrdered_dict B.typeIs ?_);show aF _ _ (pure d) _ _ s;refine wpAny_pure ?_;show aF _ _ (Builtin.Dict.showsAll d >>= _) _ _ s;unfold Builtin.Dict.showsAll;rw[bP (by rw[hd];exact F5)];exact aC (wpAny_pure (aC (bA (wpAny_pure ⟨_,rfl,h⟩))))
theorem Qa7 {v d:aB} {Q:zAC} (O:s.heap.IsItemsView v d) (Z:RawD s.heap d es ep)
  (Y:Q (.ref s.heap.objs.size) { s with heap:=s.heap.push { cls:=.type "dict_itemiterator",data:=.fields #[.none,.bool zb,.ref d,.int 0 0,.int es.size 0,.int ep 0,.none,.none] } }) :
  aF (aI prog w) A (pyIter (.ref v)) Q E s:=by
 obtain⟨ov,I,a1,J⟩:=id O;have U:=Z.obj;refine wpAny_pyIter_slot O.typeIs F.slot_dict_items_iter (aa F.slot_dict_items_iter O.typeIs F.entry_dict_items_iter ?_ (F.args_dict_items_iter_1 _));unfold Builtin.«dict_items.__iter__»;refine aC (wpAny_pure ?_);refine aC ?_;unfold Builtin.Dict_items.dictOf;refine aC (aU I J (x:=.ref d) rfl (wpAny_pure ?_));refine aC ?_;unfold Builtin.Dict_items.newIterator;refine aC (wpAny_dictEntries U rfl ?_);refine aC (wpAny_dictEpoch U rfl ?_);have B:Builtin.Dict_items.ownsTuple "dict_itemiterator" = zi:=by decide
 simp only[B,if_true];refine bA (wpAny_pure ⟨_,rfl, "dict_itemiterator",_,⟨_,E6 _ rfl,rfl⟩,F.slot_dict_itemiterator_next.lookup,?_⟩)
  (by simp only[sizeOk,Builtin.Dict_items.ownedTupleFields,D0,O5,E5,M7,sizeLine_eq];omega)
 simpa[ae,Builtin.Dict_items.ownedTupleFields]using Y
theorem Qcs:Builtin.Dict_items.ownsTuple ((Manifest.find? "dict_itemiterator").elim "dict_itemiterator" λx=>x.tpName)=zi:=by decide +kernel
theorem Q92:Builtin.Dict_items.ownsTuple "dict_itemiterator" = zi:=by decide +kernel
theorem Qdw {d:aB} {i:Nat} {ok U:aA} {Q:Option aA->aD->Prop} (hh:A.handled=zl) (B:IsItemIter s.heap it d i es.size ep ok U) (Z:RawD s.heap d es ep) (O:es[i]?=zl)
  (Y:∀ h',Heap.ExtBut it s.heap h'->Q zl { s with heap:=h' }):aF (aI prog w) A (ag (.ref it)) Q E s:=by
 have ho:=Z.obj;have I:s.TypeIs (.ref it) "dict_itemiterator" := ⟨_,B,rfl⟩;unfold ag;refine aC (wpAny_attempt (wpAny_callSpecial?_slot (name:=bf "__next__") I F.slot_dict_itemiterator_next
  (aa F.slot_dict_itemiterator_next I F.entry_dict_itemiterator_next ?_ (F.args_dict_itemiterator_next_1 _))))
 obtain⟨hp,g,dr,tk,os⟩:=s
 repeat (any_goals (first | assumption | wp_step))
 simp only[Qcs,Q92,L0,if_false,if_true]
 repeat (any_goals (first | assumption | wp_step))
 simp only[show ¬ ((i:Int) < 0) by omega,if_false,bh,O];have J:=isSubtype_stop
 repeat (any_goals (first | assumption | wp_step))
 unfold bN;refine aC (wpAny_handled ?_);rw[show A.in1.handled=zl from hh];refine aC (wpAny_pure (wpAny_throw ?_));refine aC (bJ (T := "StopIteration") (b:=zi) ⟨_,E6 _ rfl,rfl⟩ isSubtype_stop ?_);exact wpAny_pure (Y _ (((Heap.SameBut.update ..).extBut.push _).push _))
theorem Qa8 {d:aB} {i:Nat} {e:DictEntry} {ok Z:aA} {Q:Option aA->aD->Prop} (I:IsItemIter s.heap it d i es.size ep ok Z) (hm:RawD s.heap d es ep) (hx:es[i]?=zo e)
  (hQ:∀ h',IsItemIterOut h' it d (i + 1) es.size ep e.key e.val s.heap.objs.size->h'.get? s.heap.objs.size=zo { cls:=.type "tuple",data:=.seq #[e.key,e.val] }->(∀ b o,b≠it->s.heap.get? b=zo o->h'.get? b=zo o)->Q (zo (.ref s.heap.objs.size)) { s with heap:=h' }) :
  aF (aI prog w) A (ag (.ref it)) Q E s:=by
 have ho:=hm.obj;have U:s.TypeIs (.ref it) "dict_itemiterator" := ⟨_,I,rfl⟩;unfold ag;refine aC (wpAny_attempt (wpAny_callSpecial?_slot (name:=bf "__next__") U F.slot_dict_itemiterator_next
  (aa F.slot_dict_itemiterator_next U F.entry_dict_itemiterator_next ?_ (F.args_dict_itemiterator_next_1 _))))
 obtain⟨O,g,dr,Y,os⟩:=s
 repeat (any_goals (first | assumption | wp_step))
 simp only[Qcs,Q92,L0,if_false,if_true]
 repeat (any_goals (first | assumption | wp_step))
 simp only[show ¬ ((i:Int) < 0) by omega,if_false,bh,hx];refine aC ?_
 first | refine aC (wpAny_typeNameOfWhole_itemiter U (wpAny_pure ?_)) | refine aC (wpAny_typeNameOf_itemiter U (wpAny_pure ?_))
 refine aC (wpAny_isOneOf_itemiter U ?_);show aF _ _ (setField (.ref it) 3 (ae ((i:Int) + 1)) >>= _) _ _ ⟨O,g,dr,Y,os⟩;refine aC (ay I (by simp) λh1 e1 k1=>?_)
 replace k1:Heap.SameBut it O h1:=k1;replace e1:IsItemIter h1 it d (i + 1) es.size ep ok Z:=by
  unfold IsItemIter;rw[show((i + 1:Nat):Int)=(i:Int) + 1 by omega];simpa[ae]using e1
 have J:Shared.TypeIs ⟨h1,g,dr,Y,os⟩ (.ref it) "dict_itemiterator" := ⟨_,e1,rfl⟩;refine aC (af (aC (wpAny_isOneOf_itemiter J (aC (wpAny_isOneOf_itemiter J ?_)))));show aF _ _ (Builtin.Dict_items.pairFromOwner (.ref it) 6 e.key e.val) _ _ ⟨h1,g,dr,Y,os⟩;unfold Builtin.Dict_items.pairFromOwner;refine aC (wpAny_newTuple ?_);have lt:it < O.objs.size:=E3 I;have z1:h1.objs.size=O.objs.size:=k1.1;obtain⟨h2,e2⟩:∃ h2,h2=h1.push { cls:=.type "tuple",data:=.seq #[e.key,e.val] }:=⟨_,rfl⟩;have i2:IsItemIter h2 it d (i + 1) es.size ep ok Z:=by rw[e2];exact O4 _ e1
 have t2:h2.get? O.objs.size=zo { cls:=.type "tuple",data:=.seq #[e.key,e.val] }:=by rw[e2,<- z1];exact E6 _ rfl
 have k2:∀ b o,b≠it->O.get? b=zo o->h2.get? b=zo o:=λb o B q=>by rw[e2];exact O4 _ (k1.extBut b o B q)
 show aF _ _ (Builtin.Dict_items.ownedTupleIsFree (.ref it) >>= _) _ _ ⟨h1.push _,g,dr,Y,os⟩;rw[show h1.push { cls:=.type "tuple",data:=.seq #[e.key,e.val] }=h2 from e2.symm,z1];clear e2 e1 k1 J z1;unfold Builtin.Dict_items.ownedTupleIsFree;refine aC (aC (aU i2 rfl (x:=.none) rfl (wpAny_pure ?_)));simp only[if_true];refine aC (aU i2 rfl (x:=ok) rfl (aC (aU i2 rfl (x:=Z) rfl ?_)));refine aC (ay i2 (by simp) λh3 e3 k3=>?_)
 refine aC (ay e3 (by simp) λh4 e4 k4=>?_)
 refine aC (ay e4 (by simp) λh5 e5 k5=>?_)
 refine aC (ay e5 (by simp) λh6 e6 k6=>?_)
 have kk:∀ b o,b≠it->h2.get? b=zo o->h6.get? b=zo o:=λb o B q=>k6.extBut b o B (k5.extBut b o B (k4.extBut b o B (k3.extBut b o B q)))
 exact aC (wpAny_letGo (wpAny_pure (wpAny_pure ⟨_,rfl,wpAny_pure (hQ h6 e6 (kk _ _ (bj lt) t2) λb o B q=>kk b o B (k2 b o B q))⟩)))
end
def Qwx(a:aB)(o:Obj)(kvs:List (HK × V)):It:=
 ⟨λi H=>H a=zo (.frz o (.dT kvs))/\i < kvs.length,λi H x H'=>∃ p kv kx,H p=zl/\x=.ref p/\kvs[i]?=zo kv/\KR H kv.1 kx/\H'=upd H p (.tup [kx,kv.2]),λi H=>H a=zo (.frz o (.dT kvs))/\kvs.length<=i⟩
theorem Q31 {w:aJ} {o:Obj} {I:List (HK × V)} (ok:HOk P w H h) (e:H a=zo (.frz o (.dT I))) (hd:o.data=.dict es ep) :
  (a == aZ)=zb/\RawD h a es ep/\aq (λ(p:HK × V) (u:DictEntry)=>(∃ v,KR H p.1 v/\RelV v u.key)/\RelV p.2 u.val) I es.toList:=by
 obtain⟨Y,hz,hs,xs,O,o',a1,a2,B,hx,J,Z,U⟩:=ok a _ e;rw[Y]at B;cases B;rw[hd]at J;cases J;refine⟨hs,⟨o,Y,hx,hd⟩,?_⟩;rw[Z];clear Z hz U e hd
 induction O with
 | nil=>exact .nil
 | cons hr _ ih=>exact .cons ⟨hr.2.1,hr.2.2⟩ ih
theorem Q7s {P:aM} {w:aJ} {K:bS} {elts:List aH} {k:Nat} {pos:Pos} (a it:aB) (o:Obj) (O:List (HK × V)) (hd:o.data=.dict es ep) :
  Turn P w K (.Tuple elts k pos) (Qwx a o O) [it] it (λi h=>∃ ok Z,IsItemIter h it a i O.length ep ok Z) where
 mem:=by simp
 obj:=λi h st b hb=>by
  have e:b=it:=by simpa using hb
  subst e;obtain⟨ok,Z,U⟩:=st;exact⟨_,U,λv q=>by cases q⟩
 keep:=λi h h' st kk=>by
  obtain⟨ok,Z,U⟩:=st;exact⟨ok,Z,kk it (by simp) _ U⟩
 item:=by
  intro X hP hw hK hc i pins s σ H E I hf st hg;subst hP hw hK;obtain⟨hx,hl⟩:=hg;obtain⟨ok,Z,U⟩:=st;obtain⟨hs,hr,hp⟩:=Q31 I.hok hx hd;have J:O.length=es.size:=by have:=Paired.length hp;simpa using this
  obtain⟨u,hu,⟨kx,kr,rk⟩,ru⟩:=Paired.get hp (O2 hl);rw[J]at U;refine Qa8 U hr (by rw[<- cX];exact hu) λh' ho hT a6=>⟨_,rfl,?_⟩
  refine wpAny_letOwnedTupleGo_items (s:={ s with heap:=h' }) ho λa2 a4 Y=>?_
  have elt:it < s.heap.objs.size:=E3 U;have a3:H s.heap.objs.size=zl:=I.fresh;have I1:Inv X pins σ H { s with heap:=a2 }:=I.turnedL (t':=s.toks) (its:=[it]) (λc o B q=>(Y.2 c (λz=>B (by simp[z]))).trans (a6 c o (λz=>B (by simp[z])) q)) λc B=>hf c B
  have a1:a2.get? s.heap.objs.size=zo { cls:=.type "tuple",data:=.seq #[u.key,u.val] }:=(Y.2 _ (bj elt)).trans hT;have I2:=I.tracks (xs:=[kx,O[i].2]) (its:=[u.key,u.val]) I1 (O9 _) a3 (.cons rk (.cons ru .nil)) (by simp only[E5,M7];rw[sizeLine_eq];decide) ⟨_,a1,rfl,0,rfl⟩;rw[<- J]at a4;refine⟨.ref s.heap.objs.size,_,I2,rfl,⟨s.heap.objs.size,O[i],kx,a3,rfl,O2 hl,kr,rfl⟩,⟨_,_,a4⟩,λc B=>?_⟩
  have:=(hf c B).1;have a5:c < s.heap.objs.size:=by simp at B;rw[B];exact elt
  rw[Qc (F7 a5)];exact this
 done:=by
  intro X hP hw hK hc i pins s σ H E I hf st hg;subst hP hw hK;obtain⟨hx,hl⟩:=hg;obtain⟨ok,Z,U⟩:=st;obtain⟨hs,hr,hp⟩:=Q31 I.hok hx hd;have J:O.length=es.size:=by have:=Paired.length hp;simpa using this
  obtain⟨f0,f1,f2,f3,f4,f5⟩:=hf it (by simp);rw[J]at U;exact Qdw (I.ok.hd hc) U hr (by rw[fG];omega) λh' eb=>⟨rfl,I.turned (t':=s.toks) (λb o hb e=>eb b o hb e) f0 f1 f3 f4 f5⟩
 self:=λA i s Q E st h=>by
  obtain⟨ok,Z,U⟩:=st;have hT:s.TypeIs (.ref it) "dict_itemiterator" := ⟨_,U,rfl⟩;refine wpAny_pyIter_slot hT F.slot_dict_itemiterator_iter (aa F.slot_dict_itemiterator_iter hT zr ?_ (F.args_dict_itemiterator_iter_1 _));show aF _ _ (ret (.ref it)) _ _ s;exact wpAny_pure ⟨_,rfl, "dict_itemiterator",_,hT,F.slot_dict_itemiterator_next.lookup,h⟩
def Qmz(X:Cx)(tl:TE):TI:=λσ H R=>tl σ H λx H1=>∃ a kvs,x=.ref a/\H1 a=zo (.dT kvs)/\∀ o,Qd6 X a->R (Qwx a o kvs) (upd H1 a (.frz o (.dT kvs)))
theorem Qe5 {elts:List aH} {k:Nat} {tp pos:Pos} (hl:PE X l tl) (O:bB l "items" X.env (aL l X.env)=aL l X.env) (J:(apos.endLine == pos.line)=zi) :
  PI X (.Tuple elts k tp) (.Call (.Attribute l "items" apos) [] [] pos) (Qmz X tl):=by
 intro pins s σ H R I h;refine wpAny_Call_method (T := "dict") (id := "dict.items") O rfl J F.plainAttrs_dict F.slot_dict_items F.type_dict_items (thn (hl pins s σ H _ I h) λv s1 ⟨x,H1,U,r1,q1⟩=>?_)
 obtain⟨a,B,rfl,ea,q⟩:=q1;cases r1;obtain⟨z,hs,xs,Z,o,es,ep,Y,hx,hd,he,hn⟩:=U.hok a _ ea;have hr:RawD s1.heap a es ep:=⟨o,Y,hx,hd⟩;have a1:es.size=B.length:=by
  rw[<- bt,he,O0,<- Paired.length Z]
 obtain⟨t1,t2,_⟩:=Qb0 U (show IsD H1 a from .inr ⟨B,.inl ea⟩);refine⟨t1,t2,?_⟩;show aF _ _ (callWith pos (.builtin "dict.items") [.ref a] [] []) _ _ s1;refine method_meetsIn F.slot_dict_items F.entry_dict_items rfl (gD ⟨rfl,hr.typeIs,F.args_dict_items_1 _,_,Qdv a hs,⟨es,ep,hr⟩,?_⟩);have hv:(s1.heap.push { cls:=.type "dict_items",data:=.fields #[.ref a] }).IsItemsView s1.heap.objs.size a:=⟨_,E6 _ rfl,rfl,rfl⟩;refine Qa7 (s:={ s1 with heap:=s1.heap.push { cls:=.type "dict_items",data:=.fields #[.ref a] } }) hv (hr.at λo e=>O4 _ e) ?_;have hsz:(s1.heap.push { cls:=.type "dict_items",data:=.fields #[.ref a] }).objs.size=s1.heap.objs.size + 1:=G9 _ _;have a3:s1.heap.objs.size + 1≠a:=bj (cD (E3 Y));have a2:H1 (s1.heap.objs.size + 1)=zl:=U.hok.fresh (cE _);have keep:∀ b u,s1.heap.get? b=zo u->((s1.heap.push { cls:=.type "dict_items",data:=.fields #[.ref a] }).push { cls:=.type "dict_itemiterator",data:=.fields #[.none,.bool zb,.ref a,.int 0 0,.int es.size 0,.int ep 0,.none,.none] }).get? b=zo u:=λb u e=>O4 _ (O4 _ e)
 refine⟨s1.heap.objs.size + 1,[s1.heap.objs.size + 1],_,_,upd H1 a (.frz o (.dT B)),by rw[<- hsz],U.write (t':=s1.toks) (x:=a) (e:=a) (by rw[ea];trivial) (.inl rfl) (λb u _ e=>keep b u e) ⟨o,keep a o Y⟩ ⟨keep a o Y,z,hs,xs,Paired.mapP Z λp q y=>⟨y.1,?_,y.2.2⟩,o,es,ep,keep a o Y,hx,hd,he,hn⟩,
  Q7s a _ o B hd,⟨.none,.none,?_⟩,λb hb=>?_,q o (U.noFrzT ea)⟩
 ·obtain⟨u,k1,k2⟩:=y.2.1;exact⟨u,k1.keep λc ys ec=>by rw[Qc (λz=>by rw[z,ea]at ec;cases ec)];exact ec,k2⟩
 ·show((s1.heap.push { cls:=.type "dict_items",data:=.fields #[.ref a] }).push { cls:=.type "dict_itemiterator",data:=.fields #[.none,.bool zb,.ref a,.int 0 0,.int es.size 0,.int ep 0,.none,.none] }).get? (s1.heap.objs.size + 1)=_;rw[<- hsz,<- a1];exact E6 _ rfl
 ·have e:b=s1.heap.objs.size + 1:=by simpa using hb
  subst e;exact U.fpOk (cE _) (by rw[Qc a3];exact a2)
end L2
namespace Sm
open PySem PySem.Spec L2
variable{H H':Hp}{p a:aB}{o:HO}{hs:List aB}{v:V}{vs:List V}{κ:Type}{σ:St}{e:aH}{es:List aH}{f:aA->aA->Sem aA}{Q:Bool->Hp->Prop}{D:Ends}
section
inductive PV where
 | non | bl (b:Bool) | int (i:Int) | str (x:Str) | tup (xs:List PV) | lst (xs:List PV) | fro (xs:List PV) | ref (i:Nat) | dic
variable{ps:List PV}
inductive Cell where
 | lst (xs:List PV) | dic (kvs:List (Key × PV)) | dtp (kvs:List (HK × PV)) | frd (kvs:List (Key × PV)) | frt (kvs:List (HK × PV))
 | obj (C:aB) (fs:List (Str × PV))
variable{cl:Cell}
abbrev Q1:=List Cell
variable{st:Q1}
structure Exc where
 cls:Str
 fs:Option (Str × PV):=zl
inductive Res(α:Type) where
 | ok (a:α) (st:Q1) | exc (x:Exc) (st:Q1) | stuck
abbrev Gam:=List (Option PV)
variable{Γ:Gam}{m:Gam->Q1->Res Bool}
abbrev ME:=Gam->Q1->Res PV
structure Tk where
 tr:List aB
 hid:List aB
variable{ρ:Tk}{P:Bool->Q1->Hp->Tk->Prop}
instance:Membership aB Tk:=⟨λt a=>a∈t.tr\/a∈t.hid⟩
def Tk.nil:Tk:=⟨[],[]⟩
theorem Tk.not_nil(a:aB):a∉Tk.nil:=λz=>by rcases z with z | z <;> cases z
def Tk.add(t:Tk)(p:aB):Tk:=⟨t.tr ++ [p],t.hid⟩
def Tk.hide(t:Tk)(p:aB):Tk:=⟨t.tr,p :: t.hid⟩
mutual
def Rep(H:Hp)(ρ:Tk):PV->V->Prop
 | .non,v=>v=.non
 | .bl b,v=>v=.bl b
 | .int i,v=>v=.int i
 | .str x,v=>v=.str x
 | .tup ps,v=>∃ a vs,v=.ref a/\H a=zo (.tup vs)/\a∉ρ/\RepL H ρ ps vs
 | .lst ps,v=>∃ a vs,v=.ref a/\H a=zo (.lst vs)/\a∉ρ/\RepL H ρ ps vs
 | .fro ps,v=>∃ a vs,v=.ref a/\Rd H a (.lst vs)/\a∉ρ/\RepL H ρ ps vs
 | .ref i,v=>∃ a,ρ.tr[i]?=zo a/\v=.ref a
 | .dic,v=>∃ a,v=.ref a/\H a=zo (.dK [])/\a∉ρ
def RepL(H:Hp)(ρ:Tk):List PV->List V->Prop
 | [],vs=>vs=[]
 | p :: ps,vs=>∃ v r,vs=v :: r/\Rep H ρ p v/\RepL H ρ ps r
end
structure Ext(H:Hp)(ρ:Tk)(H':Hp)(ρ':Tk):Prop where
 pre:ρ.tr <+: ρ'.tr
 hidM:∀ a,a∈ρ.hid->a∈ρ'.hid
 hidN:∀ a,a∈ρ'.hid->a∈ρ.hid\/H a=zl
 keep:∀ a o,H a=zo o->a∉ρ.tr->H' a=zo o
 new:∀ a,a∈ρ'.tr->a∈ρ.tr\/H a=zl
 old:∀ a o,H a=zo o->∃ o',H' a=zo o'
 frz:∀ a o u,H a=zo (.frz o u)->H' a=zo (.frz o u)
theorem Ext.refl(H:Hp)(ρ:Tk):Ext H ρ H ρ:=⟨cp _,λ_ h=>h,λ_ h=>.inl h,λ_ _ h _=>h,λ_ h=>.inl h,λ_ o h=>⟨o,h⟩,λ_ _ _ h=>h⟩
theorem Ext.trans{H1 H2:Hp}{ρ1 B:Tk}(a:Ext H ρ H1 ρ1)(b:Ext H1 ρ1 H2 B):Ext H ρ H2 B where
 pre:=a.pre.trans b.pre
 hidM:=λx h=>b.hidM x (a.hidM x h)
 hidN:=λx h=>by
  rcases b.hidN x h with z | z
  ·exact a.hidN x z
  ·right
   cases q:H x with
   | none=>rfl
   | some o=>
    obtain⟨o',e⟩:=a.old x o q;rw[e]at z;cases z
 keep:=λx o h n=>b.keep x o (a.keep x o h n) λz=>by
  rcases a.new x z with z | z
  ·exact n z
  ·rw[h]at z;cases z
 new:=λx h=>by
  rcases b.new x h with z | z
  ·exact a.new x z
  ·right
   cases q:H x with
   | none=>rfl
   | some o=>
    obtain⟨o',e⟩:=a.old x o q;rw[e]at z;cases z
 old:=λx o h=>by
  obtain⟨o',e⟩:=a.old x o h;exact b.old x o' e
 frz:=λx o u h=>b.frz x o u (a.frz x o u h)
theorem Ext.add(h:H p=zl):Ext H ρ (upd H p o) ρ where
 pre:=cp _
 hidM:=λ_ h=>h
 hidN:=λ_ h=>.inl h
 keep:=λa u e _=>by rw[Qc (Qg e h)];exact e
 new:=λa e=>.inl e
 old:=λa u e=>⟨u,by rw[Qc (Qg e h)];exact e⟩
 frz:=λa o u e=>by rw[Qc (Qg e h)];exact e
theorem Ext.addT(h:H p=zl):Ext H ρ (upd H p o) (ρ.add p) where
 pre:=cq _ _
 hidM:=λ_ h=>h
 hidN:=λ_ h=>.inl h
 keep:=λa u e _=>by rw[Qc (Qg e h)];exact e
 new:=λa e=>by
  rcases D4.mp e with z | z
  ·exact .inl z
  ·right
   have:a=p:=by simpa using z
   rw[this];exact h
 old:=λa u e=>⟨u,by rw[Qc (Qg e h)];exact e⟩
 frz:=λa o u e=>by rw[Qc (Qg e h)];exact e
theorem Ext.same(h:Same H H'):Ext H ρ H' ρ:=⟨cp _,λ_ h=>h,λ_ h=>.inl h,λa o e _=>h a o e,λ_ e=>.inl e,λa o e=>⟨o,h a o e⟩,λa o u e=>h a _ e⟩
section
variable{H H':Hp}{ρ ρ':Tk}
theorem Km(x:Ext H ρ H' ρ')(h:H a=zo o)(n:a∉ρ):a∉ρ':=λz=>by
 rcases z with z | z
 ·rcases x.new a z with z | z
  ·exact n (.inl z)
  ·rw[h]at z;cases z
 ·rcases x.hidN a z with z | z
  ·exact n (.inr z)
  ·rw[h]at z;cases z
theorem Ext.kp(x:Ext H ρ H' ρ')(h:H a=zo o)(n:a∉ρ):H' a=zo o:=x.keep a o h λz=>n (.inl z)
mutual
theorem Rep.ext(x:Ext H ρ H' ρ'):∀ {p:PV} {v:V},Rep H ρ p v->Rep H' ρ' p v
 | .non,_,h=>h
 | .bl _,_,h=>h
 | .int _,_,h=>h
 | .str _,_,h=>h
 | .tup ps,v,h=>by
  obtain⟨a,vs,e,s,n,r⟩:=h;exact⟨a,vs,e,x.kp s n,Km x s n,RepL.ext x r⟩
 | .lst ps,v,h=>by
  obtain⟨a,vs,e,s,n,r⟩:=h;exact⟨a,vs,e,x.kp s n,Km x s n,RepL.ext x r⟩
 | .fro ps,v,h=>by
  obtain⟨a,vs,e,s,n,r⟩:=h;rcases s with s | ⟨o,s⟩
  ·exact⟨a,vs,e,.inl (x.kp s n),Km x s n,RepL.ext x r⟩
  ·exact⟨a,vs,e,.inr ⟨o,x.kp s n⟩,Km x s n,RepL.ext x r⟩
 | .ref i,v,h=>by
  obtain⟨a,e,rfl⟩:=h;obtain⟨t,B⟩:=x.pre;refine⟨a,?_,rfl⟩;rw[<- B,O3 (O1.mp e).1];exact e
 | .dic,v,h=>by
  obtain⟨a,e,s,n⟩:=h;exact⟨a,e,x.kp s n,Km x s n⟩
theorem RepL.ext(x:Ext H ρ H' ρ'):∀ {ps:List PV} {vs:List V},RepL H ρ ps vs->RepL H' ρ' ps vs
 | [],_,h=>h
 | p :: ps,vs,h=>by
  obtain⟨v,r,e,h1,h2⟩:=h;exact⟨v,r,e,Rep.ext x h1,RepL.ext x h2⟩
end
mutual
theorem Rep.hide{a:aB}{o:HO}(h:H a=zl):∀ {p:PV} {v:V},Rep H ρ p v->Rep (upd H a o) (ρ.hide a) p v
 | .non,_,r=>r
 | .bl _,_,r=>r
 | .int _,_,r=>r
 | .str _,_,r=>r
 | .tup ps,v,⟨b,vs,e,s,n,r⟩=>⟨b,vs,e,by rw [Qc (Qg s h)]; exact s,λz=>by
   rcases z with z | z
   ·exact n (.inl z)
   ·rcases E2.mp z with z | z
    ·exact Qg s h z
    ·exact n (.inr z),RepL.hide h r⟩
 | .lst ps,v,⟨b,vs,e,s,n,r⟩=>⟨b,vs,e,by rw [Qc (Qg s h)]; exact s,λz=>by
   rcases z with z | z
   ·exact n (.inl z)
   ·rcases E2.mp z with z | z
    ·exact Qg s h z
    ·exact n (.inr z),RepL.hide h r⟩
 | .fro ps,v,⟨b,vs,e,s,n,r⟩=>by
   have ne:b≠a:=by
    rcases s with s | ⟨_,s⟩
    ·exact Qg s h
    ·exact Qg s h
   refine⟨b,vs,e,?_,λz=>?_,RepL.hide h r⟩
   ·rcases s with s | ⟨u,s⟩
    ·exact .inl (by rw[Qc ne];exact s)
    ·exact .inr ⟨u,by rw[Qc ne];exact s⟩
   ·rcases z with z | z
    ·exact n (.inl z)
    ·rcases E2.mp z with z | z
     ·exact ne z
     ·exact n (.inr z)
 | .ref i,v,r=>r
 | .dic,v,⟨b,e,s,n⟩=>⟨b,e,by rw [Qc (Qg s h)]; exact s,λz=>by
   rcases z with z | z
   ·exact n (.inl z)
   ·rcases E2.mp z with z | z
    ·exact Qg s h z
    ·exact n (.inr z)⟩
theorem RepL.hide{a:aB}{o:HO}(h:H a=zl):∀ {ps:List PV} {vs:List V},RepL H ρ ps vs->RepL (upd H a o) (ρ.hide a) ps vs
 | [],_,r=>r
 | p :: ps,_,⟨v,t,e,B,I⟩=>⟨v,t,e,Rep.hide h B,RepL.hide h I⟩
end
mutual
theorem Rep.rehide{a:aB}{o:HO}(h:a∈ρ.hid):∀ {p:PV} {v:V},Rep H ρ p v->Rep (upd H a o) ρ p v
 | .non,_,r=>r
 | .bl _,_,r=>r
 | .int _,_,r=>r
 | .str _,_,r=>r
 | .tup ps,v,⟨b,vs,e,s,n,r⟩=>⟨b,vs,e,by rw[Qc (show b≠a from λz=>n (.inr (by rw[z];exact h)))];exact s,n,RepL.rehide h r⟩
 | .lst ps,v,⟨b,vs,e,s,n,r⟩=>⟨b,vs,e,by rw[Qc (show b≠a from λz=>n (.inr (by rw[z];exact h)))];exact s,n,RepL.rehide h r⟩
 | .fro ps,v,⟨b,vs,e,s,n,r⟩=>by
   have ne:b≠a:=λz=>n (.inr (by rw[z];exact h))
   refine⟨b,vs,e,?_,n,RepL.rehide h r⟩;rcases s with s | ⟨u,s⟩
   ·exact .inl (by rw[Qc ne];exact s)
   ·exact .inr ⟨u,by rw[Qc ne];exact s⟩
 | .ref i,v,r=>r
 | .dic,v,⟨b,e,s,n⟩=>⟨b,e,by rw[Qc (show b≠a from λz=>n (.inr (by rw[z];exact h)))];exact s,n⟩
theorem RepL.rehide{a:aB}{o:HO}(h:a∈ρ.hid):∀ {ps:List PV} {vs:List V},RepL H ρ ps vs->RepL (upd H a o) ρ ps vs
 | [],_,r=>r
 | p :: ps,_,⟨v,t,e,B,I⟩=>⟨v,t,e,Rep.rehide h B,RepL.rehide h I⟩
end
mutual
theorem Rep.retr{a:aB}{o:HO}(h:a∈ρ.tr):∀ {p:PV} {v:V},Rep H ρ p v->Rep (upd H a o) ρ p v
 | .non,_,r=>r
 | .bl _,_,r=>r
 | .int _,_,r=>r
 | .str _,_,r=>r
 | .tup ps,v,⟨b,vs,e,s,n,r⟩=>⟨b,vs,e,by rw[Qc (show b≠a from λz=>n (.inl (by rw[z];exact h)))];exact s,n,RepL.retr h r⟩
 | .lst ps,v,⟨b,vs,e,s,n,r⟩=>⟨b,vs,e,by rw[Qc (show b≠a from λz=>n (.inl (by rw[z];exact h)))];exact s,n,RepL.retr h r⟩
 | .fro ps,v,⟨b,vs,e,s,n,r⟩=>by
   have ne:b≠a:=λz=>n (.inl (by rw[z];exact h))
   refine⟨b,vs,e,?_,n,RepL.retr h r⟩;rcases s with s | ⟨u,s⟩
   ·exact .inl (by rw[Qc ne];exact s)
   ·exact .inr ⟨u,by rw[Qc ne];exact s⟩
 | .ref i,v,r=>r
 | .dic,v,⟨b,e,s,n⟩=>⟨b,e,by rw[Qc (show b≠a from λz=>n (.inl (by rw[z];exact h)))];exact s,n⟩
theorem RepL.retr{a:aB}{o:HO}(h:a∈ρ.tr):∀ {ps:List PV} {vs:List V},RepL H ρ ps vs->RepL (upd H a o) ρ ps vs
 | [],_,r=>r
 | p :: ps,_,⟨v,t,e,B,I⟩=>⟨v,t,e,Rep.retr h B,RepL.retr h I⟩
end
mutual
theorem Rep.unhide{hs:List aB}(B:∀ a,a∈hs->a∈ρ.hid):∀ {p:PV} {v:V},Rep H ρ p v->Rep H ⟨ρ.tr,hs⟩ p v
 | .non,_,r=>r
 | .bl _,_,r=>r
 | .int _,_,r=>r
 | .str _,_,r=>r
 | .tup ps,v,⟨b,vs,e,s,n,r⟩=>⟨b,vs,e,s,λz=>n (z.imp id (B _)),RepL.unhide B r⟩
 | .lst ps,v,⟨b,vs,e,s,n,r⟩=>⟨b,vs,e,s,λz=>n (z.imp id (B _)),RepL.unhide B r⟩
 | .fro ps,v,⟨b,vs,e,s,n,r⟩=>⟨b,vs,e,s,λz=>n (z.imp id (B _)),RepL.unhide B r⟩
 | .ref i,v,r=>r
 | .dic,v,⟨b,e,s,n⟩=>⟨b,e,s,λz=>n (z.imp id (B _))⟩
theorem RepL.unhide{hs:List aB}(B:∀ a,a∈hs->a∈ρ.hid):∀ {ps:List PV} {vs:List V},RepL H ρ ps vs->RepL H ⟨ρ.tr,hs⟩ ps vs
 | [],_,r=>r
 | p :: ps,_,⟨v,t,e,I,J⟩=>⟨v,t,e,Rep.unhide B I,RepL.unhide B J⟩
end
theorem RepL.length:∀ {ps:List PV} {vs:List V},RepL H ρ ps vs->ps.length=vs.length
 | [],_,h=>by cases h;rfl
 | p :: ps,_,⟨v,r,rfl,_,h2⟩=>by rw[E5,E5,RepL.length h2]
theorem RepL.get:∀ {ps:List PV} {vs:List V} {i:Nat} {p:PV},RepL H ρ ps vs->ps[i]?=zo p->∃ v,vs[i]?=zo v/\Rep H ρ p v
 | [],_,_,_,_,e=>by simp at e
 | p :: ps,_,0,q,⟨v,r,rfl,h1,h2⟩,e=>by simp at e;subst e;exact⟨v,rfl,h1⟩
 | p :: ps,_,i + 1,q,⟨v,r,rfl,h1,h2⟩,e=>by
  obtain⟨u,e1,e2⟩:=RepL.get (i:=i) h2 (by simpa using e);exact⟨u,by simpa using e1,e2⟩
theorem RepL.cons{p:PV}(h:Rep H ρ p v)(r:RepL H ρ ps vs):RepL H ρ (p :: ps) (v :: vs):=⟨v,vs,rfl,h,r⟩
theorem RepL.nil:RepL H ρ [] []:=rfl
theorem RepL.append:∀ {ps B:List PV} {vs us:List V},RepL H ρ ps vs->RepL H ρ B us->RepL H ρ (ps ++ B) (vs ++ us)
 | [],_,_,_,h,g=>by cases h;exact g
 | p :: ps,_,_,_,⟨v,r,rfl,h1,h2⟩,g=>⟨v,_,rfl,h1,RepL.append h2 g⟩
theorem RepL.take:∀ {ps:List PV} {vs:List V} (n:Nat),RepL H ρ ps vs->RepL H ρ (ps.take n) (vs.take n)
 | _,_,0,_=>rfl
 | [],_,n + 1,h=>by cases h;rfl
 | p :: ps,_,n + 1,⟨v,r,rfl,h1,h2⟩=>⟨v,_,rfl,h1,RepL.take n h2⟩
theorem RepL.drop:∀ {ps:List PV} {vs:List V} (n:Nat),RepL H ρ ps vs->RepL H ρ (ps.drop n) (vs.drop n)
 | _,_,0,h=>h
 | [],_,n + 1,h=>by cases h;rfl
 | p :: ps,_,n + 1,⟨v,r,rfl,h1,h2⟩=>RepL.drop n h2
theorem RepL.set{p:PV}(h:Rep H ρ p v):∀ {ps:List PV} {vs:List V} (i:Nat),RepL H ρ ps vs->RepL H ρ (ps.set i p) (vs.set i v)
 | [],_,_,g=>by cases g;rfl
 | q :: ps,_,0,⟨u,r,rfl,h1,h2⟩=>⟨v,r,rfl,h,h2⟩
 | q :: ps,_,i + 1,⟨u,r,rfl,h1,h2⟩=>⟨u,_,rfl,h1,RepL.set h i h2⟩
theorem RepL.reverse:∀ {ps:List PV} {vs:List V},RepL H ρ ps vs->RepL H ρ ps.reverse vs.reverse
 | [],_,g=>by cases g;rfl
 | q :: ps,_,⟨u,r,rfl,h1,h2⟩=>by rw[di,di];exact(RepL.reverse h2).append (RepL.cons h1 RepL.nil)
theorem RepL.rep(h:RepL H ρ ps vs):∀ n,RepL H ρ (bV n ps).flatten (bV n vs).flatten
 | 0=>rfl
 | n + 1=>by rw[cQ,cQ,ce,ce];exact h.append (RepL.rep h n)
theorem RepL.toInts:∀ {ns:List Int} {vs:List V},RepL H ρ (ns.map .int) vs->vs=ns.map V.int
 | [],_,h=>h
 | n :: ns,_,⟨v,r,rfl,h1,h2⟩=>by
  have e:v=V.int n:=h1;rw[RepL.toInts h2,e];rfl
theorem RepL.toBls:∀ {ns:List Bool} {vs:List V},RepL H ρ (ns.map .bl) vs->vs=ns.map V.bl
 | [],_,h=>h
 | n :: ns,_,⟨v,r,rfl,h1,h2⟩=>by
  have e:v=V.bl n:=h1;rw[RepL.toBls h2,e];rfl
end
def RepD{κ:Type}(H:Hp)(ρ:Tk)(kvs:List (κ × PV))(vs:List (κ × V)):Prop:=vs.map bU=kvs.map bU/\RepL H ρ (kvs.map bi) (vs.map bi)
theorem RepD.ext{ρ':Tk}{B:List (κ × PV)}{vs:List (κ × V)}(x:Ext H ρ H' ρ')(r:RepD H ρ B vs):RepD H' ρ' B vs:=⟨r.1,r.2.ext x⟩
theorem RepD.length{B:List (κ × PV)}{vs:List (κ × V)}(r:RepD H ρ B vs):B.length=vs.length:=by
 have:=congrArg cO r.1;rw[O0,O0]at this;exact this.symm
def CellR(H:Hp)(ρ:Tk)(a:aB):Cell->Prop
 | .lst ps=>∃ vs,H a=zo (.lst vs)/\RepL H ρ ps vs
 | .dic kvs=>∃ vs,H a=zo (.dK vs)/\RepD H ρ kvs vs
 | .dtp kvs=>∃ vs,H a=zo (.dT vs)/\RepD H ρ kvs vs
 | .frd kvs=>∃ vs,(∃ o,H a=zo (.frz o (.dK vs)))/\RepD H ρ kvs vs
 | .frt kvs=>∃ vs,(∃ o,H a=zo (.frz o (.dT vs)))/\RepD H ρ kvs vs
 | .obj C fs=>∃ vs,(∃ dx,H a=zo (.ins C dx vs))/\RepD H ρ fs vs
theorem CellR.dom:∀ {c:Cell},CellR H ρ a c->∃ o,H a=zo o
 | .lst _,⟨_,e,_⟩=>⟨_,e⟩
 | .dic _,⟨_,e,_⟩=>⟨_,e⟩
 | .dtp _,⟨_,e,_⟩=>⟨_,e⟩
 | .frd _,⟨_,⟨_,e⟩,_⟩=>⟨_,e⟩
 | .frt _,⟨_,⟨_,e⟩,_⟩=>⟨_,e⟩
 | .obj _ _,⟨_,⟨_,e⟩,_⟩=>⟨_,e⟩
theorem CellR.ext{ρ':Tk}(x:Ext H ρ H' ρ')(k:∀ o,H a=zo o->H' a=zo o):∀ {c:Cell},CellR H ρ a c->CellR H' ρ' a c
 | .lst _,⟨vs,e,r⟩=>⟨vs,k _ e,r.ext x⟩
 | .dic _,⟨vs,e,r⟩=>⟨vs,k _ e,r.ext x⟩
 | .dtp _,⟨vs,e,r⟩=>⟨vs,k _ e,r.ext x⟩
 | .frd _,⟨vs,⟨o,e⟩,r⟩=>⟨vs,⟨o,k _ e⟩,r.ext x⟩
 | .frt _,⟨vs,⟨o,e⟩,r⟩=>⟨vs,⟨o,k _ e⟩,r.ext x⟩
 | .obj _ _,⟨vs,⟨o,e⟩,r⟩=>⟨vs,⟨o,k _ e⟩,r.ext x⟩
structure Rel(H:Hp)(ρ:Tk)(st:Q1):Prop where
 len:ρ.tr.length=st.length
 nd:ρ.tr.Nodup
 hd:∀ a∈ρ.hid,∃ o,H a=zo o/\∀ xs,o≠.tup xs
 ap:∀ a∈ρ.hid,a∉ρ.tr
 cell:∀ (i:Nat) (a:aB) (c:Cell),ρ.tr[i]?=zo a->st[i]?=zo c->CellR H ρ a c
section
variable{H H':Hp}{ρ ρ':Tk}{st st':Q1}
theorem Rel.lst(R:Rel H ρ st){i:Nat}(h:st[i]?=zo (.lst ps)):∃ a vs,ρ.tr[i]?=zo a/\H a=zo (.lst vs)/\RepL H ρ ps vs:=by
 have hi:i < ρ.tr.length:=by rw[R.len];exact(O1.mp h).1
 have e:ρ.tr[i]?=zo ρ.tr[i]:=O2 hi;obtain⟨vs,e1,e2⟩:=R.cell i _ _ e h;exact⟨_,vs,e,e1,e2⟩
theorem Rel.dtp(R:Rel H ρ st){i:Nat}{B:List (HK × PV)}(h:st[i]?=zo (.dtp B)):∃ a vs,ρ.tr[i]?=zo a/\H a=zo (.dT vs)/\RepD H ρ B vs:=by
 have hi:i < ρ.tr.length:=by rw[R.len];exact(O1.mp h).1
 have e:ρ.tr[i]?=zo ρ.tr[i]:=O2 hi;obtain⟨vs,e1,e2⟩:=R.cell i _ _ e h;exact⟨_,vs,e,e1,e2⟩
theorem Rel.frt(R:Rel H ρ st){i:Nat}{B:List (HK × PV)}(h:st[i]?=zo (.frt B)):∃ a vs o,ρ.tr[i]?=zo a/\H a=zo (.frz o (.dT vs))/\RepD H ρ B vs:=by
 have hi:i < ρ.tr.length:=by rw[R.len];exact(O1.mp h).1
 have e:ρ.tr[i]?=zo ρ.tr[i]:=O2 hi;obtain⟨vs,⟨o,e1⟩,e2⟩:=R.cell i _ _ e h;exact⟨_,vs,o,e,e1,e2⟩
theorem Rel.dom(R:Rel H ρ st)(h:a∈ρ.tr):∃ o,H a=zo o:=by
 obtain⟨i,hi,e⟩:=dQ h;have hs:i < st.length:=by rw[<- R.len];exact hi
 have q:=R.cell i a st[i] (by rw[O2 hi,e]) (O2 hs);exact q.dom
theorem Rel.fresh(R:Rel H ρ st)(h:H p=zl):p∉ρ:=λz=>by
 rcases z with z | z
 ·obtain⟨vs,q⟩:=R.dom z;rw[h]at q;cases q
 ·obtain⟨o,q,_⟩:=R.hd p z;rw[h]at q;cases q
theorem Rel.later(R:Rel H ρ st)(x:Ext H ρ H' ρ)(k:∀ a o,a∈ρ.tr->H a=zo o->H' a=zo o):Rel H' ρ st where
 len:=R.len
 nd:=R.nd
 hd:=λa B=>let ⟨o,e,n⟩:=R.hd a B;⟨o,x.keep a o e (R.ap a B),n⟩
 ap:=R.ap
 cell:=λi a c h1 h2=>by
  exact(R.cell i a c h1 h2).ext x λo e=>k a o (F0 h1) e
end
theorem Rel.add(R:Rel H ρ st)(h:H p=zl):Rel (upd H p o) ρ st:=
 R.later (Ext.add h) λa u B e=>by rw[Qc (Qg e h)];exact e
theorem Rel.same(R:Rel H ρ st)(h:Same H H'):Rel H' ρ st:=R.later (Ext.same h) λa u _ e=>h a u e
theorem Rel.addC(R:Rel H ρ st)(h:H p=zl)(r:CellR (upd H p o) (ρ.add p) p cl):Rel (upd H p o) (ρ.add p) (st ++ [cl]) where
 len:=by show(ρ.tr ++ [p]).length=_;rw[O5,O5,R.len];rfl
 nd:=bx.mpr ⟨R.nd,by simp,λa B b J e=>by
  have:b=p:=by simpa using J
  subst this;subst e;exact R.fresh h (.inl B)⟩
 hd:=λa B=>let ⟨o,e,n⟩:=R.hd a B;⟨o,by rw[Qc (Qg e h)];exact e,n⟩
 ap:=λa B z=>by
  rcases D4.mp z with z | z
  ·exact R.ap a B z
  ·have:a=p:=by simpa using z
   subst this;exact R.fresh h (.inr B)
 cell:=λi a c h1 h2=>by
  have h1:(ρ.tr ++ [p])[i]?=zo a:=h1
  by_cases hi:i < st.length
  ·rw[O3 (by rw[R.len];exact hi)]at h1;rw[O3 hi]at h2;exact(R.cell i a c h1 h2).ext (Ext.addT h) λu e=>by rw[Qc (Qg e h)];exact e
  ·rw[D7 (by rw[R.len];omega)]at h1;rw[D7 (by omega)]at h2;have I:i - st.length=0:=by
    rcases fI (i - st.length)with z | z
    ·exact z
    ·rw[L7 (by simp;omega)]at h2;cases h2
   rw[R.len,I]at h1;rw[I]at h2;simp at h1 h2;subst h1;subst h2;exact r
theorem Q5d{α:Type}{l:List α}(h:l.Nodup){i j:Nat}(hi:i < l.length)(B:j < l.length)(e:l[i]=l[j]):i=j:=by
 rcases Nat.lt_trichotomy i j with z | z | z
 ·exact absurd e ((fH.mp h) i j hi B z)
 ·exact z
 ·exact absurd e.symm ((fH.mp h) j i B hi z)
theorem Ext.put{o':HO}(h:a∈ρ.tr)(e:H a=zo o)(B:∀ q u,o≠.frz q u:=by intro _ _ z;cases z):Ext H ρ (upd H a o') ρ where
 pre:=cp _
 hidM:=λ_ h=>h
 hidN:=λ_ h=>.inl h
 keep:=λb u q n=>by rw[Qc (show b≠a from λz=>n (by rw[z];exact h))];exact q
 new:=λb q=>.inl q
 old:=λb u q=>by
  by_cases z:b=a
  ·exact⟨o',by rw[z];exact Qx⟩
  ·exact⟨u,by rw[Qc z];exact q⟩
 frz:=λb q u k=>by
  by_cases z:b=a
  ·rw[z,e]at k;cases k;exact absurd rfl (B _ _)
  ·rw[Qc z];exact k
theorem Rel.putC(R:Rel H ρ st){i:Nat}{o':HO}(hi:ρ.tr[i]?=zo a)(e:H a=zo o)(r:CellR (upd H a o') ρ a cl):Rel (upd H a o') ρ (st.set i cl) where
 len:=by rw[E9];exact R.len
 nd:=R.nd
 hd:=λb B=>let ⟨u,q,n⟩:=R.hd b B;⟨u,by rw[Qc (show b≠a from λz=>R.ap b B (by rw[z];exact F0 hi))];exact q,n⟩
 ap:=R.ap
 cell:=λj b c h1 h2=>by
  by_cases O:i=j
  ·subst O;rw[hi]at h1;cases h1;rw[D5 (by rw[<- R.len];exact(O1.mp hi).1)]at h2;cases h2;exact r
  ·rw[O8 O]at h2;have q:=R.cell j b c h1 h2;have B:b≠a:=λz=>by
    subst z;have l1:=(O1.mp hi);have l2:=(O1.mp h1);exact O (Q5d R.nd l1.1 l2.1 (l1.2.trans l2.2.symm))
   have I:=F0 hi;cases c with
   | lst ps=>
    obtain⟨vs,e1,e2⟩:=q;exact⟨vs,by rw[Qc B];exact e1,e2.retr I⟩
   | dic ps=>
    obtain⟨vs,e1,e2⟩:=q;exact⟨vs,by rw[Qc B];exact e1,e2.1,e2.2.retr I⟩
   | dtp ps=>
    obtain⟨vs,e1,e2⟩:=q;exact⟨vs,by rw[Qc B];exact e1,e2.1,e2.2.retr I⟩
   | frd ps=>
    obtain⟨vs,⟨J,e1⟩,e2⟩:=q;exact⟨vs,⟨J,by rw[Qc B];exact e1⟩,e2.1,e2.2.retr I⟩
   | frt ps=>
    obtain⟨vs,⟨J,e1⟩,e2⟩:=q;exact⟨vs,⟨J,by rw[Qc B];exact e1⟩,e2.1,e2.2.retr I⟩
   | obj C ps=>
    obtain⟨vs,⟨J,e1⟩,e2⟩:=q;exact⟨vs,⟨J,by rw[Qc B];exact e1⟩,e2.1,e2.2.retr I⟩
theorem Rel.put(R:Rel H ρ st){i:Nat}(hi:ρ.tr[i]?=zo a)(e:H a=zo o)(r:RepL H ρ ps vs):Rel (upd H a (.lst vs)) ρ (st.set i (.lst ps)):=
 R.putC hi e ⟨vs,Qx,r.retr (F0 hi)⟩
theorem Rel.hide(R:Rel H ρ st)(h:H p=zl)(O:∀ xs,o≠.tup xs:=by intro _ z;cases z):Rel (upd H p o) (ρ.hide p) st:=by
 have x:Ext H ρ (upd H p o) ρ:=Ext.add h;have J:=R.add (p:=p) (o:=o) h;refine⟨J.len,J.nd,λa B=>?_,λa B z=>?_,λi a c h1 h2=>?_⟩
 ·rcases E2.mp B with rfl | B
  ·exact⟨o,Qx,O⟩
  ·exact J.hd a B
 ·rcases E2.mp B with rfl | B
  ·exact R.fresh h (.inl z)
  ·exact R.ap a B z
 ·have q:=R.cell i a c h1 h2;cases c with
  | lst ps=>
   obtain⟨vs,e1,e2⟩:=q;exact⟨vs,by rw[Qc (Qg e1 h)];exact e1,e2.hide h⟩
  | dic ps=>
   obtain⟨vs,e1,e2⟩:=q;exact⟨vs,by rw[Qc (Qg e1 h)];exact e1,e2.1,e2.2.hide h⟩
  | dtp ps=>
   obtain⟨vs,e1,e2⟩:=q;exact⟨vs,by rw[Qc (Qg e1 h)];exact e1,e2.1,e2.2.hide h⟩
  | frd ps=>
   obtain⟨vs,⟨I,e1⟩,e2⟩:=q;exact⟨vs,⟨I,by rw[Qc (Qg e1 h)];exact e1⟩,e2.1,e2.2.hide h⟩
  | frt ps=>
   obtain⟨vs,⟨I,e1⟩,e2⟩:=q;exact⟨vs,⟨I,by rw[Qc (Qg e1 h)];exact e1⟩,e2.1,e2.2.hide h⟩
  | obj C ps=>
   obtain⟨vs,⟨I,e1⟩,e2⟩:=q;exact⟨vs,⟨I,by rw[Qc (Qg e1 h)];exact e1⟩,e2.1,e2.2.hide h⟩
theorem Rel.rehide(R:Rel H ρ st)(h:p∈ρ.hid)(I:∀ xs,o≠.tup xs:=by intro _ z;cases z):Rel (upd H p o) ρ st:=by
 refine⟨R.len,R.nd,λa J=>?_,R.ap,λi a c h1 h2=>?_⟩
 ·by_cases e:a=p
  ·exact⟨o,by rw[e];exact Qx,I⟩
  ·obtain⟨u,q,n⟩:=R.hd a J;exact⟨u,by rw[Qc e];exact q,n⟩
 ·have q:=R.cell i a c h1 h2;have ne:a≠p:=λz=>R.ap p h (by rw[<- z];exact F0 h1)
  cases c with
  | lst ps=>
   obtain⟨vs,e1,e2⟩:=q;exact⟨vs,by rw[Qc ne];exact e1,e2.rehide h⟩
  | dic ps=>
   obtain⟨vs,e1,e2⟩:=q;exact⟨vs,by rw[Qc ne];exact e1,e2.1,e2.2.rehide h⟩
  | dtp ps=>
   obtain⟨vs,e1,e2⟩:=q;exact⟨vs,by rw[Qc ne];exact e1,e2.1,e2.2.rehide h⟩
  | frd ps=>
   obtain⟨vs,⟨B,e1⟩,e2⟩:=q;exact⟨vs,⟨B,by rw[Qc ne];exact e1⟩,e2.1,e2.2.rehide h⟩
  | frt ps=>
   obtain⟨vs,⟨B,e1⟩,e2⟩:=q;exact⟨vs,⟨B,by rw[Qc ne];exact e1⟩,e2.1,e2.2.rehide h⟩
  | obj C ps=>
   obtain⟨vs,⟨B,e1⟩,e2⟩:=q;exact⟨vs,⟨B,by rw[Qc ne];exact e1⟩,e2.1,e2.2.rehide h⟩
theorem Rel.unhide(B:∀ a,a∈hs->a∈ρ.hid)(R:Rel H ρ st):Rel H ⟨ρ.tr,hs⟩ st:=by
 refine⟨R.len,R.nd,λa I=>R.hd a (B a I),λa I=>R.ap a (B a I),λi a c h1 h2=>?_⟩;have q:=R.cell i a c h1 h2;cases c with
 | lst ps=>
  obtain⟨vs,e1,e2⟩:=q;exact⟨vs,e1,RepL.unhide B e2⟩
 | dic ps=>
  obtain⟨vs,e1,e2⟩:=q;exact⟨vs,e1,e2.1,RepL.unhide B e2.2⟩
 | dtp ps=>
  obtain⟨vs,e1,e2⟩:=q;exact⟨vs,e1,e2.1,RepL.unhide B e2.2⟩
 | frd ps=>
  obtain⟨vs,e1,e2⟩:=q;exact⟨vs,e1,e2.1,RepL.unhide B e2.2⟩
 | frt ps=>
  obtain⟨vs,e1,e2⟩:=q;exact⟨vs,e1,e2.1,RepL.unhide B e2.2⟩
 | obj C ps=>
  obtain⟨vs,e1,e2⟩:=q;exact⟨vs,e1,e2.1,RepL.unhide B e2.2⟩
theorem Ext.hide(h:H p=zl):Ext H ρ (upd H p o) (ρ.hide p) where
 pre:=cp _
 hidM:=λ_ h=>O6 _ h
 hidN:=λa B=>by
  rcases E2.mp B with rfl | B
  ·exact .inr h
  ·exact .inl B
 keep:=λa u e _=>by rw[Qc (Qg e h)];exact e
 new:=λa e=>.inl e
 old:=λa u e=>⟨u,by rw[Qc (Qg e h)];exact e⟩
 frz:=λa o u e=>by rw[Qc (Qg e h)];exact e
theorem Ext.put0{H1:Hp}{ρ1:Tk}(x:Ext H ρ H1 ρ1)(h:H p=zl):Ext H ρ (upd H1 p o) ρ1 where
 pre:=x.pre
 hidM:=x.hidM
 hidN:=x.hidN
 keep:=λa u e n=>by rw[Qc (Qg e h)];exact x.keep a u e n
 new:=x.new
 old:=λa u e=>by rw[Qc (Qg e h)];exact x.old a u e
 frz:=λa o u e=>by rw[Qc (Qg e h)];exact x.frz a o u e
theorem Ext.unhide{H1:Hp}{ρ1:Tk}(x:Ext H ρ H1 ρ1):Ext H ρ H1 ⟨ρ1.tr,ρ.hid⟩ where
 pre:=x.pre
 hidM:=λ_ h=>h
 hidN:=λ_ h=>.inl h
 keep:=x.keep
 new:=x.new
 old:=x.old
 frz:=x.frz
def EnvR(H:Hp)(ρ:Tk)(Γ:Gam)(σ:St):Prop:=Γ.length=σ.length/\∀ (i:Nat) (p:PV),Γ[i]?=zo (zo p)->∃ v,σ[i]?=zo (zo v)/\Rep H ρ p v
theorem EnvR.ext{ρ':Tk}(x:Ext H ρ H' ρ')(h:EnvR H ρ Γ σ):EnvR H' ρ' Γ σ:=
 ⟨h.1,λi p e=>let ⟨v,a,b⟩:=h.2 i p e;⟨v,a,b.ext x⟩⟩
theorem EnvR.hide(n:H a=zl)(h:EnvR H ρ Γ σ):EnvR (upd H a o) (ρ.hide a) Γ σ:=⟨h.1,λi p e=>let ⟨v,a,b⟩:=h.2 i p e;⟨v,a,b.hide n⟩⟩
theorem EnvR.rehide(n:a∈ρ.hid)(h:EnvR H ρ Γ σ):EnvR (upd H a o) ρ Γ σ:=⟨h.1,λi p e=>let ⟨v,a,b⟩:=h.2 i p e;⟨v,a,b.rehide n⟩⟩
theorem EnvR.retr(n:a∈ρ.tr)(h:EnvR H ρ Γ σ):EnvR (upd H a o) ρ Γ σ:=⟨h.1,λi p e=>let ⟨v,a,b⟩:=h.2 i p e;⟨v,a,b.retr n⟩⟩
theorem EnvR.set{p:PV}(h:EnvR H ρ Γ σ)(r:Rep H ρ p v)(i:Nat):EnvR H ρ (Γ.set i (zo p)) (σ.set i (zo v)):=by
 refine⟨by rw[E9,E9];exact h.1,λj q e=>?_⟩;rw[dy]at e;rw[dy]
 by_cases I:i=j
 ·subst I;simp only[if_true]at e ⊢
  by_cases B:i < Γ.length
  ·rw[bO B]at e;cases e;rw[bO (by rw[<- h.1];exact B)];exact⟨v,rfl,r⟩
  ·rw[bP B]at e;cases e
 ·rw[bP I]at e ⊢;exact h.2 j q e
end
def Res.bind{α β:Type}(r:Res α)(f:α->Q1->Res β):Res β:=match r with
 | .ok a st=>f a st
 | .exc x st=>.exc x st
 | .stuck=>.stuck
def okO{α:Type}(st:Q1):Option α->Res α
 | some a=>.ok a st
 | none=>.stuck
section
variable(X:Cx)
def WE(e:aH):TE:=λσ H Q=>∀ (pins:zAA) (s:aD),Inv X pins σ H s->aF (aI X.prog X.w) X.A (aL e X.env) (EP X pins σ Q) X.xe s
def WT(e:aH):TT:=λσ H Q=>∀ (pins:zAA) (s:aD),Inv X pins σ H s->aF (aI X.prog X.w) X.A (isTrue e X.env (aL e X.env)) (TP X pins σ Q) X.xe s
def WW(e:aH):TT:=λσ H Q=>∀ (wh:Sem aA) (pins:zAA) (s:aD),Inv X pins σ H s->aF (aI X.prog X.w) X.A (isTrue e X.env wh) (TP X pins σ Q) X.xe s
def WA(es:List aH):TA:=λσ H Q=>∀ (pos:Pos) (pins:zAA) (s:aD),Inv X pins σ H s->aF (aI X.prog X.w) X.A (spliced (aY pos (aN es X.env))) (AP X pins σ Q) X.xe s
def WS(st:aK):TS:=λD σ H=>∀ (pins:zAA) (s:aD),Inv X pins σ H s->aF (aI X.prog X.w) X.A (exec st X.env) (SP X pins D) X.xe s
def WB(st:List aK):TS:=λD σ H=>∀ (pins:zAA) (s:aD),Inv X pins σ H s->aF (aI X.prog X.w) X.A (execs st X.env) (SP X pins D) X.xe s
def WI (tg iter : aH) : TI := λσ H R => ∀ (pins : zAA) (s : aD), Inv X pins σ H s ->
  aF (aI X.prog X.w) X.A (aL iter X.env) (λv s1=>aF (aI X.prog X.w) X.A (pyIter v) (PIE X pins σ tg R) X.xe s1) X.xe s
def WO(f:aA->aA->Sem aA):R2:=λx y H Q=>∀ (pins:zAA) (s:aD) (σ:St) (v u:aA),Inv X pins σ H s->RelV x v->RelV y u->aF (aI X.prog X.w) X.A (f v u) (EP X pins σ Q) X.xe s
def WC(f:aA):List V->Hp->VK->Prop:=λxs H Q=>∀ (pins:zAA) (s:aD) (σ:St) (us:List aA),Inv X pins σ H s->Vals xs us->aF (aI X.prog X.w) X.A (call f us) (EP X pins σ Q) X.xe s
end
variable{X:Cx}
theorem Ji:PE X e (WE X e):=λpins s _ _ _ I h=>h pins s I
theorem Q6n:PT X e (WT X e):=λpins s _ _ _ I h=>h pins s I
theorem Qut:PW X e (WW X e):=λB pins s _ _ _ I h=>h B pins s I
theorem Q1u:PA X es (WA X es):=λpos pins s _ _ _ I h=>h pos pins s I
theorem Quv{st:aK}:PS X st (WS X st):=λpins s _ _ _ I h=>h pins s I
theorem Q35{st:List aK}:PSs X st (WB X st):=λpins s _ _ _ I h=>h pins s I
theorem Qkz{tg iter:aH}:PI X tg iter (WI X tg iter):=λpins s _ _ _ I h=>h pins s I
theorem Qac:OpR X f (WO X f):=λpins s σ _ _ _ v u _ I B J h=>h pins s σ v u I B J
theorem Qiy{f:aA}:Uk X f (WC X f):=λpins s σ _ _ us _ I r h=>h pins s σ us I r
theorem WE.of{t:TE}{Q:VK}(h:PE X e t)(q:t σ H Q):WE X e σ H Q:=λpins s I=>h pins s σ H Q I q
theorem WT.of{t:TT}(h:PT X e t)(q:t σ H Q):WT X e σ H Q:=λpins s I=>h pins s σ H Q I q
theorem WW.of{t:TT}(h:PW X e t)(q:t σ H Q):WW X e σ H Q:=λB pins s I=>h B pins s σ H Q I q
theorem WA.of{t:TA}{Q:List V->Hp->Prop}(h:PA X es t)(q:t σ H Q):WA X es σ H Q:=λpos pins s I=>h pos pins s σ H Q I q
theorem WS.of{st:aK}{t:TS}(h:PS X st t)(q:t D σ H):WS X st D σ H:=λpins s I=>h pins s σ H D I q
theorem WB.of{st:List aK}{t:TS}(h:PSs X st t)(q:t D σ H):WB X st D σ H:=λpins s I=>h pins s σ H D I q
theorem WI.of{tg iter:aH}{t:TI}{R:It->Hp->Prop}(h:PI X tg iter t)(q:t σ H R):WI X tg iter σ H R:=λpins s I=>h pins s σ H R I q
theorem WO.of{r:R2}{x y:V}{Q:VK}(h:OpR X f r)(q:r x y H Q):WO X f x y H Q:=λpins s σ v u I B J=>h pins s σ H x y v u Q I B J q
theorem WC.of{f:aA}{r:List V->Hp->VK->Prop}{xs:List V}{Q:VK}(h:Uk X f r)(q:r xs H Q):WC X f xs H Q:=λpins s σ us I B=>h pins s σ H xs us Q I B q
def XFs(H:Hp)(ρ:Tk):Option (Str × PV)->Option aB->Prop
 | none,dv=>dv=zl
 | some (n,p),dv=>∃ dx v,dv=zo dx/\H dx=zo (.xd [(n,v)])/\dx∉ρ/\Rep H ρ p v
def Acc{α:Type}(mg:zAD)(E:XK)(H:Hp)(ρ:Tk)(P:α->Q1->Hp->Tk->Prop):Res α->Prop
 | .ok a st=>∀ H' ρ',Ext H ρ H' ρ'->Rel H' ρ' st->P a st H' ρ'
 | .exc x st=>∀ C dv H' ρ',mg x.cls=zo (.ref C)->Ext H ρ H' ρ'->Rel H' ρ' st->XFs H' ρ' x.fs dv->E (.ref C) dv H'
 | .stuck=>False
variable{α β:Type}{mg:zAD}{E:XK}{H H1:Hp}{ρ ρ1:Tk}
theorem Acc.mono{P J:α->Q1->Hp->Tk->Prop}{r:Res α}(h:Acc mg E H ρ P r)(x:Ext H ρ H1 ρ1)(k:∀ a st H' ρ',P a st H' ρ'->J a st H' ρ'):Acc mg E H1 ρ1 J r:=by
 cases r with
 | ok a st=>exact λH' ρ' I B=>k _ _ _ _ (h H' ρ' (x.trans I) B)
 | exc e st=>exact λC O H' ρ' m I B f=>h C O H' ρ' m (x.trans I) B f
 | stuck=>exact h
theorem Acc.later{P:α->Q1->Hp->Tk->Prop}{r:Res α}(h:Acc mg E H ρ P r)(x:Ext H ρ H1 ρ1):Acc mg E H1 ρ1 P r:=h.mono x λ_ _ _ _ p=>p
theorem Acc.bind{P:β->Q1->Hp->Tk->Prop}{r:Res α}{f:α->Q1->Res β}(h:Acc mg E H ρ P (r.bind f)):Acc mg E H ρ (λa B H1 ρ1=>Acc mg E H1 ρ1 P (f a B)) r:=by
 cases r with
 | ok a st=>exact λH' ρ' I J=>Acc.later (show Acc mg E H ρ P (f a st)from h) I
 | exc e st=>exact h
 | stuck=>exact h
abbrev QV(Q:VK):PV->Q1->Hp->Tk->Prop:=λp _ H' ρ'=>∀ v,Rep H' ρ' p v->Q v H'
abbrev QL(Q:List V->Hp->Prop):List PV->Q1->Hp->Tk->Prop:=λps _ H' ρ'=>∀ vs,RepL H' ρ' ps vs->Q vs H'
abbrev QB(Q:Bool->Hp->Prop):Bool->Q1->Hp->Tk->Prop:=λb _ H' _=>Q b H'
structure SimE(X:Cx)(E:XK)(e:aH)(m:ME):Prop where
 run:∀ (Γ:Gam) (σ:St) (H:Hp) (ρ:Tk) (st:Q1) (Q:VK),Rel H ρ st->EnvR H ρ Γ σ->Acc X.mg E H ρ (QV Q) (m Γ st)->WE X e σ H Q
structure SimT(X:Cx)(E:XK)(e:aH)(m:Gam->Q1->Res Bool):Prop where
 run:∀ (Γ:Gam) (σ:St) (H:Hp) (ρ:Tk) (st:Q1) (Q:Bool->Hp->Prop),Rel H ρ st->EnvR H ρ Γ σ->Acc X.mg E H ρ (QB Q) (m Γ st)->WT X e σ H Q
structure SimW(X:Cx)(E:XK)(e:aH)(m:Gam->Q1->Res Bool):Prop where
 run:∀ (Γ:Gam) (σ:St) (H:Hp) (ρ:Tk) (st:Q1) (Q:Bool->Hp->Prop),Rel H ρ st->EnvR H ρ Γ σ->Acc X.mg E H ρ (QB Q) (m Γ st)->WW X e σ H Q
structure SimA(X:Cx)(E:XK)(es:List aH)(m:Gam->Q1->Res (List PV)):Prop where
 run:∀ (Γ:Gam) (σ:St) (H:Hp) (ρ:Tk) (st:Q1) (Q:List V->Hp->Prop),Rel H ρ st->EnvR H ρ Γ σ->Acc X.mg E H ρ (QL Q) (m Γ st)->WA X es σ H Q
abbrev OP:=Q1->PV->PV->Res PV
structure OpS(X:Cx)(E:XK)(f:aA->aA->Sem aA)(o:OP):Prop where
 run:∀ (H:Hp) (ρ:Tk) (st:Q1) (p q:PV) (x y:V) (Q:VK),Rel H ρ st->Rep H ρ p x->Rep H ρ q y->Acc X.mg E H ρ (QV Q) (o st p q)->WO X f x y H Q
abbrev CF:=Q1->List PV->Res PV
structure CallS(X:Cx)(E:XK)(f:aA)(o:CF):Prop where
 run:∀ (H:Hp) (ρ:Tk) (st:Q1) (ps:List PV) (xs:List V) (Q:VK),Rel H ρ st->RepL H ρ ps xs->Acc X.mg E H ρ (QV Q) (o st ps)->WC X f xs H Q
variable{Γ:Gam}{σ:St}{st:Q1}
theorem SimE.use {m:ME} (s:SimE X E e m) {P:PV->Q1->Hp->Tk->Prop} {Q:VK} (R:Rel H ρ st) (G:EnvR H ρ Γ σ) (h:Acc X.mg E H ρ P (m Γ st))
  (k:∀ p B H1 ρ1 v,Ext H ρ H1 ρ1->Rel H1 ρ1 B->EnvR H1 ρ1 Γ σ->Rep H1 ρ1 p v->P p B H1 ρ1->Q v H1):WE X e σ H Q:=by
 refine s.run Γ σ H ρ st Q R G ?_;cases r:m Γ st with
 | ok p B=>rw[r]at h;exact λH' ρ' I J v O=>k p B H' ρ' v I J (G.ext I) O (h H' ρ' I J)
 | exc e st=>rw[r]at h;exact h
 | stuck=>rw[r]at h;exact h
theorem SimE.use' {m:ME} (s:SimE X E e m) {P:PV->Q1->Hp->Tk->Prop} {Q:VK} (R:Rel H ρ st) (G:EnvR H ρ Γ σ) (h:Acc X.mg E H ρ P (m Γ st))
  (k:∀ p B H1 ρ1 v,m Γ st=.ok p B->Ext H ρ H1 ρ1->Rel H1 ρ1 B->EnvR H1 ρ1 Γ σ->Rep H1 ρ1 p v->P p B H1 ρ1->Q v H1):WE X e σ H Q:=by
 refine s.run Γ σ H ρ st Q R G ?_;cases r:m Γ st with
 | ok p B=>rw[r]at h;exact λH' ρ' I J v O=>k p B H' ρ' v r I J (G.ext I) O (h H' ρ' I J)
 | exc e st=>rw[r]at h;exact h
 | stuck=>rw[r]at h;exact h
theorem SimA.use' {m:Gam->Q1->Res (List PV)} (s:SimA X E es m) {P:List PV->Q1->Hp->Tk->Prop} {Q:List V->Hp->Prop} (R:Rel H ρ st) (G:EnvR H ρ Γ σ) (h:Acc X.mg E H ρ P (m Γ st))
  (k:∀ ps B H1 ρ1 vs,m Γ st=.ok ps B->Ext H ρ H1 ρ1->Rel H1 ρ1 B->EnvR H1 ρ1 Γ σ->RepL H1 ρ1 ps vs->P ps B H1 ρ1->Q vs H1):WA X es σ H Q:=by
 refine s.run Γ σ H ρ st Q R G ?_;cases r:m Γ st with
 | ok p B=>rw[r]at h;exact λH' ρ' I J v O=>k p B H' ρ' v r I J (G.ext I) O (h H' ρ' I J)
 | exc e st=>rw[r]at h;exact h
 | stuck=>rw[r]at h;exact h
theorem SimT.use {m:Gam->Q1->Res Bool} (s:SimT X E e m) {P:Bool->Q1->Hp->Tk->Prop} {Q:Bool->Hp->Prop} (R:Rel H ρ st) (G:EnvR H ρ Γ σ) (h:Acc X.mg E H ρ P (m Γ st))
  (k:∀ p B H1 ρ1,Ext H ρ H1 ρ1->Rel H1 ρ1 B->EnvR H1 ρ1 Γ σ->P p B H1 ρ1->Q p H1):WT X e σ H Q:=by
 refine s.run Γ σ H ρ st Q R G ?_;cases r:m Γ st with
 | ok p B=>rw[r]at h;exact λH' ρ' I J=>k p B H' ρ' I J (G.ext I) (h H' ρ' I J)
 | exc e st=>rw[r]at h;exact h
 | stuck=>rw[r]at h;exact h
theorem SimT.use' {m:Gam->Q1->Res Bool} (s:SimT X E e m) {P:Bool->Q1->Hp->Tk->Prop} {Q:Bool->Hp->Prop} (R:Rel H ρ st) (G:EnvR H ρ Γ σ) (h:Acc X.mg E H ρ P (m Γ st))
  (k:∀ p B H1 ρ1,m Γ st=.ok p B->Ext H ρ H1 ρ1->Rel H1 ρ1 B->EnvR H1 ρ1 Γ σ->P p B H1 ρ1->Q p H1):WT X e σ H Q:=by
 refine s.run Γ σ H ρ st Q R G ?_;cases r:m Γ st with
 | ok p B=>rw[r]at h;exact λH' ρ' I J=>k p B H' ρ' r I J (G.ext I) (h H' ρ' I J)
 | exc e st=>rw[r]at h;exact h
 | stuck=>rw[r]at h;exact h
theorem SimW.use {m:Gam->Q1->Res Bool} (s:SimW X E e m) {P:Bool->Q1->Hp->Tk->Prop} {Q:Bool->Hp->Prop} (R:Rel H ρ st) (G:EnvR H ρ Γ σ) (h:Acc X.mg E H ρ P (m Γ st))
  (k:∀ p B H1 ρ1,Ext H ρ H1 ρ1->Rel H1 ρ1 B->EnvR H1 ρ1 Γ σ->P p B H1 ρ1->Q p H1):WW X e σ H Q:=by
 refine s.run Γ σ H ρ st Q R G ?_;cases r:m Γ st with
 | ok p B=>rw[r]at h;exact λH' ρ' I J=>k p B H' ρ' I J (G.ext I) (h H' ρ' I J)
 | exc e st=>rw[r]at h;exact h
 | stuck=>rw[r]at h;exact h
theorem SimA.use {m:Gam->Q1->Res (List PV)} (s:SimA X E es m) {P:List PV->Q1->Hp->Tk->Prop} {Q:List V->Hp->Prop} (R:Rel H ρ st) (G:EnvR H ρ Γ σ) (h:Acc X.mg E H ρ P (m Γ st))
  (k:∀ ps B H1 ρ1 vs,Ext H ρ H1 ρ1->Rel H1 ρ1 B->EnvR H1 ρ1 Γ σ->RepL H1 ρ1 ps vs->P ps B H1 ρ1->Q vs H1):WA X es σ H Q:=by
 refine s.run Γ σ H ρ st Q R G ?_;cases r:m Γ st with
 | ok p B=>rw[r]at h;exact λH' ρ' I J v O=>k p B H' ρ' v I J (G.ext I) O (h H' ρ' I J)
 | exc e st=>rw[r]at h;exact h
 | stuck=>rw[r]at h;exact h
theorem OpS.use {o:OP} (s:OpS X E f o) {P:PV->Q1->Hp->Tk->Prop} {Q:VK} {p q:PV} {x y:V} (R:Rel H ρ st) (O:Rep H ρ p x) (U:Rep H ρ q y) (h:Acc X.mg E H ρ P (o st p q))
  (k:∀ p B H1 ρ1 v,Ext H ρ H1 ρ1->Rel H1 ρ1 B->Rep H1 ρ1 p v->P p B H1 ρ1->Q v H1):WO X f x y H Q:=by
 refine s.run H ρ st p q x y Q R O U ?_;cases r:o st p q with
 | ok p B=>rw[r]at h;exact λH' ρ' I J v Y=>k p B H' ρ' v I J Y (h H' ρ' I J)
 | exc e st=>rw[r]at h;exact h
 | stuck=>rw[r]at h;exact h
end Sm
namespace Sm
open PySem PySem.Spec L2 SeqAt
variable{n:Nat}{ps:List PV}
mutual
def peq:PV->PV->Bool
 | .non,.non=>zi
 | .bl a,.bl b=>a == b
 | .bl a,.int b=>(if a then 1 else 0) == b
 | .int a,.bl b=>a == (if b then 1 else 0)
 | .int a,.int b=>a == b
 | .str a,.str b=>a == b
 | .tup xs,.tup ys=>peqL xs ys
 | .lst xs,.lst ys=>peqL xs ys
 | .lst xs,.fro ys=>peqL xs ys
 | .fro xs,.lst ys=>peqL xs ys
 | .fro xs,.fro ys=>peqL xs ys
 | _,_=>zb
def peqL:List PV->List PV->Bool
 | [],[]=>zi
 | x :: xs,y :: ys=>peq x y && peqL xs ys
 | _,_=>zb
end
def J0:Nat->PV->Bool
 | _,.ref _=>zb
 | _,.dic=>zb
 | 0,.tup _=>zb
 | 0,.lst _=>zb
 | 0,.fro _=>zb
 | n + 1,.tup xs=>xs.all (J0 n)
 | n + 1,.lst xs=>xs.all (J0 n)
 | n + 1,.fro xs=>xs.all (J0 n)
 | _,_=>zi
theorem Q38:∀ {xs ys:List PV},xs.length≠ys.length->peqL xs ys=zb
 | [],[],h=>absurd rfl h
 | [],_ :: _,_=>by simp[peqL]
 | _ :: _,[],_=>by simp[peqL]
 | x :: xs,y :: ys,h=>by
  rw[peqL,Q38 (xs:=xs) (ys:=ys) λe=>h (by simp[e]),eZ]
theorem Q39:∀ {xs ys:List PV},xs.length=ys.length->peqL xs ys=(bT xs.length).all λj=>peq (xs.getD j .non) (ys.getD j .non)
 | [],[],_=>by simp[peqL]
 | [],_ :: _,h=>by simp at h
 | _ :: _,[],h=>by simp at h
 | x :: xs,y :: ys,h=>by
  rw[peqL,Q39 (xs:=xs) (ys:=ys) (by simpa using h),E5,fD,bp,cA];rfl
variable{X:Cx}{pins:zAA}{σ:St}{H:Hp}{s:aD}{ρ:Tk}
mutual
theorem Q84:∀ {p q:PV} {x:V} {n:Nat},J0 n p=zi->J0 n q=zi->Rep H ρ p x->Rep H ρ q x->peq p q=zi
 | .non,q,x,n,_,J,h1,h2=>by
  cases h1;cases q <;> first | rfl | (cases n <;> cases J;done) | (cases h2;done) | (obtain⟨_,_,e,_⟩:=h2;cases e) | (obtain⟨_,_,e⟩:=h2;cases e)
 | .bl b,q,x,n,_,J,h1,h2=>by
  cases h1;cases q <;> first | (cases n <;> cases J;done) | (cases h2;simp[peq];done) | (obtain⟨_,_,e,_⟩:=h2;done) | (obtain⟨_,_,e,_⟩:=h2;cases e;done) | (obtain⟨_,_,e⟩:=h2;cases e)
 | .int b,q,x,n,_,J,h1,h2=>by
  cases h1;cases q <;> first | (cases n <;> cases J;done) | (cases h2;simp[peq];done) | (obtain⟨_,_,e,_⟩:=h2;done) | (obtain⟨_,_,e,_⟩:=h2;cases e;done) | (obtain⟨_,_,e⟩:=h2;cases e)
 | .str b,q,x,n,_,J,h1,h2=>by
  cases h1;cases q <;> first | (cases n <;> cases J;done) | (cases h2;simp[peq];done) | (obtain⟨_,_,e,_⟩:=h2;done) | (obtain⟨_,_,e,_⟩:=h2;cases e;done) | (obtain⟨_,_,e⟩:=h2;cases e)
 | .tup ps,q,x,0,O,_,_,_=>by cases O
 | .tup ps,q,x,n + 1,O,J,⟨a,vs,e,I,_,r⟩,h2=>by
  subst e;cases q with
  | tup Y=>
   obtain⟨b,us,e,B,_,U⟩:=h2;cases e;rw[I]at B;cases B;rw[peq];exact repL_same O J r U
  | lst Y=>obtain⟨b,us,e,B,_⟩:=h2;cases e;rw[I]at B;cases B
  | fro Y=>obtain⟨b,us,e,B,_⟩:=h2;cases e;rcases B with B | ⟨o,B⟩ <;> (rw[I]at B;cases B)
  | ref i=>cases J
  | dic=>cases J
  | _=>cases h2
 | .lst ps,q,x,0,O,_,_,_=>by cases O
 | .lst ps,q,x,n + 1,O,J,⟨a,vs,e,I,_,r⟩,h2=>by
  subst e;cases q with
  | lst Y=>
   obtain⟨b,us,e,B,_,U⟩:=h2;cases e;rw[I]at B;cases B;rw[peq];exact repL_same O J r U
  | tup Y=>obtain⟨b,us,e,B,_⟩:=h2;cases e;rw[I]at B;cases B
  | fro Y=>
   obtain⟨b,us,e,B,_,U⟩:=h2;cases e;rcases B with B | ⟨o,B⟩
   ·rw[I]at B;cases B;rw[peq];exact repL_same O J r U
   ·rw[I]at B;cases B
  | ref i=>cases J
  | dic=>cases J
  | _=>cases h2
 | .fro ps,q,x,0,O,_,_,_=>by cases O
 | .fro ps,q,x,n + 1,O,J,⟨a,vs,e,I,_,r⟩,h2=>by
  subst e;cases q with
  | lst Y=>
   obtain⟨b,us,e,B,_,U⟩:=h2;cases e;rcases I with I | ⟨o,I⟩
   ·rw[I]at B;cases B;rw[peq];exact repL_same O J r U
   ·rw[I]at B;cases B
  | tup Y=>obtain⟨b,us,e,B,_⟩:=h2;cases e;rcases I with I | ⟨o,I⟩ <;> (rw[I]at B;cases B)
  | fro Y=>
   obtain⟨b,us,e,B,_,U⟩:=h2;cases e;have:vs=us:=by
    rcases I with I | ⟨o,I⟩ <;> rcases B with B | ⟨o',B⟩ <;> (rw[I]at B;cases B) <;> rfl
   subst this;rw[peq];exact repL_same O J r U
  | ref i=>cases J
  | dic=>cases J
  | _=>cases h2
 | .ref i,_,_,n,O,_,_,_=>by cases n <;> cases O
 | .dic,_,_,n,O,_,_,_=>by cases n <;> cases O
theorem repL_same:∀ {ps B:List PV} {vs:List V} {n:Nat},ps.all (J0 n)=zi->B.all (J0 n)=zi->RepL H ρ ps vs->RepL H ρ B vs->peqL ps B=zi
 | [],B,vs,n,_,_,h1,h2=>by
  cases h1;cases B with
  | nil=>rfl
  | cons q B=>obtain⟨_,_,e,_⟩:=h2;cases e
 | p :: ps,B,vs,n,J,g2,⟨v,r,e,h1,O⟩,h2=>by
  subst e;cases B with
  | nil=>cases h2
  | cons q B=>
   obtain⟨_,_,e,h2,I⟩:=h2;cases e;rw[bp,L9]at J g2;rw[peqL,Q84 J.1 g2.1 h1 h2,repL_same J.2 g2.2 O I];rfl
end
inductive Kd(H:Hp)(ρ:Tk)(s:aD):PV->aA->Prop where
 | non:Kd H ρ s .non .none
 | bl (b):Kd H ρ s (.bl b) (.bool b)
 | int (i t):Kd H ρ s (.int i) (.int i t)
 | str (x t):Kd H ρ s (.str x) (.str x t)
 | tup (ps a) (vs:List V) (its:List aA):H a=zo (.tup vs)->RepL H ρ ps vs->Vals vs its->s.heap.IsTuple a its.toArray->Kd H ρ s (.tup ps) (.ref a)
 | lst (p ps a) (vs:List V) (its:List aA):(p=.lst ps\/p=.fro ps)->RepL H ρ ps vs->Vals vs its->s.heap.IsList a its.toArray->Kd H ρ s p (.ref a)
theorem Qcq{p:PV}{x:V}{u:aA}(I:Inv X pins σ H s)(g:J0 n p=zi)(r:Rep H ρ p x)(B:RelV x u):Kd H ρ s p u:=by
 cases p with
 | non=>cases r;cases B;exact .non
 | bl b=>cases r;cases B;exact .bl b
 | int i=>cases r;obtain⟨t,rfl⟩:=B;exact .int i t
 | str i=>cases r;obtain⟨t,rfl⟩:=B;exact .str i t
 | tup ps=>
  obtain⟨a,vs,rfl,J,_,Y⟩:=r;cases B;obtain⟨its,O,U,_⟩:=I.tuple (SqT.of (K:=X.K) J);exact .tup ps a vs its J Y O U
 | lst ps=>
  obtain⟨a,vs,rfl,J,_,Y⟩:=r;cases B;obtain⟨its,O,U,_⟩:=I.list (SqL.of (K:=X.K) J);exact .lst _ ps a vs its (.inl rfl) Y O U.isList
 | fro ps=>
  obtain⟨a,vs,rfl,J,_,Y⟩:=r;cases B;obtain⟨its,O,U,_⟩:=I.list (show SqL X.K H a vs from .inl J);exact .lst _ ps a vs its (.inr rfl) Y O U.isList
 | ref i=>cases n <;> cases g
 | dic=>cases n <;> cases g
theorem Q2a{vs:List V}{its:List aA}(r:RepL H ρ ps vs)(v:Vals vs its){j:Nat}(h:j < its.length):∃ x,Rep H ρ (ps.getD j .non) x/\RelV x its[j]:=by
 have l1:=r.length;have l2:=v.length;have B:j < ps.length:=by omega
 obtain⟨x,e1,e2⟩:=r.get (O2 B);obtain⟨u,e3,I⟩:=v.get e1;rw[O2 h]at e3;cases e3;refine⟨x,?_,I⟩;rw[ci,O2 B];exact e2
theorem zc(g:ps.all (J0 n)=zi)(j:Nat)(B:j < ps.length):J0 n (ps.getD j .non)=zi:=by
 rw[ci,O2 B];exact(G8.mp g) _ (F9 B)
theorem Qab{B:List PV}:((bT (min ps.length B.length)).all (λj=>peq (ps.getD j .non) (B.getD j .non)) && ps.length == B.length)=peqL ps B:=by
 by_cases e:ps.length=B.length
 ·rw[Q39 e,<- e,Nat.min_self,beq_self_eq_true,gr]
 ·rw[Q38 e,beq_eq_false_iff_ne.mpr e,eZ]
theorem Q99:∀ (n:Nat) {A:aQ} {p q:PV} {x y:V} {u v:aA},Inv X pins σ H s->J0 n p=zi->J0 n q=zi->A.units + n < aP->Rep H ρ p x->RelV x u->Rep H ρ q y->RelV y v ->
  EqAt A s u v (peq p q)/\RcAt A s u v (peq p q)/\RcNeAt A s u v (!peq p q):=by
 intro n
 induction n with
 | zero=>
  intro A p q x y u v I gp U hu rp ru rq rv;have k1:=Qcq I gp rp ru;have k2:=Qcq I U rq rv;have hu:A.units < aP:=by omega
  cases k1 with
  | tup=>cases gp
  | lst p ps a vs its h=>rcases h with rfl | rfl <;> cases gp
  | non=>cases k2 with
   | tup=>cases U
   | lst p ps a vs its h=>rcases h with rfl | rfl <;> cases U
   | non=>exact⟨EqAt.same _,RcAt.none_none,RcNeAt.none_none⟩
   | bl b=>exact⟨EqAt.none_bool _,RcAt.none_bool _,RcNeAt.none_bool _⟩
   | int i t=>exact⟨EqAt.none_int _ _,RcAt.none_int _ _,RcNeAt.none_int _ _⟩
   | str i t=>exact⟨EqAt.none_str _ _,RcAt.none_str _ _,RcNeAt.none_str _ _⟩
  | bl a=>cases k2 with
   | tup=>cases U
   | lst p ps a vs its h=>rcases h with rfl | rfl <;> cases U
   | non=>exact⟨EqAt.bool_none _,RcAt.bool_none _,RcNeAt.bool_none _⟩
   | bl b=>exact⟨EqAt.bool_bool _ _,RcAt.bool_bool _ _,RcNeAt.bool_bool _ _⟩
   | int i t=>exact⟨EqAt.bool_int _ _ _,RcAt.bool_int _ _ _,RcNeAt.bool_int _ _ _⟩
   | str i t=>exact⟨EqAt.bool_str _ _ _,RcAt.bool_str _ _ _,RcNeAt.bool_str _ _ _⟩
  | int a a4=>cases k2 with
   | tup=>cases U
   | lst p ps a vs its h=>rcases h with rfl | rfl <;> cases U
   | non=>exact⟨EqAt.int_none _ _,RcAt.int_none _ _,RcNeAt.int_none _ _⟩
   | bl b=>exact⟨EqAt.int_bool _ _ _,RcAt.int_bool _ _ _,RcNeAt.int_bool _ _ _⟩
   | int i t=>exact⟨EqAt.int_int _ _ _ _,RcAt.int_int _ _ _ _,RcNeAt.int_int _ _ _ _⟩
   | str i t=>exact⟨EqAt.int_str _ _ _ _,RcAt.int_str _ _ _ _,RcNeAt.int_str _ _ _ _⟩
  | str a a4=>cases k2 with
   | tup=>cases U
   | lst p ps a vs its h=>rcases h with rfl | rfl <;> cases U
   | non=>exact⟨EqAt.str_none _ _,RcAt.str_none _ _,RcNeAt.str_none _ _⟩
   | bl b=>exact⟨EqAt.str_bool _ _ _,RcAt.str_bool _ _ _,RcNeAt.str_bool _ _ _⟩
   | int i t=>exact⟨EqAt.str_int _ _ _ _,RcAt.str_int _ _ _ _,RcNeAt.str_int _ _ _ _⟩
   | str i t=>exact⟨EqAt.str_str _ _ _ _,RcAt.str_str _ _ _ _,RcNeAt.str_str _ _ _ _⟩
 | succ n ih=>
  intro A p q x y u v I gp U hu rp ru rq rv;have k1:=Qcq I gp rp ru;have k2:=Qcq I U rq rv;have B:A.units < aP:=by omega
  have a5:A.in1.units + n < aP:=by show A.units + 1 + n < aP;omega
  cases k1 with
  | non=>cases k2 with
   | non=>exact⟨EqAt.same _,RcAt.none_none,RcNeAt.none_none⟩
   | bl b=>exact⟨EqAt.none_bool _,RcAt.none_bool _,RcNeAt.none_bool _⟩
   | int i t=>exact⟨EqAt.none_int _ _,RcAt.none_int _ _,RcNeAt.none_int _ _⟩
   | str i t=>exact⟨EqAt.none_str _ _,RcAt.none_str _ _,RcNeAt.none_str _ _⟩
   | tup ps a vs its ha r Z J=>exact⟨EqAt.none_tuple J B,RcAt.none_tuple J B,RcNeAt.none_tuple J B⟩
   | lst p ps a vs its h r Z J=>rcases h with rfl | rfl <;> exact⟨EqAt.none_list J B,RcAt.none_list J B,RcNeAt.none_list J B⟩
  | bl a=>cases k2 with
   | non=>exact⟨EqAt.bool_none _,RcAt.bool_none _,RcNeAt.bool_none _⟩
   | bl b=>exact⟨EqAt.bool_bool _ _,RcAt.bool_bool _ _,RcNeAt.bool_bool _ _⟩
   | int i t=>exact⟨EqAt.bool_int _ _ _,RcAt.bool_int _ _ _,RcNeAt.bool_int _ _ _⟩
   | str i t=>exact⟨EqAt.bool_str _ _ _,RcAt.bool_str _ _ _,RcNeAt.bool_str _ _ _⟩
   | tup ps a vs its ha r Z J=>exact⟨EqAt.bool_tuple _ J B,RcAt.bool_tuple _ J B,RcNeAt.bool_tuple _ J B⟩
   | lst p ps a vs its h r Z J=>rcases h with rfl | rfl <;> exact⟨EqAt.bool_list _ J B,RcAt.bool_list _ J B,RcNeAt.bool_list _ J B⟩
  | int a a4=>cases k2 with
   | non=>exact⟨EqAt.int_none _ _,RcAt.int_none _ _,RcNeAt.int_none _ _⟩
   | bl b=>exact⟨EqAt.int_bool _ _ _,RcAt.int_bool _ _ _,RcNeAt.int_bool _ _ _⟩
   | int i t=>exact⟨EqAt.int_int _ _ _ _,RcAt.int_int _ _ _ _,RcNeAt.int_int _ _ _ _⟩
   | str i t=>exact⟨EqAt.int_str _ _ _ _,RcAt.int_str _ _ _ _,RcNeAt.int_str _ _ _ _⟩
   | tup ps a vs its ha r Z J=>exact⟨EqAt.int_tuple _ _ J B,RcAt.int_tuple _ _ J B,RcNeAt.int_tuple _ _ J B⟩
   | lst p ps a vs its h r Z J=>rcases h with rfl | rfl <;> exact⟨EqAt.int_list _ _ J B,RcAt.int_list _ _ J B,RcNeAt.int_list _ _ J B⟩
  | str a a4=>cases k2 with
   | non=>exact⟨EqAt.str_none _ _,RcAt.str_none _ _,RcNeAt.str_none _ _⟩
   | bl b=>exact⟨EqAt.str_bool _ _ _,RcAt.str_bool _ _ _,RcNeAt.str_bool _ _ _⟩
   | int i t=>exact⟨EqAt.str_int _ _ _ _,RcAt.str_int _ _ _ _,RcNeAt.str_int _ _ _ _⟩
   | str i t=>exact⟨EqAt.str_str _ _ _ _,RcAt.str_str _ _ _ _,RcNeAt.str_str _ _ _ _⟩
   | tup ps a vs its ha r Z J=>exact⟨EqAt.str_tuple _ _ J B,RcAt.str_tuple _ _ J B,RcNeAt.str_tuple _ _ J B⟩
   | lst p ps a vs its h r Z J=>rcases h with rfl | rfl <;> exact⟨EqAt.str_list _ _ J B,RcAt.str_list _ _ J B,RcNeAt.str_list _ _ J B⟩
  | tup ps a vs its ha r Z J=>cases k2 with
   | non=>exact⟨EqAt.tuple_none J B,RcAt.tuple_none J B,RcNeAt.tuple_none J B⟩
   | bl b=>exact⟨EqAt.tuple_bool _ J B,RcAt.tuple_bool _ J B,RcNeAt.tuple_bool _ J B⟩
   | int i t=>exact⟨EqAt.tuple_int _ _ J B,RcAt.tuple_int _ _ J B,RcNeAt.tuple_int _ _ J B⟩
   | str i t=>exact⟨EqAt.tuple_str _ _ J B,RcAt.tuple_str _ _ J B,RcNeAt.tuple_str _ _ J B⟩
   | tup Y b us O hb r2 v2 p2=>
    have l1:its.toArray.size=ps.length:=by rw[D0,<- Z.length,r.length]
    have l2:O.toArray.size=Y.length:=by rw[D0,<- v2.length,r2.length]
    have he:∀ j (h1:j < its.toArray.size) (h2:j < O.toArray.size),EqAt A.in1 s its.toArray[j] O.toArray[j] (peq (ps.getD j .non) (Y.getD j .non)):=λj h1 h2=>by
     obtain⟨x1,a1,b1⟩:=Q2a r Z (j:=j) (by simpa using h1);obtain⟨x2,a2,b2⟩:=Q2a r2 v2 (j:=j) (by simpa using h2);exact(ih I (zc gp j (by omega)) (zc U j (by omega)) a5 a1 b1 a2 b2).1
    have rc:=RcAt.tuples J p2 B he;have rn:=RcNeAt.tuples J p2 B he;rw[l1,l2,Qab]at rc rn;refine⟨?_,rc,rn⟩
    by_cases e:a=b
    ·subst e;have:peqL ps Y=zi:=by
      rw[ha]at hb;cases hb;exact repL_same gp U r r2
     show EqAt A s _ _ (peqL ps Y);rw[this];exact EqAt.same _
    ·exact EqAt.of_refs e rc
   | lst q Y b us O h r2 v2 p2=>rcases h with rfl | rfl <;> exact⟨EqAt.tuple_list J p2 B,RcAt.tuple_list J p2 B,RcNeAt.tuple_list J p2 B⟩
  | lst p ps a vs its h r Z J=>cases k2 with
   | non=>rcases h with rfl | rfl <;> exact⟨EqAt.list_none J B,RcAt.list_none J B,RcNeAt.list_none J B⟩
   | bl b=>rcases h with rfl | rfl <;> exact⟨EqAt.list_bool _ J B,RcAt.list_bool _ J B,RcNeAt.list_bool _ J B⟩
   | int i t=>rcases h with rfl | rfl <;> exact⟨EqAt.list_int _ _ J B,RcAt.list_int _ _ J B,RcNeAt.list_int _ _ J B⟩
   | str i t=>rcases h with rfl | rfl <;> exact⟨EqAt.list_str _ _ J B,RcAt.list_str _ _ J B,RcNeAt.list_str _ _ J B⟩
   | tup Y b us O hb r2 v2 p2=>rcases h with rfl | rfl <;> exact⟨EqAt.list_tuple J p2 B,RcAt.list_tuple J p2 B,RcNeAt.list_tuple J p2 B⟩
   | lst q Y b us O h2 r2 v2 p2=>
    have l1:its.toArray.size=ps.length:=by rw[D0,<- Z.length,r.length]
    have l2:O.toArray.size=Y.length:=by rw[D0,<- v2.length,r2.length]
    have a7:ps.all (J0 n)=zi:=by rcases h with rfl | rfl <;> exact gp
    have a6:Y.all (J0 n)=zi:=by rcases h2 with rfl | rfl <;> exact U
    have ep:peq p q=peqL ps Y:=by rcases h with rfl | rfl <;> rcases h2 with rfl | rfl <;> rfl
    have he:∀ j (h1:j < its.toArray.size) (h2:j < O.toArray.size),EqAt A.in1 s its.toArray[j] O.toArray[j] (peq (ps.getD j .non) (Y.getD j .non)):=λj h1 h2=>by
     obtain⟨x1,a1,b1⟩:=Q2a r Z (j:=j) (by simpa using h1);obtain⟨x2,a2,b2⟩:=Q2a r2 v2 (j:=j) (by simpa using h2);exact(ih I (zc a7 j (by omega)) (zc a6 j (by omega)) a5 a1 b1 a2 b2).1
    rw[ep];have a3:RcAt A s (.ref a) (.ref b) (peqL ps Y)/\RcNeAt A s (.ref a) (.ref b) (!peqL ps Y):=by
     by_cases e:ps.length=Y.length
     ·have rc:=RcAt.lists J p2 (by rw[l1,l2,e]) B he;have rn:=RcNeAt.lists J p2 (by rw[l1,l2,e]) B he;rw[l1,<- Q39 e]at rc rn;exact⟨rc,rn⟩
     ·have e':(its.toArray.size != O.toArray.size)=zi:=by rw[l1,l2];simpa using e
      rw[Q38 e];exact⟨RcAt.lists_lengths J p2 e' B,RcNeAt.lists_lengths J p2 e' B⟩
    refine⟨?_,a3.1,a3.2⟩
    by_cases e:a=b
    ·subst e;have a8:peq p q=zi:=by
      have a9:=rp;have b0:=rq;have xa:x=.ref a:=by
       rcases h with rfl | rfl <;> (obtain⟨b',_,rfl,_⟩:=rp;cases ru;rfl)
      have ya:y=.ref a:=by
       rcases h2 with rfl | rfl <;> (obtain⟨b',_,rfl,_⟩:=rq;cases rv;rfl)
      subst xa;subst ya;exact Q84 gp U rp rq
     rw[<- ep,a8];exact EqAt.same _
    ·exact EqAt.of_refs e a3.1
end Sm
namespace Sm
open PySem PySem.Spec L2
variable{n j:Nat}{K:bS}{vs:List V}{mg:zAD}{E:XK}{Q:VK}{ps:List PV}{x:Str}{o:OP}{Γ:Gam}{σ:St}{P:PV->Q1->Hp->Tk->Prop}{op:CmpOp}{e:aH}
def lim:Nat:=1000000
theorem Q15:lim<=sizeLine:=by decide
theorem W5(h:n<=lim):n<=sizeLine:=F8 h Q15
def W4(st:Q1):PV->Option (List PV)
 | .lst xs=>zo xs
 | .ref i=>match st[i]? with
  | some (.lst xs)=>zo xs
  | _=>zl
 | _=>zl
def Yk(st:Q1):PV->Option (List PV)
 | .fro xs=>zo xs
 | p=>W4 st p
def Yf(st:Q1):PV->Option (List PV)
 | .tup xs=>zo xs
 | p=>Yk st p
def der(st:Q1):PV->PV
 | .ref i=>match st[i]? with
  | some (.lst xs)=>.lst xs
  | _=>.ref i
 | p=>p
variable{H:Hp}{ρ:Tk}{st:Q1}{p:PV}{v:V}{xs:List PV}
theorem yk(R:Rel H ρ st)(r:Rep H ρ p v)(e:W4 st p=zo xs):∃ a vs,v=.ref a/\H a=zo (.lst vs)/\RepL H ρ xs vs:=by
 cases p with
 | lst ys=>
  obtain⟨a,vs,e1,e2,_,e3⟩:=r;cases e;exact⟨a,vs,e1,e2,e3⟩
 | ref i=>
  obtain⟨a,e1,e2⟩:=r;simp only[W4]at e
  split at e
  ·rename_i ys hs;cases e;obtain⟨b,vs,f1,f2,f3⟩:=R.lst hs;rw[e1]at f1;cases f1;exact⟨a,vs,e2,f2,f3⟩
  ·cases e
 | _=>cases e
theorem Jg(R:Rel H ρ st)(r:Rep H ρ p v)(e:Yk st p=zo xs):∃ a vs,v=.ref a/\Rd H a (.lst vs)/\RepL H ρ xs vs:=by
 cases p with
 | fro ys=>
  obtain⟨a,vs,e1,e2,_,e3⟩:=r;cases e;exact⟨a,vs,e1,e2,e3⟩
 | _=>
  obtain⟨a,vs,e1,e2,e3⟩:=yk R r e;exact⟨a,vs,e1,.inl e2,e3⟩
theorem y4(R:Rel H ρ st)(r:Rep H ρ p v)(e:Yf st p=zo xs):∃ (t:Bool) (a:aB) (vs:List V),v=.ref a/\SqK K t H a vs/\RepL H ρ xs vs:=by
 cases p with
 | tup ys=>
  obtain⟨a,vs,e1,e2,_,e3⟩:=r;cases e;exact⟨zi,a,vs,e1,show SqT K H a vs from SqT.of e2,e3⟩
 | _=>
  obtain⟨a,vs,e1,e2,e3⟩:=Jg R r e;exact⟨zb,a,vs,e1,show SqL K H a vs from .inl e2,e3⟩
theorem Q9z{t:Bool}{a:aB}(h:SqK K t H a vs):SqL K H a vs\/SqT K H a vs:=by
 cases t with
 | true=>exact .inr h
 | false=>exact .inl h
mutual
theorem Qc0:∀ {n:Nat} {q:PV} {u:V},J0 n q=zi->Rep H ρ q u->Rep H Tk.nil q u
 | _,.non,_,_,r=>r
 | _,.bl _,_,_,r=>r
 | _,.int _,_,_,r=>r
 | _,.str _,_,_,r=>r
 | 0,.tup _,_,g,_=>by cases g
 | 0,.lst _,_,g,_=>by cases g
 | 0,.fro _,_,g,_=>by cases g
 | n + 1,.tup _,_,g,⟨a,vs,e,h,_,r⟩=>⟨a,vs,e,h,Tk.not_nil _,repL_nil g r⟩
 | n + 1,.lst _,_,g,⟨a,vs,e,h,_,r⟩=>⟨a,vs,e,h,Tk.not_nil _,repL_nil g r⟩
 | n + 1,.fro _,_,g,⟨a,vs,e,h,_,r⟩=>⟨a,vs,e,h,Tk.not_nil _,repL_nil g r⟩
 | 0,.ref _,_,g,_=>by cases g
 | _ + 1,.ref _,_,g,_=>by cases g
 | 0,.dic,_,g,_=>by cases g
 | _ + 1,.dic,_,g,_=>by cases g
theorem repL_nil:∀ {n:Nat} {B:List PV} {us:List V},B.all (J0 n)=zi->RepL H ρ B us->RepL H Tk.nil B us
 | _,[],_,_,r=>r
 | n,q :: B,_,g,⟨v,r,e,h1,h2⟩=>by
  rw[bp,L9]at g;exact⟨v,r,e,Qc0 g.1 h1,repL_nil g.2 h2⟩
end
theorem zd(R:Rel H ρ st)(g:J0 n (der st p)=zi)(r:Rep H ρ p v):Rep H Tk.nil (der st p) v:=by
 cases p with
 | ref i=>
  obtain⟨a,e1,e2⟩:=r;simp only[der]at g ⊢
  split at g
  ·rename_i ys hs;obtain⟨b,vs,f1,f2,f3⟩:=R.lst hs;rw[e1]at f1;cases f1;cases n with
   | zero=>cases g
   | succ n=>exact⟨a,vs,e2,f2,Tk.not_nil _,repL_nil g f3⟩
  ·cases n <;> cases g
 | _=>exact Qc0 g r
theorem Q03(R:Rel H ρ st)(h:Acc mg E H ρ (QV Q) (.ok (.tup ps) st))(r:RepL H ρ ps vs):∀ p,H p=zl->Q (.ref p) (upd H p (.tup vs)):=
 λp B=>h _ ρ (Ext.add B) (R.add B) _ ⟨p,vs,rfl,Qx,R.fresh B,r.ext (Ext.add B)⟩
theorem jz(R:Rel H ρ st)(h:Acc mg E H ρ (QV Q) (.ok (.lst ps) st))(r:RepL H ρ ps vs):∀ p,H p=zl->Q (.ref p) (upd H p (.lst vs)):=
 λp B=>h _ ρ (Ext.add B) (R.add B) _ ⟨p,vs,rfl,Qx,R.fresh B,r.ext (Ext.add B)⟩
theorem now(R:Rel H ρ st)(h:Acc mg E H ρ (QV Q) (.ok p st))(r:Rep H ρ p v):Q v H:=h H ρ (Ext.refl _ _) R v r
section
variable{X:Cx}{E:XK}{pos:Pos}
def Q2(i:Nat):ME:=λΓ st=>match Γ[i]? with
 | some (zo p)=>.ok p st
 | _=>.stuck
def mC(p:PV):ME:=λ_ st=>.ok p st
theorem Qf (i:Nat) (J:X.N[i]?=zo x:=by rfl) (I:Vis X.env.scope x:=by first | exact Or.inl rfl | exact Or.inr (Or.inl rfl) | exact Or.inr (Or.inr rfl)) (hd:(x == ("__debug__" : Str))=zb:=by decide)
  (B:(x == ("__classdict__" : Str))=zb:=by decide):SimE X E (.Name x pos) (Q2 i):=⟨λΓ σ H ρ st Q R G h=>WE.of (Qh1 J I hd B) (by
 unfold Q2 at h
 split at h
 ·rename_i p e;obtain⟨v,e1,r⟩:=G.2 i p e;exact⟨v,e1,now R h r⟩
 ·exact h.elim)⟩
theorem Jd{i:Int}:SimE X E (.Constant (.int i) j pos) (mC (.int i)):=⟨λΓ σ H ρ st Q R G h=>WE.of Qr5 (now R h rfl)⟩
theorem Quf{b:Bool}:SimE X E (.Constant (.bool b) j pos) (mC (.bl b)):=⟨λΓ σ H ρ st Q R G h=>WE.of Qv1 (now R h rfl)⟩
theorem Qq9:SimE X E (.Constant .none j pos) (mC .non):=⟨λΓ σ H ρ st Q R G h=>WE.of Qr4 (now R h rfl)⟩
theorem Qq6:SimE X E (.Constant (.str x) j pos) (mC (.str x)):=⟨λΓ σ H ρ st Q R G h=>WE.of Qr1 (now R h rfl)⟩
theorem Qk8{i:Int}{t:Tok}(B:Gl X x)(I:X.mg x=zo (.int i t))(hd:(x == ("__debug__" : Str))=zb:=by decide):SimE X E (.Name x pos) (mC (.int i)):=
 ⟨λΓ σ H ρ st Q R G h=>WE.of (Qc6 B I (v:=.int i) ⟨t,rfl⟩ hd) (now R h rfl)⟩
variable{a b c:aH}{ma mb mc:ME}
def mOp(o:OP)(ma mb:ME):ME:=λΓ st=>(ma Γ st).bind λx st1=>(mb Γ st1).bind λy st2=>o st2 x y
theorem Q7f {f:aA->aA->Sem aA} {Q:VK} (U:OpS X E f o) (ha:SimE X E a ma) (hb:SimE X E b mb) (R:Rel H ρ st) (G:EnvR H ρ Γ σ) (h:Acc X.mg E H ρ P (mOp o ma mb Γ st))
  (k:∀ p B H1 ρ1 v,Ext H ρ H1 ρ1->Rel H1 ρ1 B->Rep H1 ρ1 p v->P p B H1 ρ1->Q v H1):tOp (WO X f) (WE X a) (WE X b) σ H Q:=by
 refine ha.use R G h.bind λp B H1 ρ1 v x1 Z G1 r1 h1=>?_
 refine hb.use Z G1 h1.bind λq a2 H2 a1 u O R2 G2 r2 h2=>?_
 exact U.use R2 (r1.ext O) r2 h2 λw I H3 J z x3 R3 Y p3=>k w I H3 J z (x1.trans (O.trans x3)) R3 Y p3
theorem Ke{op:Operator}(J:OpS X E (aX op) o)(I:SimE X E a ma)(B:SimE X E b mb):SimE X E (.BinOp a op b pos) (mOp o ma mb):=
 ⟨λΓ σ H ρ st Q R G h=>WE.of (Qny Qac Ji Ji) (Q7f J I B R G h λ_ _ _ _ v _ _ r q=>q v r)⟩
theorem Qqb(J:OpS X E (aR op) o)(I:SimE X E a ma)(B:SimE X E b mb)(O:bI op b=zb:=by first | exact Qam _ | rfl):SimE X E (.Compare a [op] [b] pos) (mOp o ma mb):=
 ⟨λΓ σ H ρ st Q R G h=>WE.of (Qm6 Qac Ji Ji O) (Q7f J I B R G h λ_ _ _ _ v _ _ r q=>q v r)⟩
def asB(p:PV)(st:Q1):Res Bool:=match p with
 | .bl k=>.ok k st
 | _=>.stuck
def toB(m:ME):Gam->Q1->Res Bool:=λΓ st=>(m Γ st).bind asB
theorem Qjq{P:Bool->Q1->Hp->Tk->Prop}(R:Rel H ρ st)(r:Rep H ρ p v)(h:Acc mg E H ρ P (asB p st)):∃ k,v=.bl k/\P k st H ρ:=by
 cases p with
 | bl k=>exact⟨k,r,h H ρ (Ext.refl _ _) R⟩
 | _=>exact h.elim
theorem j3(B:OpS X E (aR op) o)(J:SimE X E a ma)(I:SimE X E b mb)(Y:bI op b=zb:=by first | exact Qam _ | rfl):SimT X E (.Compare a [op] [b] pos) (toB (mOp o ma mb)):=
 ⟨λΓ σ H ρ st Q R G h=>WT.of (Qkp Qac Ji Ji Y) (Q7f B J I R G h.bind λ_ O _ _ v _ U r q=>by
  obtain⟨k,e,z⟩:=Qjq U r q;exact⟨k,e,z⟩)⟩
theorem Qpw{m:ME}(h:SimE X E e m)(O:∀ B,isTrue e X.env B=(do let v <- B;standAt e.pos;az [v] (truthy v)):=by intro _;rfl):SimT X E e (toB m):=
 ⟨λΓ σ H ρ st Q R G U=>WT.of (Qqn Ji O) (h.use R G U.bind λp I H1 ρ1 v x1 J Z Y h1=>by
  obtain⟨k,e,z⟩:=Qjq J Y h1;exact⟨k,e,z⟩)⟩
def U7(o o':OP)(ma mb mc:ME):ME:=λΓ st=>(ma Γ st).bind λx st1=>(mb Γ st1).bind λy st2=>(o st2 x y).bind λk st3=>match k with
 | .bl zi=>(mc Γ st3).bind λz st4=>o' st4 y z
 | .bl zb=>.ok (.bl zb) st3
 | _=>.stuck
theorem Q5x {I:CmpOp} {o':OP} {Q:VK} (ho:OpS X E (aR op) o) (a1:OpS X E (aR I) o') (ha:SimE X E a ma) (hb:SimE X E b mb) (hc:SimE X E c mc) (R:Rel H ρ st) (G:EnvR H ρ Γ σ) (h:Acc X.mg E H ρ P (U7 o o' ma mb mc Γ st))
  (k:∀ p B H1 ρ1 v,Ext H ρ H1 ρ1->Rel H1 ρ1 B->Rep H1 ρ1 p v->P p B H1 ρ1->Q v H1):Q9v (WO X (aR op)) (WO X (aR I)) (WE X a) (WE X b) (WE X c) σ H Q:=by
 refine ha.use R G h.bind λp B H1 ρ1 v x1 R1 G1 r1 h1=>?_
 refine hb.use R1 G1 h1.bind λq a5 H2 a4 u Z R2 G2 r2 h2=>?_
 refine ho.use R2 (r1.ext Z) r2 h2.bind λw a6 H3 J z O R3 r3 Y=>?_
 cases w with
 | bl b=>
  refine⟨b,r3,?_⟩;cases b with
  | true=>
   rw[bO rfl];refine hc.use R3 (G2.ext O) Y.bind λy a3 H4 a7 yv x4 R4 G4 r4 h4=>?_
   exact a1.use R4 (r2.ext (O.trans x4)) r4 h4 λw U H5 a2 z x5 R5 r5 p5=>k w U H5 a2 z (x1.trans (Z.trans (O.trans (x4.trans x5)))) R5 r5 p5
  | false=>
   rw[bP F5];exact k (.bl zb) _ H3 J _ (x1.trans (Z.trans O)) R3 rfl (Y H3 J (Ext.refl _ _) R3)
 | _=>exact Y.elim
theorem Qg8{B:CmpOp}{o':OP}(J:OpS X E (aR op) o)(I:OpS X E (aR B) o')(U:SimE X E a ma)(O:SimE X E b mb)(Y:SimE X E c mc)(Z:lastMarks [op,B] [b,c]=zb:=by with_unfolding_all rfl):SimE X E (.Compare a [op,B] [b,c] pos) (U7 o o' ma mb mc):=
 ⟨λΓ σ H ρ st Q R G h=>WE.of (Qh8 Qac Qac Ji Ji Ji Z) (Q5x J I U O Y R G h λ_ _ _ _ v _ _ r q=>q v r)⟩
theorem Qfu{B:CmpOp}{o':OP}(J:OpS X E (aR op) o)(I:OpS X E (aR B) o')(U:SimE X E a ma)(O:SimE X E b mb)(hc:SimE X E c mc)(hm:lastMarks [op,B] [b,c]=zb:=by with_unfolding_all rfl):SimT X E (.Compare a [op,B] [b,c] pos) (toB (U7 o o' ma mb mc)):=
 ⟨λΓ σ H ρ st Q R G h=>WT.of (Qgq Qac Qac Ji Ji Ji hm) (Q5x J I U O hc R G h.bind λ_ Y _ _ v _ Z r q=>by
  obtain⟨k,e,z⟩:=Qjq Z r q;exact⟨k,e,z⟩)⟩
variable{rest:List aH}
def Q14(ma mb:ME):ME:=λΓ st=>(ma Γ st).bind λx st1=>match x with
 | .bl zi=>mb Γ st1
 | .bl zb=>.ok (.bl zb) st1
 | _=>.stuck
def Qrz(ma:ME):ME:=λΓ st=>(ma Γ st).bind λx st1=>match x with
 | .bl k=>.ok (.bl (!k)) st1
 | _=>.stuck
theorem Qq7{op:BoolOp}(B:SimE X E a ma):SimE X E (.BoolOp op [a] pos) ma:=⟨λΓ σ H ρ st Q R G h=>WE.of (Qr2 Ji) (B.use R G h λ_ _ _ _ v _ _ _ r q=>q v r)⟩
theorem Qqc(J:SimE X E a ma)(I:SimE X E (.BoolOp .And (b :: rest) pos) mb):SimE X E (.BoolOp .And (a :: b :: rest) pos) (Q14 ma mb):=
 ⟨λΓ σ H ρ st Q R G h=>WE.of (Qr7 Ji Ji) (J.use R G h.bind λp O H1 ρ1 v x1 B U Y h1=>by
  cases p with
  | bl k=>
   refine⟨k,Y,?_⟩;cases k with
   | true=>rw[bO rfl];exact I.use B U h1 λ_ _ _ _ v _ _ _ r q=>q v r
   | false=>rw[bP F5];exact now B h1 rfl
  | _=>exact h1.elim)⟩
theorem Qq8(B:SimE X E a ma):SimE X E (.UnaryOp .Not a pos) (Qrz ma):=
 ⟨λΓ σ H ρ st Q R G h=>WE.of (Qr3 Ji) (B.use R G h.bind λp I H1 ρ1 v x1 J U O h1=>by
  cases p with
  | bl k=>exact⟨k,O,now J h1 rfl⟩
  | _=>exact h1.elim)⟩
def Q8t(ma:ME):ME:=λΓ st=>(ma Γ st).bind λx st1=>match x with
 | .int k=>.ok (.int (-k)) st1
 | _=>.stuck
theorem Qa2(B:SimE X E a ma):SimE X E (.UnaryOp .USub a pos) (Q8t ma):=
 ⟨λΓ σ H ρ st Q R G h=>WE.of (Quy Qpi Ji) (B.use R G h.bind λp I H1 ρ1 v x1 J U O h1=>by
  cases p with
  | int k=>exact⟨k,O,now J h1 rfl⟩
  | _=>exact h1.elim)⟩
abbrev MT:=Gam->Q1->Res Bool
variable{ta tb:MT}
def Uf(ta tb:MT):MT:=λΓ st=>(ta Γ st).bind λk st1=>if k=zi then tb Γ st1 else .ok zb st1
def xg(ta tb:MT):MT:=λΓ st=>(ta Γ st).bind λk st1=>if k=zi then .ok zi st1 else tb Γ st1
def V7(ta:MT):MT:=λΓ st=>(ta Γ st).bind λk st1=>.ok (!k) st1
theorem SimW.t(h:SimW X E e ta):SimT X E e ta:=⟨λΓ σ H ρ st Q R G q pins s I=>h.run Γ σ H ρ st Q R G q _ pins s I⟩
theorem Q6e(B:SimT X E a ta):SimW X E (.BoolOp .And [a] pos) ta:=⟨λΓ σ H ρ st Q R G h=>WW.of (Qkj Q6n) (B.use R G h λ_ _ _ _ _ _ _ q=>q)⟩
theorem Qfq(B:SimT X E a ta):SimW X E (.BoolOp .Or [a] pos) ta:=⟨λΓ σ H ρ st Q R G h=>WW.of (Qqk Q6n) (B.use R G h λ_ _ _ _ _ _ _ q=>q)⟩
theorem Q9w(J:SimT X E a ta)(I:SimW X E (.BoolOp .And (b :: rest) pos) tb):SimW X E (.BoolOp .And (a :: b :: rest) pos) (Uf ta tb):=
 ⟨λΓ σ H ρ st Q R G h=>WW.of (Qqm Q6n Qut) (J.use R G h.bind λk O H1 ρ1 x1 B U h1=>by
  cases k with
  | true=>rw[bO rfl]at h1 ⊢;exact I.use B U h1 λ_ _ _ _ _ _ _ q=>q
  | false=>rw[bP F5]at h1 ⊢;exact h1 H1 ρ1 (Ext.refl _ _) B)⟩
theorem Qns(J:SimT X E a ta)(I:SimW X E (.BoolOp .Or (b :: rest) pos) tb):SimW X E (.BoolOp .Or (a :: b :: rest) pos) (xg ta tb):=
 ⟨λΓ σ H ρ st Q R G h=>WW.of (Quu Q6n Qut) (J.use R G h.bind λk O H1 ρ1 x1 B U h1=>by
  cases k with
  | true=>rw[bO rfl]at h1 ⊢;exact h1 H1 ρ1 (Ext.refl _ _) B
  | false=>rw[bP F5]at h1 ⊢;exact I.use B U h1 λ_ _ _ _ _ _ _ q=>q)⟩
theorem Qpx(B:SimT X E a ta):SimT X E (.UnaryOp .Not a pos) (V7 ta):=
 ⟨λΓ σ H ρ st Q R G h=>WT.of (Qqp Q6n) (B.use R G h.bind λk I H1 ρ1 x1 J O h1=>h1 H1 ρ1 (Ext.refl _ _) J)⟩
def mIf(tc:MT)(ma mb:ME):ME:=λΓ st=>(tc Γ st).bind λk st1=>if k=zi then ma Γ st1 else mb Γ st1
theorem Que(Y:SimT X E c ta)(O:SimE X E a ma)(J:SimE X E b mb):SimE X E (.IfExp c a b pos) (mIf ta ma mb):=
 ⟨λΓ σ H ρ st Q R G h=>WE.of (Qh4 Q6n Ji Ji) (Y.use R G h.bind λk U H1 ρ1 x1 B I h1=>by
  cases k with
  | true=>rw[bO rfl]at h1 ⊢;exact O.use B I h1 λ_ _ _ _ v _ _ _ r q=>q v r
  | false=>rw[bP F5]at h1 ⊢;exact J.use B I h1 λ_ _ _ _ v _ _ _ r q=>q v r)⟩
variable{e:aH}{es:List aH}{m:ME}{mr:Gam->Q1->Res (List PV)}
def Q5:Gam->Q1->Res (List PV):=λ_ st=>.ok [] st
def Q0(m:ME)(mr:Gam->Q1->Res (List PV)):Gam->Q1->Res (List PV):=λΓ st=>(m Γ st).bind λp st1=>(mr Γ st1).bind λps st2=>.ok (p :: ps) st2
theorem Qu:SimA X E [] Q5:=⟨λΓ σ H ρ st Q R G h=>WA.of Q6q (h H ρ (Ext.refl _ _) R [] rfl)⟩
theorem Qa(O:SimE X E e m)(Z:SimA X E es mr)(hs:aN (e :: es) X.env=(zb,aL e X.env) :: aN es X.env:=by rfl):SimA X E (e :: es) (Q0 m mr):=
 ⟨λΓ σ H ρ st Q R G h=>WA.of (xx Ji Q1u hs) (O.use R G h.bind λp U H1 ρ1 v x1 Y G1 r1 h1=>Z.use Y G1 h1.bind λps a1 H2 B vs J R2 G2 I h2=>
  h2 H2 B (Ext.refl _ _) R2 (v :: vs) ⟨v,vs,rfl,r1.ext J,I⟩)⟩
def Je(mr:Gam->Q1->Res (List PV)):ME:=λΓ st=>(mr Γ st).bind λps st1=>if ps.length<=lim then .ok (.tup ps) st1 else .stuck
def Z1(mr:Gam->Q1->Res (List PV)):ME:=λΓ st=>(mr Γ st).bind λps st1=>if ps.length<=lim then .ok (.lst ps) st1 else .stuck
theorem Xa{k:Nat}(h:SimA X E es mr):SimE X E (.Tuple es k pos) (Je mr):=
 ⟨λΓ σ H ρ st Q R G U=>WE.of (Qr0 Q1u) (h.use R G U.bind λps J H1 ρ1 vs x1 O Y I h1=>by
  by_cases B:ps.length<=lim
  ·rw[bO B]at h1;exact⟨by rw[<- I.length];exact W5 B,Q03 O h1 I⟩
  ·rw[bP B]at h1;exact h1.elim)⟩
theorem Wj(h:SimA X E es mr):SimE X E (.List es pos) (Z1 mr):=
 ⟨λΓ σ H ρ st Q R G U=>WE.of (Qh3 Q1u) (h.use R G U.bind λps J H1 ρ1 vs x1 O Y I h1=>by
  by_cases B:ps.length<=lim
  ·rw[bO B]at h1;exact⟨by rw[<- I.length];exact W5 B,jz O h1 I⟩
  ·rw[bP B]at h1;exact h1.elim)⟩
end
end Sm
namespace HT
open PySem PySem.Spec PyProof.Rows
variable{prog:aM}{A:aQ}{E:aA->aD->Prop}{s:aD}
section
variable{w:aJ}
theorem getItem_tuple_whole {t Z:aB} {B:Array aA} {vl vu:aA} {lo hi:Option Int} {Q:aA->aD->Prop} (J:IsTup s.heap t B) (hs:s.heap.IsSliceOf Z vl vu .none) (pl:IsPart vl lo) (pu:IsPart vu hi)
  (hw:sIx B.size 0 lo=0/\sIx B.size B.size hi=B.size)
  (h:Q (.ref t) s):aF (aI prog w) A (getItem (.ref t) (.ref Z)) Q E s:=by
 obtain⟨os,O,U,a1⟩:=id hs;have Y:s.TypeIs (.ref Z) "slice" := ⟨os,O,U⟩;unfold getItem
 try with_reducible refine af ?_
 first | refine aC (wpAny_pure ?_) | skip
 refine aC (wpAny_sequenceKey J.typeIs (by decide) ?_);refine aC (wpAny_callSpecial?_slot (name:=bf "__getitem__") J.typeIs dh
  (aa dh J.typeIs entry_tuple_getitem ?_ (args_tuple_getitem _ _)))
 show aF _ _ (Builtin.Tuple.tupleItemsOf (.ref t) >>= _) _ _ s;refine aC (tupleItemsOf_ J ?_);refine aC (bM Y ?_);rw[bO (by decide)];refine aC (Kb hs pl pu ?_);have I:(((sIx B.size 0 lo:Nat):Int) == 0 && (1:Int) == 1 && (sIx B.size B.size hi - sIx B.size 0 lo) == B.size)=zi:=by
  rw[hw.1,hw.2];simp
 show aF _ _ (if(((sIx B.size 0 lo:Nat):Int) == 0 && (1:Int) == 1 && (sIx B.size B.size hi - sIx B.size 0 lo) == B.size)=zi then _ else _) _ _ s;rw[bO I];refine aC (aC (bM J.typeIs (wpAny_pure ?_)));rw[bO (by rfl)];exact aC (ak (wpAny_pure ⟨_,rfl,wpAny_pure h⟩))
end
end HT
namespace L2
open PySem PySem.Spec PyProof.Rows
def Qyg(K:bS):V->Option Int->Option Int->Hp->VK->Prop:=λx lo hi H Q=>∃ a xs,x=.ref a/\SqT K H a xs /\
 (HT.sIx xs.length 0 lo=0/\HT.sIx xs.length xs.length hi=xs.length)/\Q (.ref a) H
theorem sl_whole{X:Cx}:SlR X (Qyg X.K):=by
 intro pins s σ H x v vl vu lo hi sl Q I Y hs U Z h;obtain⟨a,xs,rfl,O,hw,q⟩:=h;cases Y;obtain⟨its,r,J,hz⟩:=I.tuple O;have B:its.toArray.size=xs.length:=by rw[D0];exact r.length.symm
 refine⟨"tuple",_,PyProof.Rows.slot_tuple_getitem.lookup,J.typeIs,?_⟩;exact HT.getItem_tuple_whole J hs U Z (by rw[B];exact hw) ⟨.ref a,H,I,rfl,q⟩
end L2
namespace Sm
open PySem PySem.Spec L2
variable{H H1:Hp}{ρ:Tk}{p:PV}{x:Str}{σ:St}{A:aQ}{st:Q1}{xs ps:List PV}{vs:List V}{o:CF}{Q:VK}{T:String}{K:bS}{v:V}{tp:Pos}{e c:aH}{es:List aH}{n k kt:Nat}{mg:zAD}{b:aB}{hs:List aB}{α β:Type}{Γ:Gam}{P:List PV->Q1->Hp->Tk->Prop}{s:aK}{fd:aO}
variable{X:Cx}{E:XK}{pos:Pos}
def oI(g:Int->Int->PV):OP:=λst p q=>match p,q with
 | .int a,.int b=>.ok (g a b) st
 | _,_=>.stuck
def Jj:OP:=λst p q=>match p,q with
 | .int a,.int b=>.ok (.int (a + b)) st
 | .str a,.str b=>if a.length + b.length<=lim then .ok (.str (a ++ b)) st else .stuck
 | .tup xs,.tup ys=>if xs.length + ys.length<=lim then .ok (.tup (xs ++ ys)) st else .stuck
 | p,q=>match W4 st p,W4 st q with
  | some xs,zo ys=>if xs.length + ys.length<=lim then .ok (.lst (xs ++ ys)) st else .stuck
  | _,_=>.stuck
theorem qb:OpS X E (aX .Add) Jj:=⟨λH ρ st p q x y Q R U Y h=>by
 unfold Jj at h
 split at h
 ·cases U;cases Y;exact WO.of Qrn ⟨_,_,rfl,rfl,now R h rfl⟩
 ·cases U;cases Y
  split at h
  ·rename_i O;exact WO.of Qad ⟨_,_,rfl,rfl,W5 O,now R h rfl⟩
  ·exact h.elim
 ·split at h
  ·rename_i xs ys O;obtain⟨a,vs,rfl,J,na,B⟩:=U;obtain⟨b,us,rfl,I,Z,rb⟩:=Y;refine WO.of Qme ?_
   by_cases e:xs=[]
   ·subst e;cases B;exact .inr ⟨a,b,us,rfl,rfl,SqT.of J,SqT.of I,now R h ⟨b,us,rfl,I,Z,rb⟩⟩
   ·refine .inl ⟨a,b,vs,us,rfl,rfl,SqT.of J,SqT.of I,λz=>e ?_,by rw[<- B.length,<- rb.length];exact W5 O,λz=>?_,λz=>Q03 R h (B.append rb)⟩
    ·subst z;cases xs with
     | nil=>rfl
     | cons _ _=>have:=B.length;simp at this
    ·subst z;have:ys=[]:=by
      cases ys with
      | nil=>rfl
      | cons _ _=>have:=rb.length;simp at this
     subst this;rw[G6]at h;exact now R h ⟨a,vs,rfl,J,na,B⟩
  ·exact h.elim
 ·split at h
  ·rename_i xs ys e1 e2
   split at h
   ·rename_i O;obtain⟨a,vs,rfl,J,B⟩:=yk R U e1;obtain⟨b,us,rfl,I,rb⟩:=yk R Y e2;exact WO.of Qhe ⟨a,b,vs,us,rfl,rfl,J,I,by rw[<- B.length,<- rb.length];exact W5 O,jz R h (B.append rb)⟩
   ·exact h.elim
  ·exact h.elim⟩
theorem Q3a:OpS X E (aX .Sub) (oI λa b=>.int (a - b)):=⟨λH ρ st p q x y Q R B I h=>by
 unfold oI at h
 split at h
 ·cases B;cases I;exact WO.of Qrf ⟨_,_,rfl,rfl,now R h rfl⟩
 ·exact h.elim⟩
def Q6w:OP:=λst p q=>match p,q with
 | .int a,.int b=>if(-(2 ^ 64) < a/\a < 2 ^ 64)\/(-(2 ^ 64) < b/\b < 2 ^ 64)then .ok (.int (a * b)) st else .stuck
 | .tup xs,.int b=>if xs≠[]/\1<=b/\xs.length * b.toNat<=4096 then .ok (.tup (bV b.toNat xs).flatten) st else .stuck
 | p,.int b=>match W4 st p with
  | some xs=>if -(2 ^ 63)<=b/\b < 2 ^ 63/\xs.length * b.toNat<=lim then .ok (.lst (bV b.toNat xs).flatten) st else .stuck
  | none=>.stuck
 | _,_=>.stuck
theorem Qrb:OpS X E (aX .Mult) Q6w:=⟨λH ρ st p q x y Q R O U h=>by
 unfold Q6w at h
 split at h
 ·cases O;cases U
  split at h
  ·rename_i B;exact WO.of Qri ⟨_,_,rfl,rfl,B,now R h rfl⟩
  ·exact h.elim
 ·cases U
  split at h
  ·rename_i xs b B;obtain⟨a,vs,rfl,J,Y,I⟩:=O;refine WO.of Qmb ⟨a,b,vs,rfl,rfl,SqT.of J,λz=>B.1 ?_,B.2.1,by rw[<- I.length];exact B.2.2,λz=>?_,λz=>Q03 R h (I.rep _)⟩
   ·subst z;cases xs with
    | nil=>rfl
    | cons _ _=>have:=I.length;simp at this
   ·subst z;have e1:(bV (Int.toNat 1) xs).flatten=xs:=by simp
    rw[e1]at h;exact now R h ⟨a,vs,rfl,J,Y,I⟩
  ·exact h.elim
 ·cases U
  split at h
  ·rename_i xs e1
   split at h
   ·rename_i B;obtain⟨a,vs,rfl,J,I⟩:=yk R O e1;exact WO.of Qrg ⟨a,_,vs,rfl,rfl,J,B.1,B.2.1,by rw[<- I.length];exact W5 B.2.2,jz R h (I.rep _)⟩
   ·exact h.elim
  ·exact h.elim
 ·exact h.elim⟩
def Q8h:OP:=λst p q=>match p,q with
 | .int a,.int b=>if 0 < b then .ok (.int (a % b)) st else .stuck
 | _,_=>.stuck
theorem Qrc:OpS X E (aX .Mod) Q8h:=⟨λH ρ st p q x y Q R B J h=>by
 unfold Q8h at h
 split at h
 ·cases B;cases J
  split at h
  ·rename_i I;exact WO.of Qrj ⟨_,_,rfl,rfl,I,now R h rfl⟩
  ·exact h.elim
 ·exact h.elim⟩
def Qhh:OP:=λst p q=>match p,q with
 | .int a,.int b=>if 0 < b/\b < 1073741824 then .ok (.int (a / b)) st else .stuck
 | _,_=>.stuck
theorem Qre:OpS X E (aX .FloorDiv) Qhh:=⟨λH ρ st p q x y Q R B J h=>by
 unfold Qhh at h
 split at h
 ·cases B;cases J
  split at h
  ·rename_i I;exact WO.of Qmd ⟨_,_,rfl,rfl,I,now R h rfl⟩
  ·exact h.elim
 ·exact h.elim⟩
def Qmh:OP:=λst p q=>match p,q with
 | .int a,.int b=>if 0<=b/\b<=1000000/\a.natAbs < 2 ^ 64 then .ok (.int (a ^ b.toNat)) st else .stuck
 | _,_=>.stuck
theorem Qr9:OpS X E (aX .Pow) Qmh:=⟨λH ρ st p q x y Q R B J h=>by
 unfold Qmh at h
 split at h
 ·cases B;cases J
  split at h
  ·rename_i I;exact WO.of Qrh ⟨_,_,rfl,rfl,I,now R h rfl⟩
  ·exact h.elim
 ·exact h.elim⟩
theorem Qhg{op:CmpOp}{g:Int->Int->Bool}(I:OpR X (aR op) (rI0 λi j=>.bl (g i j))):OpS X E (aR op) (oI λa b=>.bl (g a b)):=⟨λH ρ st p q x y Q R B J h=>by
 unfold oI at h
 split at h
 ·cases B;cases J;exact WO.of I ⟨_,_,rfl,rfl,now R h rfl⟩
 ·exact h.elim⟩
theorem Qv2:OpS X E (aR .LtE) (oI λa b=>.bl (decide (a<=b))):=Qhg Qv8
theorem Qv5:OpS X E (aR .Gt) (oI λa b=>.bl (decide (b < a))):=Qhg Qv9
def K4:List PV->Option (List Int)
 | []=>zo []
 | .int i :: ps=>(K4 ps).map (i :: ·)
 | _ :: _=>zl
def Q1r:List PV->Option (List Bool)
 | []=>zo []
 | .bl i :: ps=>(Q1r ps).map (i :: ·)
 | _ :: _=>zl
theorem Q0d(ns:List Int):K4 (ns.map .int)=zo ns:=by
 induction ns with
 | nil=>rfl
 | cons n ns B=>rw[D8,K4,B];rfl
theorem Qn9(ns:List Bool):Q1r (ns.map .bl)=zo ns:=by
 induction ns with
 | nil=>rfl
 | cons n ns B=>rw[D8,Q1r,B];rfl
theorem Q28:∀ {ps:List PV} {ns:List Int},K4 ps=zo ns->ps=ns.map .int
 | [],ns,h=>by cases h;rfl
 | .int i :: ps,ns,h=>by
  rw[K4]at h;cases e:K4 ps with
  | none=>rw[e]at h;cases h
  | some ms=>rw[e]at h;cases h;rw[Q28 e];rfl
 | .non :: _,_,h | .bl _ :: _,_,h | .str _ :: _,_,h | .tup _ :: _,_,h | .lst _ :: _,_,h | .fro _ :: _,_,h | .ref _ :: _,_,h | .dic :: _,_,h=>by cases h
theorem Qjg:∀ {ps:List PV} {ns:List Bool},Q1r ps=zo ns->ps=ns.map .bl
 | [],ns,h=>by cases h;rfl
 | .bl i :: ps,ns,h=>by
  rw[Q1r]at h;cases e:Q1r ps with
  | none=>rw[e]at h;cases h
  | some ms=>rw[e]at h;cases h;rw[Qjg e];rfl
 | .non :: _,_,h | .int _ :: _,_,h | .str _ :: _,_,h | .tup _ :: _,_,h | .lst _ :: _,_,h | .fro _ :: _,_,h | .ref _ :: _,_,h | .dic :: _,_,h=>by cases h
def oLt:OP:=λst p q=>match p,q with
 | .int a,.int b=>.ok (.bl (decide (a < b))) st
 | .tup xs,.tup ys=>match K4 xs,K4 ys with
  | some ns,zo ms=>.ok (.bl (HT.lexLt ns ms)) st
  | _,_=>.stuck
 | _,_=>.stuck
theorem Qca(Z:X.A.units + 64 < aP):OpS X E (aR .Lt) oLt:=⟨λH ρ st p q x y Q R B I h=>by
 unfold oLt at h
 split at h
 ·cases B;cases I;exact WO.of Qv7 ⟨_,_,rfl,rfl,now R h rfl⟩
 ·split at h
  ·rename_i ns ms e1 e2;obtain⟨a,vs,rfl,O,na,U⟩:=B;obtain⟨b,us,rfl,J,Y,rb⟩:=I;rw[Q28 e1]at U;rw[Q28 e2]at rb;rw[U.toInts]at O;rw[rb.toInts]at J;exact WO.of (Qrk (by omega)) ⟨a,b,ns,ms,rfl,rfl,SqT.of O,SqT.of J,now R h rfl⟩
  ·exact h.elim
 ·exact h.elim⟩
def dep:Nat:=12
def oEq:OP:=λst p q=>if J0 dep (der st p)=zi/\J0 dep (der st q)=zi then .ok (.bl (peq (der st p) (der st q))) st else .stuck
def oNe:OP:=λst p q=>if J0 dep (der st p)=zi/\J0 dep (der st q)=zi then .ok (.bl (!peq (der st p) (der st q))) st else .stuck
theorem Qnz(Y:X.A.units + 64 < aP):OpS X E (aR .Eq) oEq:=⟨λH ρ st p q x y Q R B J h=>by
 unfold oEq at h
 split at h
 ·rename_i g;intro pins s σ v u I O U;exact(Q99 dep I g.1 g.2 (by unfold dep;omega) (zd R g.1 B) O (zd R g.2 J) U).2.1 _ _ _ _ ⟨.bl _,H,I,rfl,now R h rfl⟩
 ·exact h.elim⟩
theorem Qc9(Y:X.A.units + 64 < aP):OpS X E (aR .NotEq) oNe:=⟨λH ρ st p q x y Q R B J h=>by
 unfold oNe at h
 split at h
 ·rename_i g;intro pins s σ v u I O U;exact(Q99 dep I g.1 g.2 (by unfold dep;omega) (zd R g.1 B) O (zd R g.2 J) U).2.2 _ _ _ _ ⟨.bl _,H,I,rfl,now R h rfl⟩
 ·exact h.elim⟩
def Q5p:PV->Bool
 | .non=>zi
 | _=>zb
theorem Q5n{x:V}(r:Rep H ρ p x):decide (x=.non)=Q5p p:=by
 cases p with
 | non=>cases r;rfl
 | bl _=>cases r;rfl
 | int _=>cases r;rfl
 | str _=>cases r;rfl
 | tup _=>obtain⟨_,_,rfl,_⟩:=r;rfl
 | lst _=>obtain⟨_,_,rfl,_⟩:=r;rfl
 | fro _=>obtain⟨_,_,rfl,_⟩:=r;rfl
 | ref _=>obtain⟨_,_,rfl⟩:=r;rfl
 | dic=>obtain⟨_,rfl,_⟩:=r;rfl
def oIs:OP:=λst p q=>match q with
 | .non=>.ok (.bl (Q5p p)) st
 | .bl c=>match p with
  | .bl b=>.ok (.bl (b == c)) st
  | _=>.stuck
 | _=>.stuck
def yf:OP:=λst p q=>match q with
 | .non=>.ok (.bl (!Q5p p)) st
 | .bl c=>match p with
  | .bl b=>.ok (.bl (b != c)) st
  | _=>.stuck
 | _=>.stuck
theorem Qv3:OpS X E (aR .Is) oIs:=⟨λH ρ st p q x y Q R B I h=>by
 unfold oIs at h
 split at h
 ·cases I;refine WO.of Qrm ⟨rfl,?_⟩;rw[Q5n B];exact now R h rfl
 ·split at h
  ·cases B;cases I;exact WO.of Qhc ⟨_,_,rfl,rfl,now R h rfl⟩
  ·exact h.elim
 ·exact h.elim⟩
theorem Qhb:OpS X E (aR .IsNot) yf:=⟨λH ρ st p q x y Q R B I h=>by
 unfold yf at h
 split at h
 ·cases I;refine WO.of Qmc ⟨rfl,?_⟩;rw[Q5n B];exact now R h rfl
 ·split at h
  ·cases B;cases I;exact WO.of Q8b ⟨_,_,rfl,rfl,now R h rfl⟩
  ·exact h.elim
 ·exact h.elim⟩
def oIn(neg:Bool):OP:=λst p q=>match Yf st q with
 | some xs=>if J0 dep (der st p)=zi/\xs.all (J0 dep)=zi then .ok (.bl ((xs.any λy=>peq y (der st p)) != neg)) st else .stuck
 | none=>.stuck
open Classical in
theorem Q94 {pins:zAA} {s:aD} {p:PV} {xs:List PV} {x:V} {v:aA} {vs:List V} {its:List aA} (I:Inv X pins σ H s) (hu:A.units + dep < aP) (R:Rel H ρ st)
  (Y:J0 dep (der st p)=zi) (gx:xs.all (J0 dep)=zi) (rp:Rep H ρ p x) (rv:RelV x v) (ra:RepL H ρ xs vs) (Z:Vals vs its):∃ e:aA->Bool,(∀ u,u∈its.toArray->SeqAt.EqAt A s u v (e u))/\its.toArray.any e=xs.any λy=>peq y (der st p):=by
 have key:∀ u∈its,∃ q∈xs,∃ y,Rep H Tk.nil q y/\RelV y u:=λu hu=>by
  obtain⟨j,hj,rfl⟩:=dQ hu;have l1:=Z.length;have l2:=ra.length;obtain⟨y,e1,e2⟩:=(repL_nil gx ra).get (O2 (show j < xs.length by omega));obtain⟨w,e3,e4⟩:=Z.get e1;rw[O2 hj]at e3;cases e3;exact⟨_,F9 _,y,e2,e4⟩
 refine⟨λu=>decide (∃ q∈xs,∃ y,Rep H Tk.nil q y/\RelV y u/\peq q (der st p)=zi),λu hm=>?_,?_⟩
 ·have a1:u∈its:=by simpa using hm
  by_cases z:∃ q∈xs,∃ y,Rep H Tk.nil q y/\RelV y u/\peq q (der st p)=zi
  ·show SeqAt.EqAt A s u v (decide _);rw[bR z];obtain⟨q,B,y,U,J,e⟩:=z;have:=(Q99 dep I ((G8.mp gx) q B) Y hu U J (zd R Y rp) rv).1;rw[e]at this;exact this
  ·show SeqAt.EqAt A s u v (decide _);rw[bQ z];obtain⟨q,B,y,U,J⟩:=key u a1;have:=(Q99 dep I ((G8.mp gx) q B) Y hu U J (zd R Y rp) rv).1;cases e:peq q (der st p)with
   | true=>exact absurd ⟨q,B,y,U,J,e⟩ z
   | false=>rw[e]at this;exact this
 ·rw[eH,Array.any_eq_true,dZ];constructor
  ·rintro ⟨j,hj,e⟩;obtain⟨q,B,y,U,J,e⟩:=of_decide_eq_true e;exact⟨q,B,e⟩
  ·rintro ⟨q,B,e⟩;obtain⟨j,hj,rfl⟩:=dQ B;have l1:=Z.length;have l2:=ra.length;have O:j < its.length:=by omega
   obtain⟨y,e1,e2⟩:=(repL_nil gx ra).get (O2 hj);obtain⟨w,e3,e4⟩:=Z.get e1;refine⟨j,by simpa using O,bR ⟨_,B,y,e2,?_,e⟩⟩;rw[O2 O]at e3;cases e3;simpa using e4
theorem Qv4(hu:X.A.units + 64 < aP):OpS X E (aR .In) (oIn zb):=⟨λH ρ st p q x y Q R U rq h=>by
 unfold oIn at h
 split at h
 ·rename_i xs es
  split at h
  ·rename_i g;obtain⟨t,a,vs,rfl,hq,Z⟩:=y4 (K:=X.K) R rq es;intro pins s σ v u I Y ru;cases ru;rw[dz]at h;cases t with
   | true=>
    obtain⟨its,r,B,hz⟩:=I.tuple hq;obtain⟨e,J,O⟩:=Q94 (A:=X.A.in1) I (by show X.A.units + 1 + dep < aP;unfold dep;omega) R g.1 g.2 U Y Z r;refine SeqAt.in_tupleAt e B J ⟨.bl _,H,I,rfl,?_⟩;rw[O];exact now R h rfl
   | false=>
    obtain⟨its,r,B,hz⟩:=I.list hq;obtain⟨e,J,O⟩:=Q94 (A:=X.A.in1) I (by show X.A.units + 1 + dep < aP;unfold dep;omega) R g.1 g.2 U Y Z r;refine SeqAt.in_listAt e B.isList J ⟨.bl _,H,I,rfl,?_⟩;rw[O];exact now R h rfl
  ·exact h.elim
 ·exact h.elim⟩
variable{H:Hp}{ρ:Tk}
theorem RepL.atI{ps:List PV}{vs:List V}{i:Int}{p:PV}(r:RepL H ρ ps vs)(e:atI ps i=zo p):∃ v,L2.atI vs i=zo v/\Rep H ρ p v:=by
 unfold L2.atI at e ⊢;rw[<- r.length];cases q:ixN ps.length i with
 | none=>rw[q]at e;cases e
 | some j=>
  rw[q]at e;exact r.get e
def cut{α:Type}(xs:List α)(lo hi:Option Int):List α:=(xs.drop (HT.sIx xs.length 0 lo)).take (HT.sIx xs.length xs.length hi - HT.sIx xs.length 0 lo)
theorem RepL.cut(r:RepL H ρ ps vs)(lo hi:Option Int):RepL H ρ (Sm.cut ps lo hi) (Q9e vs lo hi):=by
 unfold Sm.cut Q9e;rw[<- r.length];exact(r.drop _).take _
section
variable{X:Cx}{E:XK}{pos:Pos}{a b:aH}{ma mb:ME}
def oIx:OP:=λst p q=>match Yf st p,q with
 | some xs,.int i=>okO st (atI xs i)
 | _,_=>.stuck
theorem Xn(ha:SimE X E a ma)(Z:SimE X E b mb)(hs:Qd5 b:=by exact λ_ _=>rfl):SimE X E (.Subscript a b pos) (mOp oIx ma mb):=
 ⟨λΓ σ H ρ st Q R G h=>WE.of (Quz Qsd Ji Ji hs) (ha.use R G h.bind λp a1 H1 ρ1 v x1 R1 G1 r1 h1=>Z.use R1 G1 h1.bind λq a2 H2 a3 u Y R2 G2 U h2=>by
  unfold oIx at h2
  split at h2
  ·rename_i xs i e;cases U;cases B:atI xs i with
   | none=>rw[B]at h2;exact h2.elim
   | some w=>
    rw[B]at h2;obtain⟨t,b,vs,rfl,J,ra⟩:=y4 (K:=X.K) R2 (r1.ext Y) e;obtain⟨z,O,I⟩:=ra.atI B;cases t with
    | true=>exact .inr (.inl ⟨b,vs,i,z,rfl,rfl,J,O,now R2 h2 I⟩)
    | false=>exact .inl ⟨b,vs,i,z,rfl,rfl,J,O,now R2 h2 I⟩
  ·exact h2.elim)⟩
structure SimO(X:Cx)(E:XK)(o:Option aH)(m:Gam->Q1->Res (Option Int)):Prop where
 run:∀ (Γ:Gam) (σ:St) (H:Hp) (ρ:Tk) (st:Q1) (P:Option Int->Q1->Hp->Tk->Prop) (Q:Option Int->Hp->Prop),Rel H ρ st->EnvR H ρ Γ σ->Acc X.mg E H ρ P (m Γ st) ->
  (∀ i st1 H1 ρ1,Ext H ρ H1 ρ1->Rel H1 ρ1 st1->EnvR H1 ρ1 Γ σ->P i st1 H1 ρ1->Q i H1)->∃ t,PO X o t/\t σ H Q
def Jy:Gam->Q1->Res (Option Int):=λ_ st=>.ok zl st
def W2(m:ME):Gam->Q1->Res (Option Int):=λΓ st=>(m Γ st).bind λp st1=>match p with
 | .int i=>.ok (zo i) st1
 | _=>.stuck
theorem Q20:SimO X E zl Jy:=⟨λΓ σ H ρ st P Q R G h k=>⟨_,Qkx,k zl st H ρ (Ext.refl _ _) R G (h H ρ (Ext.refl _ _) R)⟩⟩
theorem Q1z(J:SimE X E a ma):SimO X E (zo a) (W2 ma):=⟨λΓ σ H ρ st P Q R G h k=>⟨_,Qkw Ji,J.use R G h.bind λp B H1 ρ1 v x1 I O U h1=>by
 cases p with
 | int i=>exact⟨i,U,k (zo i) B H1 ρ1 x1 I O (h1 H1 ρ1 (Ext.refl _ _) I)⟩
 | _=>exact h1.elim⟩⟩
def oSl(st:Q1)(p:PV)(lo hi:Option Int):Res PV:=match p with
 | .tup xs=>.ok (.tup (cut xs lo hi)) st
 | p=>match Yk st p with
  | some xs=>.ok (.lst (cut xs lo hi)) st
  | none=>.stuck
def mSl(ma:ME)(ml mh:Gam->Q1->Res (Option Int)):ME:=λΓ st=>(ma Γ st).bind λp st1=>(ml Γ st1).bind λlo st2=>(mh Γ st2).bind λhi st3=>oSl st3 p lo hi
def TO.w(X:Cx)(o:Option aH):TO:=λσ H Q=>∃ t,PO X o t/\t σ H Q
theorem Qux{o:Option aH}:PO X o (TO.w X o):=λpins s σ H Q I ⟨t,h,q⟩=>h pins s σ H Q I q
theorem xq{lo hi:Option aH}{ml mh:Gam->Q1->Res (Option Int)}{p2:Pos}(I:SimE X E a ma)(hl:SimO X E lo ml)(hh:SimO X E hi mh):SimE X E (.Subscript a (.Slice lo hi zl p2) pos) (mSl ma ml mh):=
 ⟨λΓ σ H ρ st Q R G h=>WE.of (Qh2 (sl_tup.or (sl_whole.or Qk5)) Ji Qux Qux) (I.use R G h.bind λp Y H1 ρ1 v x1 R1 G1 r1 h1=>by
  refine hl.run Γ σ H1 ρ1 Y _ _ R1 G1 h1.bind λl a1 H2 Z x2 R2 G2 h2=>?_
  refine hh.run Γ σ H2 Z a1 _ _ R2 G2 h2.bind λu a2 H3 a3 x3 U G3 B=>?_
  have r3:=r1.ext (x2.trans x3);unfold oSl at B
  split at B
  ·rename_i xs;obtain⟨a,vs,rfl,I,na,J⟩:=r3
   by_cases O:HT.sIx vs.length 0 l=0/\HT.sIx vs.length vs.length u=vs.length
   ·refine .inr (.inl ⟨a,vs,rfl,SqT.of I,O,?_⟩);have e:cut xs l u=xs:=by
     unfold cut;rw[J.length,O.1,O.2,eA,eJ,<- J.length,fC]
    rw[e]at B;exact now U B ⟨a,vs,rfl,I,na,J⟩
   ·exact .inl ⟨a,vs,rfl,SqT.of I,O,Q03 U B (J.cut l u)⟩
  ·split at B
   ·rename_i xs e;obtain⟨a,vs,rfl,I,J⟩:=Jg U r3 e;exact .inr (.inr ⟨a,vs,rfl,.inl I,jz U B (J.cut l u)⟩)
   ·exact B.elim)⟩
variable{es:List aH}{e:aH}{mr:Gam->Q1->Res (List PV)}
def Qi(o:CF)(mr:Gam->Q1->Res (List PV)):ME:=λΓ st=>(mr Γ st).bind λps st1=>o st1 ps
theorem CallS.use {f:aA} (s:CallS X E f o) {P:PV->Q1->Hp->Tk->Prop} {Q:VK} {xs:List V} (R:Rel H ρ st) (O:RepL H ρ ps xs) (h:Acc X.mg E H ρ P (o st ps))
  (k:∀ p B H1 ρ1 v,Ext H ρ H1 ρ1->Rel H1 ρ1 B->Rep H1 ρ1 p v->P p B H1 ρ1->Q v H1):WC X f xs H Q:=by
 refine s.run H ρ st ps xs Q R O ?_;cases r:o st ps with
 | ok p B=>rw[r]at h;exact λH' ρ' I J v U=>k p B H' ρ' v I J U (h H' ρ' I J)
 | exc e st=>rw[r]at h;exact h
 | stuck=>rw[r]at h;exact h
theorem Kf {id:String} {p:Pos} (hc:CallS X E (.builtin id) o) (hg:Gl X x) (hm:X.mg x=zl) (U:aW x=zo (.builtin id)) (J:SimA X E (e :: es) mr) (hn:x≠"__name__" := by decide) (I:(x == ("__debug__" : Str))=zb:=by decide)
  (Y:aN (e :: es) X.env=(zb,aL e X.env) :: aN es X.env:=by rfl) (B:(aY pos (aN es X.env)).any (·.1)=zb:=by rfl):SimE X E (.Call (.Name x p) (e :: es) [] pos) (Qi o mr):=
 ⟨λΓ σ H ρ st Q R G h=>WE.of (Q8a Qiy hg hm U Q1u hn I Y B) (J.use R G h.bind λps O H1 ρ1 vs x1 Z G1 r1 h1=>hc.use Z r1 h1 λ_ _ _ _ v _ _ r q=>q v r)⟩
theorem Q82 {p:Pos} (hc:CallS X E (.type T) o) (hg:Gl X x) (hm:X.mg x=zl) (U:aW x=zo (.type T)) (J:SimA X E (e :: es) mr) (hn:x≠"__name__" := by decide) (I:(x == ("__debug__" : Str))=zb:=by decide)
  (Y:aN (e :: es) X.env=(zb,aL e X.env) :: aN es X.env:=by rfl) (B:(aY pos (aN es X.env)).any (·.1)=zb:=by rfl):SimE X E (.Call (.Name x p) (e :: es) [] pos) (Qi o mr):=
 ⟨λΓ σ H ρ st Q R G h=>WE.of (Q5a Qiy hg hm U Q1u hn I Y B) (J.use R G h.bind λps O H1 ρ1 vs x1 Z G1 r1 h1=>hc.use Z r1 h1 λ_ _ _ _ v _ _ r q=>q v r)⟩
theorem Zi{xs:List V}(r:RepL H ρ [p] xs):∃ v,xs=[v]/\Rep H ρ p v:=by
 obtain⟨v,t,rfl,h1,h2⟩:=r;cases h2;exact⟨v,rfl,h1⟩
theorem xu{q:PV}{xs:List V}(r:RepL H ρ [p,q] xs):∃ v u,xs=[v,u]/\Rep H ρ p v/\Rep H ρ q u:=by
 obtain⟨v,t,rfl,h1,h2⟩:=r;obtain⟨u,rfl,B⟩:=Zi h2;exact⟨v,u,rfl,h1,B⟩
def Z0:CF:=λst ps=>match ps with
 | [p]=>match Yf st p with
  | some xs=>.ok (.int xs.length) st
  | none=>match p with
   | .str x=>if x.length<=lim then .ok (.int x.length) st else .stuck
   | _=>.stuck
 | _=>.stuck
theorem Q46:CallS X E (.builtin "len") Z0:=⟨λH ρ st ps xs Q R J h=>by
 unfold Z0 at h
 split at h
 ·rename_i p;obtain⟨v,rfl,r⟩:=Zi J
  split at h
  ·rename_i ys e;obtain⟨t,a,vs,rfl,B,O⟩:=y4 (K:=X.K) R r e;rw[O.length]at h;exact WC.of Q7e ⟨a,vs,rfl,Q9z B,now R h rfl⟩
  ·split at h
   ·cases r
    split at h
    ·rename_i I;exact WC.of Q7d ⟨_,rfl,W5 I,now R h rfl⟩
    ·exact h.elim
   ·exact h.elim
 ·exact h.elim⟩
def Vh(g:List Int->Option PV):CF:=λst ps=>match ps with
 | [p]=>match (Yf st p).bind K4 with
  | some ns=>okO st (g ns)
  | none=>.stuck
 | _=>.stuck
def qw(g:List Bool->PV):CF:=λst ps=>match ps with
 | [p]=>match (Yf st p).bind Q1r with
  | some ns=>.ok (g ns) st
  | none=>.stuck
 | _=>.stuck
theorem Q3v{ns:List Int}(R:Rel H ρ st)(r:Rep H ρ p v)(e:(Yf st p).bind K4=zo ns):∃ (t:Bool) (a:aB),v=.ref a/\SqK K t H a (ns.map V.int):=by
 cases q:Yf st p with
 | none=>rw[q]at e;cases e
 | some xs=>
  rw[q]at e;obtain⟨t,a,vs,rfl,B,I⟩:=y4 (K:=K) R r q;rw[Q28 e]at I;rw[I.toInts]at B;exact⟨t,a,rfl,B⟩
theorem Qd2{ns:List Bool}(R:Rel H ρ st)(r:Rep H ρ p v)(e:(Yf st p).bind Q1r=zo ns):∃ (t:Bool) (a:aB),v=.ref a/\SqK K t H a (ns.map V.bl):=by
 cases q:Yf st p with
 | none=>rw[q]at e;cases e
 | some xs=>
  rw[q]at e;obtain⟨t,a,vs,rfl,B,I⟩:=y4 (K:=K) R r q;rw[Qjg e]at I;rw[I.toBls]at B;exact⟨t,a,rfl,B⟩
theorem Qsx(J:X.calm=zi):CallS X E (.builtin "sum") (Vh λns=>zo (.int ns.sum)):=⟨λH ρ st ps xs Q R I h=>by
 unfold Vh at h
 split at h
 ·obtain⟨v,rfl,r⟩:=Zi I
  split at h
  ·rename_i ns e;obtain⟨t,a,rfl,B⟩:=Q3v (K:=X.K) R r e;exact WC.of (Qiz t J) ⟨a,ns,rfl,B,now R h rfl⟩
  ·exact h.elim
 ·exact h.elim⟩
theorem Qt1(J:X.calm=zi):CallS X E (.builtin "all") (qw λns=>.bl (ns.all id)):=⟨λH ρ st ps xs Q R I h=>by
 unfold qw at h
 split at h
 ·obtain⟨v,rfl,r⟩:=Zi I
  split at h
  ·rename_i ns e;obtain⟨t,a,rfl,B⟩:=Qd2 (K:=X.K) R r e;exact WC.of (Qj1 t J) ⟨a,ns,rfl,B,now R h rfl⟩
  ·exact h.elim
 ·exact h.elim⟩
theorem Qt0(J:X.calm=zi):CallS X E (.builtin "any") (qw λns=>.bl (ns.any id)):=⟨λH ρ st ps xs Q R I h=>by
 unfold qw at h
 split at h
 ·obtain⟨v,rfl,r⟩:=Zi I
  split at h
  ·rename_i ns e;obtain⟨t,a,rfl,B⟩:=Qd2 (K:=X.K) R r e;exact WC.of (Qj0 t J) ⟨a,ns,rfl,B,now R h rfl⟩
  ·exact h.elim
 ·exact h.elim⟩
def Qys:List Int->Option Int
 | []=>zl
 | n :: ns=>zo (ns.foldl (λa b=>if b > a then b else a) n)
def Qef:List Int->Option Int
 | []=>zl
 | n :: ns=>zo (ns.foldl (λa b=>if b < a then b else a) n)
theorem Q5t:∀ (ns:List Int) (n:Int),(ns.foldl (λa b=>if b > a then b else a) n=n\/ns.foldl (λa b=>if b > a then b else a) n∈ns)/\n<=ns.foldl (λa b=>if b > a then b else a) n/\∀ k∈ns,k<=ns.foldl (λa b=>if b > a then b else a) n
 | [],n=>⟨.inl rfl,cG _,λk h=>by cases h⟩
 | m :: ns,n=>by
  obtain⟨h1,h2,J⟩:=Q5t ns (if m > n then m else n);rw[cS];refine⟨?_,?_,λk I=>?_⟩
  ·rcases h1 with e | e
   ·by_cases B:m > n
    ·rw[bO B]at e ⊢;exact .inr (by rw[e];exact D3)
    ·rw[bP B]at e ⊢;exact .inl e
   ·exact .inr (O6 _ e)
  ·by_cases B:m > n
   ·rw[bO B]at h2 ⊢;omega
   ·rw[bP B]at h2 ⊢;exact h2
  ·rcases E2.mp I with rfl | I
   ·by_cases B:k > n
    ·rw[bO B]at h2 ⊢;exact h2
    ·rw[bP B]at h2 ⊢;omega
   ·exact J k I
theorem Q5s:∀ (ns:List Int) (n:Int),(ns.foldl (λa b=>if b < a then b else a) n=n\/ns.foldl (λa b=>if b < a then b else a) n∈ns)/\ns.foldl (λa b=>if b < a then b else a) n<=n/\∀ k∈ns,ns.foldl (λa b=>if b < a then b else a) n<=k
 | [],n=>⟨.inl rfl,cG _,λk h=>by cases h⟩
 | m :: ns,n=>by
  obtain⟨h1,h2,J⟩:=Q5s ns (if m < n then m else n);rw[cS];refine⟨?_,?_,λk I=>?_⟩
  ·rcases h1 with e | e
   ·by_cases B:m < n
    ·rw[bO B]at e ⊢;exact .inr (by rw[e];exact D3)
    ·rw[bP B]at e ⊢;exact .inl e
   ·exact .inr (O6 _ e)
  ·by_cases B:m < n
   ·rw[bO B]at h2 ⊢;omega
   ·rw[bP B]at h2 ⊢;exact h2
  ·rcases E2.mp I with rfl | I
   ·by_cases B:k < n
    ·rw[bO B]at h2 ⊢;exact h2
    ·rw[bP B]at h2 ⊢;omega
   ·exact J k I
def Qf4:CF:=λst ps=>match ps with
 | [.int a,.int b]=>.ok (.int (if b > a then b else a)) st
 | ps=>Vh (λns=>(Qys ns).map .int) st ps
def jt:CF:=λst ps=>match ps with
 | [.int a,.int b]=>.ok (.int (if b < a then b else a)) st
 | ps=>Vh (λns=>(Qef ns).map .int) st ps
theorem Qsz(O:X.calm=zi):CallS X E (.builtin "max") Qf4:=⟨λH ρ st ps xs Q R J h=>by
 unfold Qf4 at h
 split at h
 ·obtain⟨v,u,rfl,r1,U⟩:=xu J;cases r1;cases U;exact WC.of (Qf3 O) ⟨_,_,rfl,now R h rfl⟩
 ·unfold Vh at h
  split at h
  ·obtain⟨v,rfl,r⟩:=Zi J
   split at h
   ·rename_i ns e;cases ns with
    | nil=>exact h.elim
    | cons n ns=>
     obtain⟨t,a,rfl,hq⟩:=Q3v (K:=X.K) R r e;refine WC.of (Qf2 t O) ⟨a,_,rfl,hq,by simp,λm B I=>?_⟩;have Y:m=ns.foldl (λa b=>if b > a then b else a) n:=by
      obtain⟨h1,h2,Z⟩:=Q5t ns n;have g1:ns.foldl (λa b=>if b > a then b else a) n<=m:=by
       rcases h1 with e | e
       ·rw[e];exact I _ D3
       ·exact I _ (O6 _ e)
      have g2:m<=ns.foldl (λa b=>if b > a then b else a) n:=by
       rcases E2.mp B with rfl | B
       ·exact h2
       ·exact Z m B
      omega
     subst Y;exact now R h rfl
   ·exact h.elim
  ·exact h.elim⟩
theorem Qsy(O:X.calm=zi):CallS X E (.builtin "min") jt:=⟨λH ρ st ps xs Q R J h=>by
 unfold jt at h
 split at h
 ·obtain⟨v,u,rfl,r1,U⟩:=xu J;cases r1;cases U;exact WC.of (Qf1 O) ⟨_,_,rfl,now R h rfl⟩
 ·unfold Vh at h
  split at h
  ·obtain⟨v,rfl,r⟩:=Zi J
   split at h
   ·rename_i ns e;cases ns with
    | nil=>exact h.elim
    | cons n ns=>
     obtain⟨t,a,rfl,hq⟩:=Q3v (K:=X.K) R r e;refine WC.of (Qf0 t O) ⟨a,_,rfl,hq,by simp,λm B I=>?_⟩;have Y:m=ns.foldl (λa b=>if b < a then b else a) n:=by
      obtain⟨h1,h2,Z⟩:=Q5s ns n;have g1:m<=ns.foldl (λa b=>if b < a then b else a) n:=by
       rcases h1 with e | e
       ·rw[e];exact I _ D3
       ·exact I _ (O6 _ e)
      have g2:ns.foldl (λa b=>if b < a then b else a) n<=m:=by
       rcases E2.mp B with rfl | B
       ·exact h2
       ·exact Z m B
      omega
     subst Y;exact now R h rfl
   ·exact h.elim
  ·exact h.elim⟩
def Xi:CF:=λst ps=>match ps with
 | [p]=>match Yf st p with
  | some xs=>.ok (.lst xs) st
  | none=>.stuck
 | _=>.stuck
def Xh:CF:=λst ps=>match ps with
 | [p]=>match Yf st p with
  | some xs=>.ok (.tup xs) st
  | none=>.stuck
 | _=>.stuck
theorem Qn8:CallS X E (.type "list") Xi:=⟨λH ρ st ps xs Q R I h=>by
 unfold Xi at h
 split at h
 ·obtain⟨v,rfl,r⟩:=Zi I
  split at h
  ·rename_i ys e;obtain⟨t,a,vs,rfl,B,J⟩:=y4 (K:=X.K) R r e;exact WC.of Q0i ⟨a,vs,rfl,Q9z B,jz R h J⟩
  ·exact h.elim
 ·exact h.elim⟩
theorem Qiu:CallS X E (.type "tuple") Xh:=⟨λH ρ st ps xs Q R J h=>by
 unfold Xh at h
 split at h
 ·rename_i p;obtain⟨v,rfl,r⟩:=Zi J
  split at h
  ·rename_i ys e;cases p with
   | tup zs=>
    cases e;obtain⟨a,vs,rfl,B,O,I⟩:=r;exact WC.of zx ⟨a,vs,rfl,.inr ⟨SqT.of B,now R h ⟨a,vs,rfl,B,O,I⟩⟩⟩
   | _=>
    obtain⟨a,vs,rfl,B,I⟩:=Jg R r e;exact WC.of zx ⟨a,vs,rfl,.inl ⟨.inl B,Q03 R h I⟩⟩
  ·exact h.elim
 ·exact h.elim⟩
def tyN:PV->String
 | .non => "NoneType"
 | .bl _ => "bool"
 | .int _ => "int"
 | .str _ => "str"
 | .tup _ => "tuple"
 | .lst _ => "list"
 | .fro _ => "list"
 | .ref _ => "list"
 | .dic => "dict"
def dpv(st:Q1):PV->PV
 | .ref i=>match st[i]? with
  | some (.dic _)=>.dic
  | some (.dtp _)=>.dic
  | _=>.ref i
 | p=>p
def isI(T:String)(p:PV):Bool:=tyN p == T || (T == "int" && tyN p == "bool")
def zq(st:Q1):PV->Bool
 | .ref i=>match st[i]? with
  | some (.frd _)=>zi
  | some (.frt _)=>zi
  | some (.obj _ _)=>zi
  | _=>zb
 | _=>zb
theorem Qu0(B:zq st p=zb)(R:Rel H ρ st)(r:Rep H ρ p v):TyOf K H v (.type (tyN (dpv st p))):=by
 cases p with
 | non=>cases r;exact .non
 | bl b=>cases r;exact .bl b
 | int i=>cases r;exact .int i
 | str x=>cases r;exact .str x
 | tup ps=>obtain⟨a,vs,rfl,h,_⟩:=r;exact .tup h
 | lst ps=>obtain⟨a,vs,rfl,h,_⟩:=r;exact .lst h
 | fro ps=>
  obtain⟨a,vs,rfl,h,_⟩:=r;rcases h with h | ⟨o,h⟩
  ·exact .lst h
  ·exact .frz h
 | ref i=>
  obtain⟨a,e,rfl⟩:=r;have J:i < st.length:=by rw[<- R.len];exact(O1.mp e).1
  have hs:=O2 J;have q:=R.cell i a st[i] e hs;cases I:st[i]with
  | lst xs=>rw[I]at q hs;simp only[dpv,hs];obtain⟨vs,h,_⟩:=q;exact .lst h
  | dic xs=>rw[I]at q hs;simp only[dpv,hs];obtain⟨vs,h,_⟩:=q;exact .dK h
  | dtp xs=>rw[I]at q hs;simp only[dpv,hs];obtain⟨vs,h,_⟩:=q;exact .dT h
  | frd xs=>rw[I]at hs;simp only[zq,hs]at B;cases B
  | frt xs=>rw[I]at hs;simp only[zq,hs]at B;cases B
  | obj C xs=>rw[I]at hs;simp only[zq,hs]at B;cases B
 | dic=>obtain⟨a,rfl,h,_⟩:=r;exact .dK h
def Q3t:List String:=["int", "bool", "str", "tuple", "list", "dict"]
theorem Qs7(K:bS)(B:T∈Q3t)(p:PV):eR K (.type (tyN p)) (.type T)=zo (isI T p):=by
 have B:T = "int" \/ T = "bool" \/ T = "str" \/ T = "tuple" \/ T = "list" \/ T = "dict" := by simpa[Q3t]using B
 rcases B with rfl | rfl | rfl | rfl | rfl | rfl <;> cases p <;> first | rfl | kernel_rfl
def Q4v(T:String)(m:ME):ME:=λΓ st=>(m Γ st).bind λp st1=>if zq st1 p=zi then .stuck else .ok (.bl (isI T (dpv st1 p))) st1
theorem Qqa {tx:Str} {p tp:Pos} (hT:T∈Q3t) (ha:SimE X E a ma) (hg:Gl X "isinstance") (hm:X.mg "isinstance" = zl) (U:Gl X tx) (Y:X.mg tx=zl) (Z:aW tx=zo (.type T))
  (hn:tx≠"__name__" := by decide) (hd:(tx == ("__debug__" : Str))=zb:=by decide)
  (he:aN [a,.Name tx tp] X.env=(zb,aL a X.env) :: aN [.Name tx tp] X.env:=by rfl) (J:aN [.Name tx tp] X.env=(zb,aL (.Name tx tp) X.env) :: aN [] X.env:=by rfl) (I:(aY pos (aN [.Name tx tp] X.env)).any (·.1)=zb:=by rfl) :
  SimE X E (.Call (.Name "isinstance" p) [a,.Name tx tp] [] pos) (Q4v T ma):=
 ⟨λΓ σ H ρ st Q R G h=>WE.of (Q8a Q9h hg hm Q1x (xx Ji (xx (Qm8 U Y Z (v:=.ty T) rfl hn hd) Q6q J) he) (by decide) (by decide) he I)
  (ha.use R G h.bind λq B H1 ρ1 v x1 R1 G1 r1 h1=>by
   by_cases O:zq B q=zi
   ·rw[bO O]at h1;exact h1.elim
   ·rw[bP O]at h1;exact⟨v,.ty T,.type T,_,_,rfl,rfl,Qu0 (by simpa using O) R1 r1,Qs7 X.K hT (dpv B q),now R1 h1 rfl⟩)⟩
end
abbrev GA:=PV->Gam->Option Gam
abbrev GAs:=List PV->Gam->Option Gam
variable{gs:GAs}
structure SimG(X:Cx)(tg:aH)(ga:GA):Prop where
 run:∀ (Γ Γ':Gam) (σ:St) (H:Hp) (ρ:Tk) (p:PV) (v:V) (Q:St->Hp->Prop),EnvR H ρ Γ σ->Rep H ρ p v->ga p Γ=zo Γ'->(∀ σ',EnvR H ρ Γ' σ'->Q σ' H)->∃ t,PG X tg t/\t v σ H Q
structure SimGs(X:Cx)(tgs:List aH)(n:Nat)(ga:GAs):Prop where
 run:∀ (Γ Γ':Gam) (σ:St) (H:Hp) (ρ:Tk) (ps:List PV) (vs:List V) (Q:St->Hp->Prop),EnvR H ρ Γ σ->RepL H ρ ps vs->ga ps Γ=zo Γ'->(∀ σ',EnvR H ρ Γ' σ'->Q σ' H)->∃ t,PGs X tgs t/\t vs σ H Q
 len:∀ ps Γ Γ',ga ps Γ=zo Γ'->ps.length=n
def Q4(i:Nat):GA:=λp Γ=>zo (Γ.set i (zo p))
def Qw:GAs:=λps Γ=>match ps with
 | []=>zo Γ
 | _=>zl
def Q6(g:GA)(gs:GAs):GAs:=λps Γ=>match ps with
 | p :: r=>(g p Γ).bind (gs r)
 | []=>zl
def Qv(gs:GAs):GA:=λp Γ=>match p with
 | .tup ps=>gs ps Γ
 | _=>zl
theorem Ub{i:Nat}(O:X.N.Nodup)(hi:X.N[i]?=zo x:=by rfl)(J:Loc X.env.scope x:=by first | exact Or.inl rfl | exact Or.inr rfl)(B:X.fn x=zi\/X.env.scope.names.lookup x=zo .local:=by first | exact .inl rfl | exact .inr rfl):SimG X (.Name x pos) (Q4 i):=
 ⟨λΓ I σ H ρ p v Q G r e k=>⟨_,Qm4 O hi J B,by cases e;exact k _ (G.set r i)⟩⟩
theorem Qbv:SimGs X [] 0 Qw:=⟨λΓ B σ H ρ ps vs Q G r e k=>⟨_,Qm2,by
 cases ps with
 | nil=>cases e;cases r;exact⟨rfl,k σ G⟩
 | cons _ _=>cases e⟩,λps Γ B e=>by
 cases ps with
 | nil=>rfl
 | cons _ _=>cases e⟩
def WGx(X:Cx)(tg:aH):TG:=λv σ H Q=>∃ t,PG X tg t/\t v σ H Q
theorem Qm3{tg:aH}:PG X tg (WGx X tg):=λpins s σ H v u Q I r ⟨t,h,q⟩=>h pins s σ H v u Q I r q
def Qz6(X:Cx)(tgs:List aH):TGs:=λv σ H Q=>∃ t,PGs X tgs t/\t v σ H Q
theorem Qnx{B:List aH}:PGs X B (Qz6 X B):=λpins s σ H v u Q I r ⟨t,h,q⟩=>h pins s σ H v u Q I r q
theorem j5{g:GA}(h1:SimG X e g)(h2:SimGs X es n gs)(hs:(au (e :: es) X.env).map (·.2)=assign e X.env :: (au es X.env).map (·.2):=by rfl):SimGs X (e :: es) (n + 1) (Q6 g gs):=
 ⟨λΓ B σ H ρ ps vs Q G r eq k=>⟨_,Qgz Qm3 Qnx hs,by
  cases ps with
  | nil=>cases eq
  | cons p ps=>
   obtain⟨v,t,rfl,Y,O⟩:=r;have eq:(g p Γ).bind (gs ps)=zo B:=eq;cases e1:g p Γ with
   | none=>rw[e1]at eq;cases eq
   | some I=>
    rw[e1]at eq;exact⟨v,t,rfl,h1.run Γ I σ H ρ p v _ G Y e1 λJ U=>h2.run I B J H ρ ps t _ U O eq k⟩⟩,λps Γ B e=>by
  cases ps with
  | nil=>cases e
  | cons p ps=>
   have e:(g p Γ).bind (gs ps)=zo B:=e;cases e1:g p Γ with
   | none=>rw[e1]at e;cases e
   | some I=>rw[e1]at e;rw[E5,h2.len ps I B e]⟩
theorem Qg4(U:X.calm=zi)(h:SimGs X es n gs)(hn:(au es X.env).length=n:=by rfl)(I:(au es X.env).findIdx? (·.1)=zl:=by rfl):SimG X (.Tuple es k pos) (Qv gs):=
 ⟨λΓ B σ H ρ p v Q G r e q=>⟨_,Qqx U Qnx hn I,by
  cases p with
  | tup ps=>
   obtain⟨a,vs,rfl,O,Y,J⟩:=r;exact⟨a,vs,rfl,SqT.of O,by rw[<- J.length];exact h.len ps Γ B e,h.run Γ B σ H ρ ps vs Q G J e q⟩
  | _=>cases e⟩⟩
abbrev Wt:=List (Nat × Cell)
def wOk(w:Wt)(st:Q1):Prop:=∀ x∈w,st[x.1]?=zo x.2
theorem Qs(st:Q1):wOk [] st:=λx h=>by cases h
structure Src(J:It)(items:List PV)(w:Wt)(H:Hp)(ρ:Tk):Prop where
 stop:∀ H2 ρ2 st2,Ext H ρ H2 ρ2->Rel H2 ρ2 st2->wOk w st2->J.stop items.length H2
 go:∀ H2 ρ2 st2,Ext H ρ H2 ρ2->Rel H2 ρ2 st2->wOk w st2->∀ i,i < items.length->J.go i H2
 yld:∀ H2 ρ2 st2,Ext H ρ H2 ρ2->Rel H2 ρ2 st2->wOk w st2->∀ i p,items[i]?=zo p->∀ x H3,J.yld i H2 x H3->Same H2 H3/\Rep H3 ρ2 p x
abbrev MI:=Gam->Q1->Res (List PV × Wt)
structure SimI(X:Cx)(E:XK)(tg iter:aH)(mi:MI):Prop where
 run:∀ (Γ:Gam) (σ:St) (H:Hp) (ρ:Tk) (st:Q1) (P:List PV × Wt->Q1->Hp->Tk->Prop) (R':It->Hp->Prop),Rel H ρ st->EnvR H ρ Γ σ->Acc X.mg E H ρ P (mi Γ st) ->
  (∀ iw st1 H1 ρ1 J,mi Γ st=.ok iw st1->Ext H ρ H1 ρ1->Rel H1 ρ1 st1->EnvR H1 ρ1 Γ σ->wOk iw.2 st1->iw.1.length<=sizeLine->Src J iw.1 iw.2 H1 ρ1->P iw st1 H1 ρ1->R' J H1)->WI X tg iter σ H R'
def Y8(st:Q1):PV->Option (List PV × Wt)
 | .tup xs=>zo (xs,[])
 | .lst xs=>zo (xs,[])
 | .fro xs=>zo (xs,[])
 | .ref i=>match st[i]? with
  | some (.lst xs)=>zo (xs,[(i,.lst xs)])
  | _=>zl
 | _=>zl
theorem Q2u {K:bS} {w:Wt} (R:Rel H ρ st) (r:Rep H ρ p v) (e:Y8 st p=zo (xs,w)) :
  wOk w st/\∃ (t:Bool) (a:aB),v=.ref a/\(t=zi->∃ ys,p=.tup ys)/\(t=zb->∀ ys,p≠.tup ys)/\∀ H2 B I,Ext H ρ H2 B->Rel H2 B I->wOk w I->∃ vs,SqK K t H2 a vs/\RepL H2 B xs vs:=by
 cases p with
 | tup ys=>
  obtain⟨a,vs,rfl,J,O,U⟩:=r;cases e;exact⟨Qs _,zi,a,rfl,λ_=>⟨_,rfl⟩,(λz=>by cases z),λH2 B I x R2 _=>⟨vs,show SqT K H2 a vs from SqT.of (x.kp J O),U.ext x⟩⟩
 | lst ys=>
  obtain⟨a,vs,rfl,J,O,U⟩:=r;cases e;exact⟨Qs _,zb,a,rfl,(λz=>by cases z),(λ_ _ z=>by cases z),λH2 B I x R2 _=>⟨vs,show SqL K H2 a vs from SqL.of (x.kp J O),U.ext x⟩⟩
 | fro ys=>
  obtain⟨a,vs,rfl,J,O,U⟩:=r;cases e;refine⟨Qs _,zb,a,rfl,(λz=>by cases z),(λ_ _ z=>by cases z),λH2 B I x R2 _=>⟨vs,show SqL K H2 a vs from ?_,U.ext x⟩⟩
  rcases J with J | ⟨o,J⟩
  ·exact .inl (.inl (x.kp J O))
  ·exact .inl (.inr ⟨o,x.kp J O⟩)
 | ref i=>
  obtain⟨a,Z,rfl⟩:=r;simp only[Y8]at e
  split at e
  ·rename_i ys hs;cases e;refine⟨λx hx=>?_,zb,a,rfl,(λz=>by cases z),(λ_ _ z=>by cases z),λH2 B I x R2 ok=>?_⟩
   ·have:x=(i,.lst xs):=by simpa using hx
    subst this;exact hs
   ·have Y:=ok (i,.lst xs) (by simp);obtain⟨b,vs,f1,f2,f3⟩:=R2.lst Y;obtain⟨t,et⟩:=x.pre;rw[<- et,O3 (O1.mp Z).1,Z]at f1;cases f1;exact⟨vs,show SqL K H2 a vs from SqL.of f2,f3⟩
  ·cases e
 | _=>cases e
section
variable{X:Cx}{E:XK}{pos:Pos}{tg:aH}{e:aH}{m:ME}
def Yz(m:ME):MI:=λΓ st=>(m Γ st).bind λp st1=>match Y8 st1 p with
 | some (xs,w)=>if xs.length<=lim then .ok (xs,w) st1 else .stuck
 | none=>.stuck
theorem RepL.i{H:Hp}{ρ:Tk}{ps:List PV}{vs:List V}{i:Nat}{p:PV}{x:V}(r:RepL H ρ ps vs)(h:ps[i]?=zo p)(h':vs[i]?=zo x):Rep H ρ p x:=by
 obtain⟨v,e,q⟩:=r.get h;rw[h']at e;cases e;exact q
theorem Qbt{t:Bool}{a:aB}{w:Wt}(h:∀ H2 B I,Ext H ρ H2 B->Rel H2 B I->wOk w I->∃ vs,SqK K t H2 a vs/\RepL H2 B xs vs):Src (if t=zi then Itt K a else Itl K a) xs w H ρ:=by
 cases t with
 | true=>
  rw[bO rfl];refine⟨λH2 B I x R ok=>?_,λH2 B I x R ok i hi=>?_,λH2 B I x R ok i p Y y Z O=>?_⟩
  ·obtain⟨vs,s,r⟩:=h H2 B I x R ok;exact⟨vs,s,by rw[r.length];exact O9 _⟩
  ·obtain⟨vs,s,r⟩:=h H2 B I x R ok;have J:i < vs.length:=by rw[<- r.length];exact hi
   exact⟨vs,vs[i],s,O2 J⟩
  ·obtain⟨vs,s,r⟩:=h H2 B I x R ok;obtain⟨rfl,U⟩:=O;exact⟨Same.refl _,r.i Y (U vs s)⟩
 | false=>
  rw[bP F5];refine⟨λH2 B I x R ok=>?_,λH2 B I x R ok i hi=>?_,λH2 B I x R ok i p Y y Z O=>?_⟩
  ·obtain⟨vs,s,r⟩:=h H2 B I x R ok;exact⟨vs,s,by rw[r.length];exact O9 _⟩
  ·obtain⟨vs,s,r⟩:=h H2 B I x R ok;have J:i < vs.length:=by rw[<- r.length];exact hi
   exact⟨vs,vs[i],s,O2 J⟩
  ·obtain⟨vs,s,r⟩:=h H2 B I x R ok;obtain⟨rfl,U⟩:=O;exact⟨Same.refl _,r.i Y (U vs s)⟩
theorem Qcg {P:List PV × Wt->Q1->Hp->Tk->Prop} (R:Rel H ρ st) (h:Acc mg E H ρ P (match Y8 st p with | some (xs,w)=>if xs.length<=lim then .ok (xs,w) st else .stuck | none=>.stuck)) :
  ∃ xs w,Y8 st p=zo (xs,w)/\xs.length<=lim/\P (xs,w) st H ρ:=by
 split at h
 ·rename_i xs w e
  split at h
  ·rename_i B;exact⟨xs,w,e,B,h H ρ (Ext.refl _ _) R⟩
  ·exact h.elim
 ·exact h.elim
theorem Q2x(ha:SimE X E e m):SimI X E tg e (Yz m):=⟨λΓ σ H ρ st P R' R G h k=>by
 have hb:Acc X.mg E H ρ _ (m Γ st):=Acc.bind h
 by_cases ht:∃ ys B,m Γ st=.ok (.tup ys) B
 ·obtain⟨ys,a1,e0⟩:=ht;refine WI.of (Qqw Ji) (ha.use' R G hb λp B H1 ρ1 v eq x1 I Y Z h1=>?_);obtain⟨xs,w,e,O,U⟩:=Qcg I h1;obtain⟨ok,t,a,rfl,t1,t2,J⟩:=Q2u (K:=X.K) I Z e;have ep:p=.tup ys:=by rw[eq]at e0;injection e0
  cases t with
  | false=>exact absurd ep (t2 rfl ys)
  | true=>
   obtain⟨vs,s,_⟩:=J H1 ρ1 B (Ext.refl _ _) I ok;exact⟨a,rfl,⟨vs,s⟩,k (xs,w) B H1 ρ1 _ (by simp only[Yz,eq,Res.bind,e,bO O]) x1 I Y ok (W5 O) (Qbt J) U⟩
 ·refine WI.of (Qm0 Ji) (ha.use' R G hb λp B H1 ρ1 v eq x1 I Y Z h1=>?_);obtain⟨xs,w,e,O,U⟩:=Qcg I h1;obtain⟨ok,t,a,rfl,t1,t2,J⟩:=Q2u (K:=X.K) I Z e;cases t with
  | true=>
   obtain⟨ys,rfl⟩:=t1 rfl;exact absurd ⟨ys,B,eq⟩ ht
  | false=>
   obtain⟨vs,s,_⟩:=J H1 ρ1 B (Ext.refl _ _) I ok;exact⟨a,rfl,⟨vs,s⟩,k (xs,w) B H1 ρ1 _ (by simp only[Yz,eq,Res.bind,e,bO O]) x1 I Y ok (W5 O) (Qbt J) U⟩⟩
def Wn(lo:Int)(n:Nat):List PV:=(bT n).map λ(k:Nat)=>PV.int (lo + (k:Int))
theorem Qdh{lo:Int}:Src (Itr lo n) (Wn lo n) [] H ρ:=by
 have U:(Wn lo n).length=n:=by unfold Wn;rw[O0,F6]
 refine⟨λH2 I B x R ok=>?_,λH2 I B x R ok i hi=>?_,λH2 I B x R ok i p J y Y O=>?_⟩
 ·show n<=(Wn lo n).length;omega
 ·show i < n;omega
 ·obtain⟨rfl,rfl⟩:=O;have hi:i < n:=by rw[<- U];exact(O1.mp J).1
  unfold Wn at J;rw[F4,cr hi]at J;cases J;exact⟨Same.refl _,rfl⟩
def Z2(mr:Gam->Q1->Res (List PV)):MI:=λΓ st=>(mr Γ st).bind λps st1=>match ps with
 | [.int j]=>if -(lim:Int)<=j/\j<=lim then .ok (Wn 0 j.toNat,[]) st1 else .stuck
 | _=>.stuck
variable{a b:aH}{mr:Gam->Q1->Res (List PV)}{p:Pos}
theorem Qa9(lo:Int)(n:Nat):(Wn lo n).length=n:=by unfold Wn;rw[O0,F6]
theorem Qdm(Z:Gl X "range")(U:X.mg "range" = zl)(O:SimA X E [a] mr)(hs:aN [a] X.env=[(zb,aL a X.env)]:=by rfl):SimI X E tg (.Call (.Name "range" p) [a] [] pos) (Z2 mr):=⟨λΓ σ H ρ st P R' R G h k=>by
 refine WI.of (Qe4 Z U Q1u hs) (O.use' R G h.bind λps B H1 ρ1 vs eq x1 I Y r1 h1=>?_)
 split at h1
 ·rename_i j
  split at h1
  ·rename_i hj;obtain⟨v,rfl,J⟩:=Zi r1;cases J;have hl:(lim:Int)=1000000:=rfl;refine⟨j,rfl,by omega,by omega,k (Wn 0 j.toNat,[]) B H1 ρ1 _ (by simp only[Z2,eq,Res.bind,bO hj]) x1 I Y (Qs _) ?_ Qdh (h1 H1 ρ1 (Ext.refl _ _) I)⟩;show(Wn 0 j.toNat).length<=sizeLine;rw[Qa9];exact W5 (by omega)
  ·exact h1.elim
 ·exact h1.elim⟩
def Ks:List PV->List PV->List PV
 | x :: xs,y :: ys=>.tup [x,y] :: Ks xs ys
 | _,_=>[]
theorem yy(xs ys:List PV):Ks xs ys=(xs.zip ys).map λz=>.tup [z.1,z.2]:=by
 induction xs generalizing ys with
 | nil=>rfl
 | cons x xs B=>
  cases ys with
  | nil=>rfl
  | cons y ys=>rw[Ks,B];rfl
theorem Q2j(xs ys:List PV):(Ks xs ys).length=min xs.length ys.length:=by rw[yy,O0,cs]
theorem Qfd{ys:List PV}{i:Nat}{p:PV}(h:(Ks xs ys)[i]?=zo p):∃ x y,p=.tup [x,y]/\xs[i]?=zo x/\ys[i]?=zo y:=by
 rw[yy,F4]at h;cases e:(xs.zip ys)[i]? with
 | none=>rw[e]at h;cases h
 | some z=>
  rw[e]at h;cases h;rw[List.getElem?_zip_eq_some]at e;exact⟨z.1,z.2,rfl,e.1,e.2⟩
def zn(mr:Gam->Q1->Res (List PV)):MI:=λΓ st=>(mr Γ st).bind λps st1=>match ps with
 | [p,q]=>match Y8 st1 p,Y8 st1 q with
  | some (xs,w),zo (ys,w')=>if xs.length<=lim then .ok (Ks xs ys,w ++ w') st1 else .stuck
  | _,_=>.stuck
 | _=>.stuck
theorem jv{w I:Wt}(h:wOk (w ++ I) st):wOk w st/\wOk I st:=⟨λx B=>h x (M5 _ B),λx B=>h x (G7 _ B)⟩
theorem Qk3 {t1 t2:Bool} {a b:aB} {ys:List PV} {w U:Wt} (h:∀ H2 B I,Ext H ρ H2 B->Rel H2 B I->wOk w I->∃ vs,SqK K t1 H2 a vs/\RepL H2 B xs vs)
  (h':∀ H2 B I,Ext H ρ H2 B->Rel H2 B I->wOk U I->∃ vs,SqK K t2 H2 b vs/\RepL H2 B ys vs):Src (Itz K t1 t2 a b) (Ks xs ys) (w ++ U) H ρ:=by
 refine⟨λH2 B I x R ok=>?_,λH2 B I x R ok i hi=>?_,λH2 B I x R ok i p hp y H3 Y=>?_⟩
 ·obtain⟨vs,s,r⟩:=h H2 B I x R (jv ok).1;obtain⟨us,s',J⟩:=h' H2 B I x R (jv ok).2;refine⟨vs,us,s,s',?_⟩;rw[Q2j,<- r.length,<- J.length];omega
 ·obtain⟨vs,s,r⟩:=h H2 B I x R (jv ok).1;obtain⟨us,s',J⟩:=h' H2 B I x R (jv ok).2;rw[Q2j,r.length,J.length]at hi;have h1:i < vs.length:=by omega
  have h2:i < us.length:=by omega
  exact⟨vs,us,vs[i],us[i],s,s',O2 h1,O2 h2⟩
 ·obtain⟨vs,s,r⟩:=h H2 B I x R (jv ok).1;obtain⟨us,s',J⟩:=h' H2 B I x R (jv ok).2;obtain⟨q,u,v,hn,rfl,rfl,Z⟩:=Y;obtain⟨e1,e2⟩:=Z vs us s s';obtain⟨xp,yp,rfl,p1,p2⟩:=Qfd hp;have O:Same H2 (upd H2 q (.tup [u,v])):=Q2z hn;exact⟨O,q,[u,v],rfl,Qx,R.fresh hn,RepL.cons ((r.i p1 e1).ext (Ext.same O)) (RepL.cons ((J.i p2 e2).ext (Ext.same O)) RepL.nil)⟩
theorem Qq3 {elts:List aH} {kt:Nat} {tp:Pos} (hg:Gl X "zip") (hm:X.mg "zip" = zl) (ha:SimA X E [a,b] mr) (hs:aN [a,b] X.env=[(zb,aL a X.env),(zb,aL b X.env)]:=by rfl) (a9:aN [b] X.env=[(zb,aL b X.env)]:=by rfl) :
  SimI X E (.Tuple elts kt tp) (.Call (.Name "zip" p) [a,b] [] pos) (zn mr):=⟨λΓ σ H ρ st P R' R G h k=>by
 have hb:Acc X.mg E H ρ _ (mr Γ st):=Acc.bind h;have I:∀ t1 t2:Bool,(∀ p q B,mr Γ st=.ok [p,q] B->(t1=zi <-> ∃ ys,p=.tup ys)/\(t2=zi <-> ∃ ys,q=.tup ys))->WI X (.Tuple elts kt tp) (.Call (.Name "zip" p) [a,b] [] pos) σ H R':=λt1 t2 ht=>by
  refine WI.of (Qqv t1 t2 hg hm Q1u hs a9) (ha.use' R G hb λps B H1 ρ1 vs eq x1 J G1 r1 h1=>?_)
  split at h1
  ·rename_i p' q'
   split at h1
   ·rename_i xs w ys w' e1 e2
    split at h1
    ·rename_i hl;obtain⟨v,u,rfl,rv,ru⟩:=xu r1;obtain⟨U,b1,a1,rfl,z1,a5,O⟩:=Q2u (K:=X.K) J rv e1;obtain⟨a3,b2,a2,rfl,z2,a8,Y⟩:=Q2u (K:=X.K) J ru e2;obtain⟨g1,g2⟩:=ht _ _ _ eq;have a7:b1=t1:=by
      cases b1 with
      | true=>exact(g1.mpr (z1 rfl)).symm
      | false=>
       cases t1 with
       | false=>rfl
       | true=>obtain⟨ys,e⟩:=g1.mp rfl;exact absurd e (a5 rfl ys)
     have a4:b2=t2:=by
      cases b2 with
      | true=>exact(g2.mpr (z2 rfl)).symm
      | false=>
       cases t2 with
       | false=>rfl
       | true=>obtain⟨ys,e⟩:=g2.mp rfl;exact absurd e (a8 rfl ys)
     subst a7;subst a4;obtain⟨b0,s1,_⟩:=O H1 ρ1 B (Ext.refl _ _) J U;obtain⟨a6,s2,_⟩:=Y H1 ρ1 B (Ext.refl _ _) J a3;refine⟨a1,a2,b0,a6,rfl,s1,s2,k (Ks xs ys,w ++ w') B H1 ρ1 _ (by simp only[zn,eq,Res.bind,e1,e2,bO hl]) x1 J G1 (λx Z=>?_) ?_ (Qk3 O Y) (h1 H1 ρ1 (Ext.refl _ _) J)⟩
     ·rcases D4.mp Z with Z | Z
      ·exact U x Z
      ·exact a3 x Z
     ·show(Ks xs ys).length<=sizeLine;rw[Q2j];exact W5 (F8 (Nat.min_le_left _ _) hl)
    ·exact h1.elim
   ·exact h1.elim
  ·exact h1.elim
 have tt:∀ p:PV,∃ t:Bool,t=zi <-> ∃ ys,p=.tup ys:=λp=>by
  cases p with
  | tup ys=>exact⟨zi,λ_=>⟨ys,rfl⟩,λ_=>rfl⟩
  | _=>exact⟨zb,⟨λz=>(by cases z),λ⟨_,z⟩=>(by cases z)⟩⟩
 by_cases hz:∃ p q B,mr Γ st=.ok [p,q] B
 ·obtain⟨p0,q0,b3,e0⟩:=hz;obtain⟨t1,g1⟩:=tt p0;obtain⟨t2,g2⟩:=tt q0;refine I t1 t2 λp q B e=>?_
  rw[e0]at e;cases e;exact⟨g1,g2⟩
 ·exact I zi zi λp q B e=>absurd ⟨p,q,B,e⟩ hz⟩
def Vt:Nat->List PV->List PV
 | _,[]=>[]
 | n,x :: xs=>.tup [.int n,x] :: Vt (n + 1) xs
theorem X7:∀ (n:Nat) (xs:List PV),(Vt n xs).length=xs.length
 | _,[]=>rfl
 | n,x :: xs=>by rw[Vt,E5,X7 (n + 1) xs,E5]
theorem Q1d:∀ {n:Nat} {xs:List PV} {i:Nat} {p:PV},(Vt n xs)[i]?=zo p->∃ x,p=.tup [.int (n + i:Nat),x]/\xs[i]?=zo x
 | n,[],i,p,h=>by simp[Vt]at h
 | n,x :: xs,0,p,h=>by
  simp[Vt]at h;exact⟨x,h.symm,rfl⟩
 | n,x :: xs,i + 1,p,h=>by
  rw[Vt,cy]at h;obtain⟨y,e1,e2⟩:=Q1d h;exact⟨y,by rw[e1,show n + 1 + i=n + (i + 1) by omega],by simpa using e2⟩
def zu(mr:Gam->Q1->Res (List PV)):MI:=λΓ st=>(mr Γ st).bind λps st1=>match ps with
 | [p]=>match Y8 st1 p with
  | some (xs,w)=>if xs.length<=lim then .ok (Vt 0 xs,w) st1 else .stuck
  | none=>.stuck
 | _=>.stuck
theorem Qg1{t:Bool}{a:aB}{w:Wt}(h:∀ H2 B I,Ext H ρ H2 B->Rel H2 B I->wOk w I->∃ vs,SqK K t H2 a vs/\RepL H2 B xs vs):Src (Ite K t a) (Vt 0 xs) w H ρ:=by
 refine⟨λH2 B I x R ok=>?_,λH2 B I x R ok i hi=>?_,λH2 B I x R ok i p Z y H3 O=>?_⟩
 ·obtain⟨vs,s,r⟩:=h H2 B I x R ok;exact⟨vs,s,by rw[X7,r.length];exact O9 _⟩
 ·obtain⟨vs,s,r⟩:=h H2 B I x R ok;rw[X7,r.length]at hi;exact⟨vs,vs[i],s,O2 hi⟩
 ·obtain⟨vs,s,r⟩:=h H2 B I x R ok;obtain⟨q,u,hn,rfl,rfl,U⟩:=O;have e1:=U vs s;obtain⟨xp,rfl,Y⟩:=Q1d Z;have J:Same H2 (upd H2 q (.tup [.int i,u])):=Q2z hn;exact⟨J,q,[.int i,u],rfl,Qx,R.fresh hn,RepL.cons (by rw[gt];rfl) (RepL.cons ((r.i Y e1).ext (Ext.same J)) RepL.nil)⟩
theorem Qk6 {elts:List aH} {kt:Nat} {tp:Pos} (hg:Gl X "enumerate") (hm:X.mg "enumerate" = zl) (ha:SimA X E [a] mr) (hs:aN [a] X.env=[(zb,aL a X.env)]:=by rfl) :
  SimI X E (.Tuple elts kt tp) (.Call (.Name "enumerate" p) [a] [] pos) (zu mr):=⟨λΓ σ H ρ st P R' R G h k=>by
 have hb:Acc X.mg E H ρ _ (mr Γ st):=Acc.bind h;have I:∀ t1:Bool,(∀ p B,mr Γ st=.ok [p] B->(t1=zi <-> ∃ ys,p=.tup ys))->WI X (.Tuple elts kt tp) (.Call (.Name "enumerate" p) [a] [] pos) σ H R':=λt1 ht=>by
  refine WI.of (Qm1 t1 hg hm Q1u hs) (ha.use' R G hb λps B H1 ρ1 vs eq x1 Y G1 r1 h1=>?_)
  split at h1
  ·rename_i p'
   split at h1
   ·rename_i xs w e1
    split at h1
    ·rename_i hl;obtain⟨v,rfl,rv⟩:=Zi r1;obtain⟨O,b1,a1,rfl,z1,Z,J⟩:=Q2u (K:=X.K) Y rv e1;have U:=ht _ _ eq;have a2:b1=t1:=by
      cases b1 with
      | true=>exact(U.mpr (z1 rfl)).symm
      | false=>
       cases t1 with
       | false=>rfl
       | true=>obtain⟨ys,e⟩:=U.mp rfl;exact absurd e (Z rfl ys)
     subst a2;obtain⟨a3,s1,_⟩:=J H1 ρ1 B (Ext.refl _ _) Y O;refine⟨a1,a3,rfl,s1,k (Vt 0 xs,w) B H1 ρ1 _ (by simp only[zu,eq,Res.bind,e1,bO hl]) x1 Y G1 O ?_ (Qg1 J) (h1 H1 ρ1 (Ext.refl _ _) Y)⟩;show(Vt 0 xs).length<=sizeLine;rw[X7];exact W5 hl
    ·exact h1.elim
   ·exact h1.elim
  ·exact h1.elim
 have tt:∀ p:PV,∃ t:Bool,t=zi <-> ∃ ys,p=.tup ys:=λp=>by
  cases p with
  | tup ys=>exact⟨zi,λ_=>⟨ys,rfl⟩,λ_=>rfl⟩
  | _=>exact⟨zb,⟨λz=>(by cases z),λ⟨_,z⟩=>(by cases z)⟩⟩
 by_cases hz:∃ p B,mr Γ st=.ok [p] B
 ·obtain⟨p0,a4,e0⟩:=hz;obtain⟨t1,U⟩:=tt p0;refine I t1 λp B e=>?_
  rw[e0]at e;cases e;exact U
 ·exact I zi λp B e=>absurd ⟨p,B,e⟩ hz⟩
end
section
abbrev ML:=Gam->Q1->Res (List PV)
structure SimN(X:Cx)(E:XK)(e:aH)(m:ML):Prop where
 run:∀ (Γ:Gam) (σ:St) (H:Hp) (ρ:Tk) (st:Q1) (P:List PV->Q1->Hp->Tk->Prop) (Q:VK),Rel H ρ st->EnvR H ρ Γ σ->Acc X.mg E H ρ P (m Γ st) ->
  (∀ ps st1 H1 ρ1 a vs,m Γ st=.ok ps st1->Ext H ρ H1 ρ1->Rel H1 ρ1 st1->a∈ρ1.hid->H a=zl->H1 a=zo (.lst vs)->RepL H1 ρ1 ps vs->Q (.ref a) H1)->WE X e σ H Q
def Wu(m:ML):ME:=λΓ st=>(m Γ st).bind λps st1=>.ok (.lst ps) st1
def Y4(m:ML):ME:=λΓ st=>(m Γ st).bind λps st1=>.ok (.ref st1.length) (st1 ++ [.lst ps])
section
variable{H0 H:Hp}{ρ0 ρ:Tk}{st:Q1}{a:aB}{ps:List PV}{vs:List V}
theorem Qc7 (I:Rel H0 ρ0 st) (x:Ext H0 ρ0 H ρ) {B:Q1} (R:Rel H ρ B) (J:a∈ρ.hid) (hn:H0 a=zl) (O:H a=zo (.lst vs)) (r:RepL H ρ ps vs) :
  Ext H0 ρ0 H ⟨ρ.tr,ρ0.hid⟩/\Rel H ⟨ρ.tr,ρ0.hid⟩ B/\Rep H ⟨ρ.tr,ρ0.hid⟩ (.lst ps) (.ref a):=
 ⟨x.unhide,R.unhide x.hidM,a,vs,rfl,O,(λz=>by
  rcases z with z | z
  ·exact R.ap a J z
  ·obtain⟨o,e,_⟩:=I.hd a z;rw[hn]at e;cases e),r.unhide x.hidM⟩
mutual
theorem Rep.trk{b:aB}{hs:List aB}(B:b∈ρ.hid)(I:∀ c,c∈hs->c∈ρ.hid):∀ {p:PV} {v:V},Rep H ρ p v->Rep H ⟨ρ.tr ++ [b],hs⟩ p v
 | .non,_,r=>r
 | .bl _,_,r=>r
 | .int _,_,r=>r
 | .str _,_,r=>r
 | .tup ps,v,⟨c,vs,e,s,n,r⟩=>⟨c,vs,e,s,λz=>by
   rcases z with z | z
   ·rcases D4.mp z with z | z
    ·exact n (.inl z)
    ·have:c=b:=by simpa using z
     subst this;exact n (.inr B)
   ·exact n (.inr (I _ z)),RepL.trk B I r⟩
 | .lst ps,v,⟨c,vs,e,s,n,r⟩=>⟨c,vs,e,s,λz=>by
   rcases z with z | z
   ·rcases D4.mp z with z | z
    ·exact n (.inl z)
    ·have:c=b:=by simpa using z
     subst this;exact n (.inr B)
   ·exact n (.inr (I _ z)),RepL.trk B I r⟩
 | .fro ps,v,⟨c,vs,e,s,n,r⟩=>⟨c,vs,e,s,λz=>by
   rcases z with z | z
   ·rcases D4.mp z with z | z
    ·exact n (.inl z)
    ·have:c=b:=by simpa using z
     subst this;exact n (.inr B)
   ·exact n (.inr (I _ z)),RepL.trk B I r⟩
 | .ref i,v,⟨c,e,e2⟩=>⟨c,by show(ρ.tr ++ [b])[i]?=zo c;rw[O3 (O1.mp e).1];exact e,e2⟩
 | .dic,v,⟨c,e,s,n⟩=>⟨c,e,s,λz=>by
   rcases z with z | z
   ·rcases D4.mp z with z | z
    ·exact n (.inl z)
    ·have:c=b:=by simpa using z
     subst this;exact n (.inr B)
   ·exact n (.inr (I _ z))⟩
theorem RepL.trk{b:aB}{hs:List aB}(B:b∈ρ.hid)(I:∀ c,c∈hs->c∈ρ.hid):∀ {ps:List PV} {vs:List V},RepL H ρ ps vs->RepL H ⟨ρ.tr ++ [b],hs⟩ ps vs
 | [],_,r=>r
 | p :: ps,_,⟨v,t,e,J,O⟩=>⟨v,t,e,Rep.trk B I J,RepL.trk B I O⟩
end
theorem Qc8 (Z:Rel H0 ρ0 st) (x:Ext H0 ρ0 H ρ) {B:Q1} (R:Rel H ρ B) (J:a∈ρ.hid) (hn:H0 a=zl) (ha:H a=zo (.lst vs)) (r:RepL H ρ ps vs) :
  Ext H0 ρ0 H ⟨ρ.tr ++ [a],ρ0.hid⟩/\Rel H ⟨ρ.tr ++ [a],ρ0.hid⟩ (B ++ [.lst ps])/\Rep H ⟨ρ.tr ++ [a],ρ0.hid⟩ (.ref B.length) (.ref a):=by
 have U:a∉ρ0.hid:=λz=>by
  obtain⟨o,e,_⟩:=Z.hd a z;rw[hn]at e;cases e
 refine⟨⟨x.pre.trans (cq _ _),λ_ h=>h,λ_ h=>.inl h,x.keep,λb I=>?_,x.old,x.frz⟩,⟨?_,?_,λb I=>R.hd b (x.hidM b I),λb I z=>?_,λi b c h1 h2=>?_⟩,a,?_,rfl⟩
 ·rcases D4.mp I with z | z
  ·exact x.new b z
  ·have:b=a:=by simpa using z
   subst this;exact .inr hn
 ·show(ρ.tr ++ [a]).length=_;rw[O5,O5,R.len];rfl
 ·show(ρ.tr ++ [a]).Nodup;refine bx.mpr ⟨R.nd,by simp,λb I c hc e=>?_⟩;have:c=a:=by simpa using hc
  subst this;subst e;exact R.ap b J I
 ·rcases D4.mp z with z | z
  ·exact R.ap b (x.hidM b I) z
  ·have:b=a:=by simpa using z
   subst this;exact U I
 ·have h1:(ρ.tr ++ [a])[i]?=zo b:=h1
  by_cases hi:i < B.length
  ·rw[O3 (by rw[R.len];exact hi)]at h1;rw[O3 hi]at h2;have q:=R.cell i b c h1 h2;cases c with
   | lst O=>
    obtain⟨us,e1,e2⟩:=q;exact⟨us,e1,e2.trk J x.hidM⟩
   | dic O=>
    obtain⟨us,e1,e2⟩:=q;exact⟨us,e1,e2.1,e2.2.trk J x.hidM⟩
   | dtp O=>
    obtain⟨us,e1,e2⟩:=q;exact⟨us,e1,e2.1,e2.2.trk J x.hidM⟩
   | frd O=>
    obtain⟨us,e1,e2⟩:=q;exact⟨us,e1,e2.1,e2.2.trk J x.hidM⟩
   | frt O=>
    obtain⟨us,e1,e2⟩:=q;exact⟨us,e1,e2.1,e2.2.trk J x.hidM⟩
   | obj C O=>
    obtain⟨us,e1,e2⟩:=q;exact⟨us,e1,e2.1,e2.2.trk J x.hidM⟩
  ·rw[D7 (by rw[R.len];omega)]at h1;rw[D7 (by omega)]at h2;have Y:i - B.length=0:=by
    rcases fI (i - B.length)with z | z
    ·exact z
    ·rw[L7 (by simp;omega)]at h2;cases h2
   rw[R.len,Y]at h1;rw[Y]at h2;simp at h1 h2;subst h1;subst h2;exact⟨vs,ha,r.trk J x.hidM⟩
 ·show(ρ.tr ++ [a])[B.length]?=zo a;rw[<- R.len,D7 (O9 _),L6];rfl
end
section
variable{X:Cx}{E:XK}{pos:Pos}{e:aH}{m:ML}
theorem Qa1(h:SimN X E e m):SimE X E e (Wu m):=⟨λΓ σ H ρ st Q R G B=>h.run Γ σ H ρ st _ Q R G B.bind λps U H1 ρ1 a vs eq x Y Z hn O r=>by
 obtain⟨J,R2,I⟩:=Qc7 R x Y Z hn O r;unfold Wu at B;rw[eq]at B;exact B _ _ J R2 _ I⟩
theorem Q2y(h:SimN X E e m):SimE X E e (Y4 m):=⟨λΓ σ H ρ st Q R G B=>h.run Γ σ H ρ st _ Q R G B.bind λps U H1 ρ1 a vs eq x Y Z hn O r=>by
 obtain⟨J,R2,I⟩:=Qc8 R x Y Z hn O r;unfold Y4 at B;rw[eq]at B;exact B _ _ J R2 _ I⟩
variable{es:List aH}{mr:Gam->Q1->Res (List PV)}{a b:aH}{ma mb:ME}
theorem Qan {ρ1:Tk} {B:Q1} {Q:VK} (x:Ext H ρ H1 ρ1) (O:Rel H1 ρ1 B) (r:RepL H1 ρ1 ps vs)
  (k:∀ H1 ρ1 a vs,Ext H ρ H1 ρ1->Rel H1 ρ1 B->a∈ρ1.hid->H a=zl->H1 a=zo (.lst vs)->RepL H1 ρ1 ps vs->Q (.ref a) H1):∀ p,H1 p=zl->Q (.ref p) (upd H1 p (.lst vs)):=λp I=>by
 refine k _ (ρ1.hide p) p vs (x.trans (Ext.hide I)) (O.hide I) D3 ?_ Qx (r.hide I);cases e:H p with
 | none=>rfl
 | some o=>
  obtain⟨o',J⟩:=x.old p o e;rw[I]at J;cases J
def Uv(mr:Gam->Q1->Res (List PV)):ML:=λΓ st=>(mr Γ st).bind λps st1=>if ps.length<=lim then .ok ps st1 else .stuck
theorem Qq1(h:SimA X E es mr):SimN X E (.List es pos) (Uv mr):=
 ⟨λΓ σ H ρ st P Q R G Y k=>WE.of (Qh3 Q1u) (h.use' R G Y.bind λps B H1 ρ1 vs eq x1 U Z O h1=>by
  by_cases I:ps.length<=lim
  ·refine⟨by rw[<- O.length];exact W5 I,Qan x1 U O λH2 J a us=>k ps B H2 J a us ?_⟩;unfold Uv;rw[eq];exact bO I
  ·rw[bP I]at h1;exact h1.elim)⟩
def W3(ma:ME):ML:=λΓ st=>(ma Γ st).bind λp st1=>match Yf st1 p with
 | some xs=>.ok xs st1
 | none=>.stuck
theorem Q6i{p:Pos}(Y:SimE X E a ma)(hg:Gl X "list")(hm:X.mg "list" = zl)(U:aN [a] X.env=(zb,aL a X.env) :: aN [] X.env:=by rfl):SimN X E (.Call (.Name "list" p) [a] [] pos) (W3 ma):=
 ⟨λΓ σ H ρ st P Q R G hq k=>WE.of (Q5a Q0i hg hm Q5z (xx Ji Q6q U) (by decide) (by decide) U rfl) (Y.use' R G hq.bind λq B H1 ρ1 v eq x1 O G1 r1 h1=>by
  split at h1
  ·rename_i xs e;obtain⟨t,b,vs,rfl,I,Z⟩:=y4 (K:=X.K) O r1 e;refine⟨b,vs,rfl,Q9z I,Qan x1 O Z λH2 J a us=>k xs B H2 J a us ?_⟩;unfold W3;rw[eq];show(match Yf B q with | some xs=>Res.ok xs B | none=>.stuck)=_;rw[e]
  ·exact h1.elim)⟩
def Q5c(st:Q1)(p q:PV):Res (List PV):=match W4 st p,W4 st q with
 | some xs,zo ys=>if xs.length + ys.length<=lim then .ok (xs ++ ys) st else .stuck
 | _,_=>.stuck
def Q1i(ma mb:ME):ML:=λΓ st=>(ma Γ st).bind λx st1=>(mb Γ st1).bind λy st2=>Q5c st2 x y
theorem Qg3(ha:SimE X E a ma)(hb:SimE X E b mb):SimN X E (.BinOp a .Add b pos) (Q1i ma mb):=
 ⟨λΓ σ H ρ st P Q R G hq k=>WE.of (Qny Qhe Ji Ji) (ha.use' R G hq.bind λp I H1 ρ1 v e1 x1 R1 G1 r1 h1=>hb.use' R1 G1 h1.bind λq B H2 a1 u e2 U R2 G2 r2 h2=>by
  unfold Q5c at h2
  split at h2
  ·rename_i xs ys f1 f2
   split at h2
   ·rename_i Y;obtain⟨c,vs,rfl,hc,Z⟩:=yk R2 (r1.ext U) f1;obtain⟨d,us,rfl,hd,O⟩:=yk R2 r2 f2;refine⟨c,d,vs,us,rfl,rfl,hc,hd,by rw[<- Z.length,<- O.length];exact W5 Y,Qan (x1.trans U) R2 (Z.append O) λH3 J a ws=>k (xs ++ ys) B H3 J a ws ?_⟩;unfold Q1i Q5c;rw[e1];show(mb Γ I).bind _=_;rw[e2];show(match W4 B p,W4 B q with | some xs,zo ys=>if xs.length + ys.length<=lim then Res.ok (xs ++ ys) B else .stuck | _,_=>.stuck)=_
    rw[f1,f2];exact bO Y
   ·exact h2.elim
  ·exact h2.elim)⟩
end
end
def Y1(cap:zAB)(Γ:Gam):Gam:=cap.map λc=>c.bind λj=>(Γ[j]?).join
theorem EnvR.cap{H:Hp}{ρ:Tk}{Γ:Gam}{σ:St}(h:EnvR H ρ Γ σ)(cap:zAB):EnvR H ρ (Y1 cap Γ) (Q0h cap σ):=by
 refine⟨by unfold Y1 Q0h;rw[O0,O0],λi p e=>?_⟩;unfold Y1 at e;unfold Q0h;rw[F4]at e ⊢;cases q:cap[i]? with
 | none=>rw[q]at e;cases e
 | some c=>
  rw[q]at e;cases c with
  | none=>cases e
  | some j=>
   have B:(Γ[j]?).join=zo p:=bY e;cases r:Γ[j]? with
   | none=>rw[r]at B;cases B
   | some o=>
    rw[r]at B;have:o=zo p:=B;subst this;obtain⟨v,e1,e2⟩:=h.2 j p r;exact⟨v,by show zo ((σ[j]?).join)=zo (zo v);rw[e1];rfl,e2⟩
def y0(cap:zAB)(ga:GA):Prop:=∀ Γ p Γ1,ga p (Y1 cap Γ)=zo Γ1->Γ1.length=(Y1 cap Γ).length/\∀ (i:Nat) (q:PV),(Y1 cap Γ)[i]?=zo (zo q)->Γ1[i]?=zo (zo q)
theorem Q5y{cap:zAB}{i:Nat}(h:cap[i]?=zo zl)(Γ:Gam):(Y1 cap Γ)[i]?=zo zl:=by
 unfold Y1;rw[F4,h];rfl
theorem X5{cap:zAB}{i:Nat}(h:cap[i]?=zo zl:=by rfl):y0 cap (Q4 i):=λΓ p I e=>by
 cases e;refine⟨E9 ..,λj q B=>?_⟩;rw[O8 λz=>?_]
 ·exact B
 ·subst z;rw[Q5y h]at B;cases B
def Qd7(cap:zAB)(ga:GAs):Prop:=∀ Γ ps Γ0 Γ1,(∀ (i:Nat) (q:PV),(Y1 cap Γ)[i]?=zo (zo q)->Γ0[i]?=zo (zo q))->ga ps Γ0=zo Γ1->Γ1.length=Γ0.length/\∀ (i:Nat) (q:PV),(Y1 cap Γ)[i]?=zo (zo q)->Γ1[i]?=zo (zo q)
theorem Qig{cap:zAB}:Qd7 cap Qw:=λΓ ps Γ0 B h e=>by
 cases ps with
 | nil=>cases e;exact⟨rfl,h⟩
 | cons _ _=>cases e
theorem Qeu{cap:zAB}{i:Nat}(hs:Qd7 cap gs)(h:cap[i]?=zo zl:=by rfl):Qd7 cap (Q6 (Q4 i) gs):=λΓ ps Γ0 I h0 e=>by
 cases ps with
 | nil=>cases e
 | cons p ps=>
  obtain⟨a,b⟩:=hs Γ ps (Γ0.set i (zo p)) I (λk r B=>by
   rw[O8 λz=>?_]
   ·exact h0 k r B
   ·subst z;rw[Q5y h]at B;cases B) e
  exact⟨by rw[a,E9],b⟩
theorem Qif{cap:zAB}(hs:Qd7 cap gs):y0 cap (Qv gs):=λΓ p B e=>by
 cases p with
 | tup ps=>exact hs Γ ps _ B (λ_ _ h=>h) e
 | _=>cases e
open Classical in
def Z3(ga:GA)(mt:MT)(me:ME)(w:Wt)(Γ0:Gam):List PV->Q1->Res (List PV)
 | [],st=>if wOk w st then .ok [] st else .stuck
 | x :: xs,st=>if wOk w st then(match ga x Γ0 with
  | none=>.stuck
  | some Γ1=>(mt Γ1 st).bind λb st1=>if b=zi then(me Γ1 st1).bind λy st2=>(Z3 ga mt me w Γ0 xs st2).bind λys st3=>.ok (y :: ys) st3 else Z3 ga mt me w Γ0 xs st1)else .stuck
def noX{α:Type}:Res α->Res α
 | .exc _ _=>.stuck
 | r=>r
def Qy(cap:zAB)(ga:GA)(mi:MI)(mt:MT)(me:ME):ML:=λΓ st=>(mi Γ st).bind λiw st1=>noX (Z3 ga mt me iw.2 (Y1 cap Γ) iw.1 st1)
structure SimTs(X:Cx)(ifs:List aH)(m:MT):Prop where
 run:∀ (Γ:Gam) (σ:St) (H:Hp) (ρ:Tk) (st:Q1) (P:Bool->Q1->Hp->Tk->Prop) (Q:Bool->Hp->Prop),Rel H ρ st->EnvR H ρ Γ σ->Acc X.mg E0 H ρ P (m Γ st) ->
  (∀ b st1 H1 ρ1,m Γ st=.ok b st1->Ext H ρ H1 ρ1->Rel H1 ρ1 st1->EnvR H1 ρ1 Γ σ->Q b H1)->∃ t,PTs X ifs t/\t σ H Q
def Js:MT:=λ_ st=>.ok zi st
theorem xk:SimTs X [] Js:=⟨λΓ σ H ρ st P Q R G h k=>⟨_,Qkn,k zi st H ρ rfl (Ext.refl _ _) R G⟩⟩
theorem Qbr{m:MT}(I:SimT X E0 c m):SimTs X [c] m:=⟨λΓ σ H ρ st P Q R G h k=>⟨_,Qkm Q6n,I.use' R G h λb B H1 ρ1 e x1 O J p=>k b B H1 ρ1 e x1 O J⟩⟩
theorem Qnj{E':XK}{P:α->Q1->Hp->Tk->Prop}{r:Res α}(h:Acc mg E H ρ P (noX r)):Acc mg E' H ρ P r:=by
 cases r with
 | ok a st=>exact h
 | exc x st=>exact h.elim
 | stuck=>exact h
theorem Res.assoc{B:Type}(r:Res α)(f:α->Q1->Res β)(g:β->Q1->Res B):(r.bind f).bind g=r.bind λa st=>(f a st).bind g:=by cases r <;> rfl
theorem Acc.assoc{B:Type}{P:B->Q1->Hp->Tk->Prop}{r:Res α}{f:α->Q1->Res β}{g:β->Q1->Res B}(h:Acc mg E H ρ P ((r.bind f).bind g)):Acc mg E H ρ P (r.bind λa st=>(f a st).bind g):=by
 rw[<- Res.assoc];exact h
theorem EnvR.le{B:Gam}(h:EnvR H ρ B σ)(I:Γ.length=σ.length)(k:∀ (i:Nat) (q:PV),Γ[i]?=zo (zo q)->B[i]?=zo (zo q)):EnvR H ρ Γ σ:=⟨I,λi p e=>h.2 i p (k i p e)⟩
variable{tg iter elt:aH}{ifs:List aH}{N N':List Str}{sc scE:Scope}{ga:GA}{mi:MI}{mt:MT}{me:ME}
section
variable{cap:zAB}
def aE(X:Cx)(N':List Str)(sc:Scope)(e:aH):TE:=λσ H Q=>∀ cl C s0 H0 ex,WE (Y2 X N' sc cl C s0 H0 ex) e σ H Q
def aG(X:Cx)(N':List Str)(sc:Scope)(tg:aH):TG:=λv σ H Q=>∀ cl C s0 H0 ex,WGx (Y2 X N' sc cl C s0 H0 ex) tg v σ H Q
def aT(X:Cx)(N':List Str)(sc:Scope)(ifs:List aH):TT:=λσ H Q=>∀ cl C s0 H0 ex,∃ t,PTs (Y2 X N' sc cl C s0 H0 ex) ifs t/\t σ H Q
theorem Qey {Γ:Gam} {σ:St} {H1:Hp} {ρ1:Tk} {Z:Q1} {J:It} {B:List PV} {w:Wt} {Q:VK} {P:List PV->Q1->Hp->Tk->Prop} (hg:∀ cl C s0 H0 ex,SimG (Y2 X N' sc cl C s0 H0 ex) tg ga) (he:∀ cl C s0 H0 ex,SimE (Y2 X N' sc cl C s0 H0 ex) E0 elt me) (ht:∀ cl C s0 H0 ex,SimTs (Y2 X N' sc cl C s0 H0 ex) ifs mt)
  (hf:y0 cap ga) (R1:Rel H1 ρ1 Z) (G1:EnvR H1 ρ1 Γ σ) (b4:Src J B w H1 ρ1) (c8:B.length<=sizeLine) (h:Acc X.mg E0 H1 ρ1 P (Z3 ga mt me w (Y1 cap Γ) B Z))
  (k:∀ ys c1 H2 a6 I vs,Z3 ga mt me w (Y1 cap Γ) B Z=.ok ys c1->Ext H1 ρ1 H2 a6->Rel H2 a6 c1->I∈a6.hid->H1 I=zl->H2 I=zo (.lst vs)->RepL H2 a6 ys vs->Q (.ref I) H2):Q5w J cap (aG X N' sc tg) (aT X N' sc ifs) (aE X N' sc elt) σ H1 Q:=by
 intro I O;let W:Nat->Nat->List V->St->Hp->Prop:=λi m vs b5 H'=>m=B.length - i/\i<=B.length/\vs.length<=i/\∃ ρ' st' ys,Ext H1 ρ1 H' ρ'/\I∈ρ'.hid/\Rel H' ρ' st'/\EnvR H' ρ' (Y1 cap Γ) b5/\H' I=zo (.lst vs)/\RepL H' ρ' ys vs /\
  Z3 ga mt me w (Y1 cap Γ) B Z=(Z3 ga mt me w (Y1 cap Γ) (B.drop i) st').bind λzs a2=>.ok (ys ++ zs) a2
 refine⟨W,⟨_,rfl,bb _,O9 _,ρ1.hide I,Z,[],Ext.hide O,D3,R1.hide O,(G1.cap cap).hide O,Qx,rfl,?_⟩,?_⟩
 ·rw[eA];cases r:Z3 ga mt me w (Y1 cap Γ) B Z with
  | ok zs a2=>rfl
  | exc x a2=>rfl
  | stuck=>rfl
 rintro i m vs b5 H' ⟨hm,hi,c9,ρ',st',ys,x,a5,R',G',ha,ry,Y⟩;have U:Acc X.mg E0 H1 ρ1 P ((Z3 ga mt me w (Y1 cap Γ) (B.drop i) st').bind λzs a2=>.ok (ys ++ zs) a2):=by rw[<- Y];exact h
 refine⟨ha,?_⟩
 by_cases a3:i < B.length
 ·right
  have hd:B.drop i=B[i] :: B.drop (i + 1):=gu a3;rw[hd,Z3]at U Y
  by_cases hw:wOk w st'
  ·rw[bO hw]at U Y;refine⟨b4.go H' _ st' x R' hw i a3,by omega,λy H2 hy=>?_⟩;obtain⟨sm,c7⟩:=b4.yld H' _ st' x R' hw i _ (O2 a3) y H2 hy;cases eg:ga B[i] (Y1 cap Γ)with
   | none=>rw[eg]at U;exact U.elim
   | some a1=>
    rw[eg]at U Y;have x2:Ext H' ρ' H2 ρ':=Ext.same sm;have R2:=R'.same sm;intro cl C s0 H0 ex;refine(hg cl C s0 H0 ex).run (Y1 cap Γ) a1 b5 H2 ρ' _ y _ (G'.ext x2) c7 eg λb2 G3=>?_
    intro cl C s0 H0 ex;have c6:=Acc.later U (x.trans x2);refine(ht cl C s0 H0 ex).run a1 b2 H2 ρ' st' _ _ R2 G3 (Acc.bind (Acc.assoc c6)) λb c2 H4 a8 e4 x4 R4 G4=>?_
    simp only[e4,Res.bind]at U Y;have G0:∀ {b1:Hp} {a4:Tk},EnvR b1 a4 a1 b2->EnvR b1 a4 (Y1 cap Γ) b2:=λ{b1 a4} g=>g.le (by
     rw[<- G3.1];exact(hf Γ _ a1 eg).1.symm) (hf Γ _ a1 eg).2
    have b0:Ext H1 ρ1 H4 a8:=x.trans (x2.trans x4);have a9:I∈a8.hid:=x4.hidM I a5;have na:I∉ρ'.tr:=R'.ap I a5;have b9:H4 I=zo (.lst vs):=x4.keep I _ (sm I _ ha) na;have b8:RepL H4 a8 ys vs:=ry.ext (x2.trans x4);cases b with
    | false=>
     rw[bP F5]at U Y ⊢;exact⟨_,show B.length - (i + 1) < m by omega,rfl,a3,by omega,a8,c2,ys,b0,a9,R4,G0 G4,b9,b8,Y⟩
    | true=>
     rw[bO rfl]at U Y ⊢;intro cl C s0 H0 ex;have c4:=Acc.later U b0;refine(he cl C s0 H0 ex).use' R4 G4 (Acc.bind (Acc.assoc c4)) λz b7 H5 b6 zv e5 x5 R5 G5 r5 h5=>?_
     simp only[e5,Res.bind]at U Y;have a7:I∈b6.hid:=x5.hidM I a9;have c5:H5 I=zo (.lst vs):=x5.keep I _ b9 (R4.ap I a9);have c3:Ext H1 ρ1 H5 b6:=b0.trans x5;refine⟨c5,_,show B.length - (i + 1) < m by omega,rfl,a3,by rw[O5];simp;omega,b6,b7,ys ++ [z],c3.put0 O,a7,R5.rehide a7,(G0 G5).rehide a7,Qx,((b8.ext x5).append (RepL.cons r5 RepL.nil)).rehide a7,?_⟩;refine Y.trans ?_;cases rr:Z3 ga mt me w (Y1 cap Γ) (B.drop (i + 1)) b7 with
     | ok zs b3=>
      show Res.ok (ys ++ z :: zs) b3=Res.ok ((ys ++ [z]) ++ zs) b3;rw[M0];rfl
     | exc x6 b3=>rfl
     | stuck=>rfl
  ·rw[bP hw]at U;exact U.elim
 ·left
  have ei:i=B.length:=by omega
  subst ei;rw[fJ,Z3]at U Y
  by_cases hw:wOk w st'
  ·rw[bO hw]at U Y;refine⟨b4.stop H' _ st' x R' hw,?_⟩;have Y:Z3 ga mt me w (Y1 cap Γ) B Z=.ok (ys ++ []) st':=Y;rw[G6]at Y;exact k ys st' H' ρ' I vs Y x R' a5 O ha ry
  ·rw[bP hw]at U;exact U.elim
theorem Q47 {Γ:Gam} {σ:St} {H:Hp} {ρ:Tk} {st:Q1} {Q:VK} {P:List PV->Q1->Hp->Tk->Prop} (hi:SimI X E tg iter mi) (hg:∀ cl C U H0 ex,SimG (Y2 X N' sc cl C U H0 ex) tg ga) (he:∀ cl C U H0 ex,SimE (Y2 X N' sc cl C U H0 ex) E0 elt me) (ht:∀ cl C U H0 ex,SimTs (Y2 X N' sc cl C U H0 ex) ifs mt)
  (hf:y0 cap ga) (R:Rel H ρ st) (G:EnvR H ρ Γ σ) (h:Acc X.mg E H ρ P (Qy cap ga mi mt me Γ st)) (k:∀ ps I H2 B a vs,Qy cap ga mi mt me Γ st=.ok ps I->Ext H ρ H2 B->Rel H2 B I->a∈B.hid->H a=zl->H2 a=zo (.lst vs)->RepL H2 B ps vs->Q (.ref a) H2):Q6d cap (WI X tg iter) (aG X N' sc tg) (aT X N' sc ifs) (aE X N' sc elt) σ H Q:=by
 refine hi.run Γ σ H ρ st _ _ R G h.bind λiw a1 H1 ρ1 J eq x1 R1 G1 ok hl Z h1=>?_
 refine Qey hg he ht hf R1 G1 Z hl (Qnj (E':=E0) h1) λys I H2 B O vs Y x2 R2 hm hn ha ry=>?_
 refine k ys I H2 B O vs ?_ (x1.trans x2) R2 hm ?_ ha ry
 ·unfold Qy;rw[eq];show noX _=_;rw[Y];rfl
 cases e:H O with
 | none=>rfl
 | some o=>
  obtain⟨o',e'⟩:=x1.old O o e;rw[hn]at e';cases e'
theorem Qqz:∀ cl C B H0 ex,PG (Y2 X N' sc cl C B H0 ex) tg (aG X N' sc tg):=λcl C B H0 ex pins s σ H v u Q I r h=>Qm3 pins s σ H v u Q I r (h cl C B H0 ex)
theorem Qr8:∀ cl C B H0 ex,PE (Y2 X N' sc cl C B H0 ex) e (aE X N' sc e):=λcl C B H0 ex pins s σ H Q I h=>h cl C B H0 ex pins s I
theorem Qgp:∀ cl C B H0 ex,PTs (Y2 X N' sc cl C B H0 ex) ifs (aT X N' sc ifs):=λcl C B H0 ex pins s σ H Q I h=>by
 obtain⟨t,a,b⟩:=h cl C B H0 ex;exact a pins s σ H Q I b
theorem Q21 (cap:zAB) (N':List Str) (B:X.calm=zi) (hi:SimI X E tg iter mi) (hg:∀ cl C I H0 ex,SimG (Y2 X N' sc cl C I H0 ex) tg ga) (U:∀ cl C I H0 ex,SimE (Y2 X N' sc cl C I H0 ex) E0 elt me) (ht:∀ cl C I H0 ex,SimTs (Y2 X N' sc cl C I H0 ex) ifs mt)
  (Y:y0 cap ga) (J:X.N=N:=by rfl) (O:X.env.scope=scE:=by rfl) (Z:compOkC N N' sc scE cap=zi:=by kernel_rfl) (hs:∀ x,aw iter X.env x=pure x:=by intro _;rfl) :
  SimN X E (.ListComp elt [⟨tg,iter,ifs,0⟩] sc pos) (Qy cap ga mi mt me):=
 ⟨λΓ σ H ρ st P Q R G h k=>WE.of (Qh7 B Qkz Qqz Qr8 Qgp J O Z hs) (Q47 hi hg U ht Y R G h k)⟩
end
inductive SR where
 | nx (Γ:Gam) (st:Q1) | rt (v:PV) (st:Q1) | bk (Γ:Gam) (st:Q1) | ct (Γ:Gam) (st:Q1) | exc (x:Exc) (st:Q1) | stuck
abbrev MS:=Gam->Q1->SR
variable{m1:MS}
def Res.sbind{α:Type}(r:Res α)(f:α->Q1->SR):SR:=match r with
 | .ok a st=>f a st
 | .exc x st=>.exc x st
 | .stuck=>.stuck
def AccS(mg:zAD)(E:XK)(D:Ends)(H:Hp)(ρ:Tk):SR->Prop
 | .nx Γ st=>∀ σ' H' ρ',Ext H ρ H' ρ'->Rel H' ρ' st->EnvR H' ρ' Γ σ'->D.nx σ' H'
 | .bk Γ st=>∀ σ' H' ρ',Ext H ρ H' ρ'->Rel H' ρ' st->EnvR H' ρ' Γ σ'->D.bk σ' H'
 | .ct Γ st=>∀ σ' H' ρ',Ext H ρ H' ρ'->Rel H' ρ' st->EnvR H' ρ' Γ σ'->D.ct σ' H'
 | .rt p st=>∀ v H' ρ',Ext H ρ H' ρ'->Rel H' ρ' st->Rep H' ρ' p v->D.rt v H'
 | .exc x st=>∀ C dv H' ρ',mg x.cls=zo (.ref C)->Ext H ρ H' ρ'->Rel H' ρ' st->XFs H' ρ' x.fs dv->E (.ref C) dv H'
 | .stuck=>False
variable{α:Type}{mg:zAD}{D:Ends}{H1:Hp}{ρ1:Tk}
theorem AccS.later{r:SR}(h:AccS mg E D H ρ r)(x:Ext H ρ H1 ρ1):AccS mg E D H1 ρ1 r:=by
 cases r with
 | nx Γ st=>exact λB H' ρ' I=>h B H' ρ' (x.trans I)
 | bk Γ st=>exact λB H' ρ' I=>h B H' ρ' (x.trans I)
 | ct Γ st=>exact λB H' ρ' I=>h B H' ρ' (x.trans I)
 | rt p st=>exact λv H' ρ' I=>h v H' ρ' (x.trans I)
 | exc y st=>exact λC J H' ρ' m I=>h C J H' ρ' m (x.trans I)
 | stuck=>exact h
theorem AccS.bind{r:Res α}{f:α->Q1->SR}(h:AccS mg E D H ρ (r.sbind f)):Acc mg E H ρ (λa B H1 ρ1=>AccS mg E D H1 ρ1 (f a B)) r:=by
 cases r with
 | ok a st=>exact λH' ρ' I J=>AccS.later (show AccS mg E D H ρ (f a st)from h) I
 | exc e st=>exact h
 | stuck=>exact h
theorem Res.sassoc(r:Res α)(f:α->Q1->Res β)(g:β->Q1->SR):(r.bind f).sbind g=r.sbind λa st=>(f a st).sbind g:=by cases r <;> rfl
theorem AccS.assoc{r:Res α}{f:α->Q1->Res β}{g:β->Q1->SR}(h:AccS mg E D H ρ ((r.bind f).sbind g)):AccS mg E D H ρ (r.sbind λa st=>(f a st).sbind g):=by
 rw[<- Res.sassoc];exact h
structure SimS(X:Cx)(E:XK)(s:aK)(m:MS):Prop where
 run:∀ (Γ:Gam) (σ:St) (H:Hp) (ρ:Tk) (st:Q1) (D:Ends),Rel H ρ st->EnvR H ρ Γ σ->AccS X.mg E D H ρ (m Γ st)->WS X s D σ H
structure SimB(X:Cx)(E:XK)(ss:List aK)(m:MS):Prop where
 run:∀ (Γ:Gam) (σ:St) (H:Hp) (ρ:Tk) (st:Q1) (D:Ends),Rel H ρ st->EnvR H ρ Γ σ->AccS X.mg E D H ρ (m Γ st)->WB X ss D σ H
variable{e:aH}{m:ME}
def Jf:MS:=λΓ st=>.nx Γ st
def Qb(m1 m2:MS):MS:=λΓ st=>match m1 Γ st with
 | .nx Γ1 st1=>m2 Γ1 st1
 | r=>r
theorem Qqd:SimB X E [] Jf:=⟨λΓ σ H ρ st D R G h=>WB.of Qkr (h σ H ρ (Ext.refl _ _) R G)⟩
theorem Zh{rest:List aK}{O:MS}(h1:SimS X E s m1)(h2:SimB X E rest O):SimB X E (s :: rest) (Qb m1 O):=
 ⟨λΓ σ H ρ st D R G h=>WB.of (Qgr Quv Q35) (h1.run Γ σ H ρ st _ R G (by
  unfold Qb at h;cases r:m1 Γ st with
  | nx I B=>rw[r]at h;exact λJ H' ρ' U Y G'=>h2.run I J H' ρ' B D Y G' (AccS.later h U)
  | bk I B=>rw[r]at h;exact h
  | ct I B=>rw[r]at h;exact h
  | rt p B=>rw[r]at h;exact h
  | exc x B=>rw[r]at h;exact h
  | stuck=>rw[r]at h;exact h))⟩
theorem Ku(h1:SimS X E s m1):SimB X E [s] m1:=⟨λΓ σ H ρ st D R G h=>WB.of (Qkq Quv) (h1.run Γ σ H ρ st D R G h)⟩
def Yx(m:ME):MS:=λΓ st=>(m Γ st).sbind λ_ st1=>.nx Γ st1
theorem Q6g(J:SimE X E e m)(hs:swapsWith e zl pos.line X.env=pure zb:=by rfl):SimS X E (.Expr e pos) (Yx m):=
 ⟨λΓ σ H ρ st D R G h=>WS.of (Qks Ji hs) (J.use R G h.bind λp B H1 ρ1 v x1 I O U h1=>h1 σ H1 ρ1 (Ext.refl _ _) I O)⟩
def J9(m:ME):MS:=λΓ st=>(m Γ st).sbind λp st1=>.rt p st1
theorem Q9x(J:SimE X E e m):SimS X E (.Return (zo e) pos) (J9 m):=
 ⟨λΓ σ H ρ st D R G h=>WS.of (Qqr Ji) (J.use R G h.bind λp B H1 ρ1 v x1 I U O h1=>h1 v H1 ρ1 (Ext.refl _ _) I O)⟩
def Qm(i:Nat)(m:ME):MS:=λΓ st=>(m Γ st).sbind λp st1=>.nx (Γ.set i (zo p)) st1
theorem Wi (i:Nat) {pos':Pos} (I:X.N.Nodup) (U:SimE X E e m) (hi:X.N[i]?=zo x:=by rfl) (B:Loc X.env.scope x:=by first | exact Or.inl rfl | exact Or.inr rfl) (hs:swapsWith e (zo (.Name x pos')) pos.line X.env=pure zb:=by rfl) (Y:X.fn x=zi\/X.env.scope.names.lookup x=zo .local:=by first | exact .inl rfl | exact .inr rfl) :
  SimS X E (.Assign [.Name x pos'] e pos) (Qm i m):=
 ⟨λΓ σ H ρ st D R G h=>WS.of (Qqq I hi B Ji hs Y) (U.use R G h.bind λp J H1 ρ1 v x1 O Z r1 h1=>h1 _ H1 ρ1 (Ext.refl _ _) O (Z.set r1 i))⟩
section
variable{tg iter elt:aH}{ifs:List aH}{N N':List Str}{sc scE:Scope}{ga:GA}{mi:MI}{mt:MT}{me:ME}
theorem Q7x (cap:zAB) (N':List Str) (i:Nat) {x:Str} {px cpos:Pos} (U:X.N.Nodup) (B:X.calm=zi) (hi:SimI X E tg iter mi) (hg:∀ cl C I H0 ex,SimG (Y2 X N' sc cl C I H0 ex) tg ga) (he:∀ cl C I H0 ex,SimE (Y2 X N' sc cl C I H0 ex) E0 elt me) (ht:∀ cl C I H0 ex,SimTs (Y2 X N' sc cl C I H0 ex) ifs mt)
  (hf:y0 cap ga) (O:X.N[i]?=zo x:=by rfl) (hx:Loc X.env.scope x:=by first | exact Or.inl rfl | exact Or.inr rfl) (Y:swapsWith (.ListComp elt [⟨tg,iter,ifs,0⟩] sc cpos) (zo (.Name x px)) pos.line X.env=pure zi:=by rfl)
  (hN:X.N=N:=by rfl) (hE:X.env.scope=scE:=by rfl) (hc:compOkC N N' sc scE cap=zi:=by kernel_rfl) (hs:∀ x,aw iter X.env x=pure x:=by intro _;rfl) (J:X.fn x=zi\/X.env.scope.names.lookup x=zo .local:=by first | exact .inl rfl | exact .inr rfl) :
  SimS X E (.Assign [.Name x px] (.ListComp elt [⟨tg,iter,ifs,0⟩] sc cpos) pos) (Qm i (Wu (Qy cap ga mi mt me))):=
 ⟨λΓ σ H ρ st D R G h=>WS.of (Q88 U O hx B Qkz Qqz Qr8 Qgp Y hN hE hc hs J) (Q47 hi hg he ht hf R G (AccS.bind (by unfold Qm Wu at h;exact AccS.assoc h)) λps a1 H1 ρ1 a vs eq x R1 hm hn ha r=>by
  obtain⟨Z,R2,r2⟩:=Qc7 R x R1 hm hn ha r;simp only[Qm,Wu,eq,Res.bind,Res.sbind]at h;exact h _ _ _ Z R2 ((G.ext Z).set r2 i))⟩
theorem Q7y (cap:zAB) (N':List Str) (i:Nat) {x:Str} {px cpos:Pos} (U:X.N.Nodup) (B:X.calm=zi) (hi:SimI X E tg iter mi) (hg:∀ cl C I H0 ex,SimG (Y2 X N' sc cl C I H0 ex) tg ga) (he:∀ cl C I H0 ex,SimE (Y2 X N' sc cl C I H0 ex) E0 elt me) (ht:∀ cl C I H0 ex,SimTs (Y2 X N' sc cl C I H0 ex) ifs mt)
  (hf:y0 cap ga) (O:X.N[i]?=zo x:=by rfl) (hx:Loc X.env.scope x:=by first | exact Or.inl rfl | exact Or.inr rfl) (Y:swapsWith (.ListComp elt [⟨tg,iter,ifs,0⟩] sc cpos) (zo (.Name x px)) pos.line X.env=pure zi:=by rfl)
  (hN:X.N=N:=by rfl) (hE:X.env.scope=scE:=by rfl) (hc:compOkC N N' sc scE cap=zi:=by kernel_rfl) (hs:∀ x,aw iter X.env x=pure x:=by intro _;rfl) (J:X.fn x=zi\/X.env.scope.names.lookup x=zo .local:=by first | exact .inl rfl | exact .inr rfl) :
  SimS X E (.Assign [.Name x px] (.ListComp elt [⟨tg,iter,ifs,0⟩] sc cpos) pos) (Qm i (Y4 (Qy cap ga mi mt me))):=
 ⟨λΓ σ H ρ st D R G h=>WS.of (Q88 U O hx B Qkz Qqz Qr8 Qgp Y hN hE hc hs J) (Q47 hi hg he ht hf R G (AccS.bind (by unfold Qm Y4 at h;exact AccS.assoc h)) λps a1 H1 ρ1 a vs eq x R1 hm hn ha r=>by
  obtain⟨Z,R2,r2⟩:=Qc8 R x R1 hm hn ha r;simp only[Qm,Y4,eq,Res.bind,Res.sbind]at h;exact h _ _ _ Z R2 ((G.ext Z).set r2 i))⟩
end
def Q8v(ga:GA)(m:ME):MS:=λΓ st=>(m Γ st).sbind λp st1=>match ga p Γ with
 | some Γ1=>.nx Γ1 st1
 | none=>.stuck
theorem Qg0(Y:SimE X E e m)(hg:SimG X tg ga)(hs:swapsWithSole [tg] e pos.line X.env=pure zb:=by rfl)(hw:swappedStores [tg] e X.env=pure zl:=by rfl)(h1:(au [tg] X.env).map (·.2)=[assign tg X.env]:=by rfl):SimS X E (.Assign [tg] e pos) (Q8v ga m):=
 ⟨λΓ σ H ρ st D R G h=>WS.of (Qgt Ji Qm3 hs hw h1) (Y.use R G h.bind λp O H1 ρ1 v x1 U Z r1 h1=>by
  cases J:ga p Γ with
  | none=>rw[J]at h1;exact h1.elim
  | some I=>
   rw[J]at h1;exact hg.run Γ I σ H1 ρ1 p v _ Z r1 J λB G'=>h1 B H1 ρ1 (Ext.refl _ _) U G')⟩
def Wh(st:Q1)(o i p:PV):Option Q1:=match o,i with
 | .ref k,.int j=>match st[k]? with
  | some (.lst xs)=>(ixN xs.length j).map λn=>st.set k (.lst (xs.set n p))
  | _=>zl
 | _,_=>zl
def U5(mo mi m:ME):MS:=λΓ st=>(m Γ st).sbind λp st1=>(mo Γ st1).sbind λo st2=>(mi Γ st2).sbind λi st3=>match Wh st3 o i p with
 | some st4=>.nx Γ st4
 | none=>.stuck
theorem Qbw {st':Q1} {o i:PV} {x y z:V} (R:Rel H ρ st) (O:Rep H ρ o x) (U:Rep H ρ i y) (J:Rep H ρ p z) (e:Wh st o i p=zo st') :
  ∃ a vs k j,x=.ref a/\y=.int k/\H a=zo (.lst vs)/\ixN vs.length k=zo j/\Ext H ρ (upd H a (.lst (vs.set j z))) ρ/\Rel (upd H a (.lst (vs.set j z))) ρ st':=by
 unfold Wh at e
 split at e
 ·rename_i k j
  split at e
  ·rename_i xs hs;cases B:ixN xs.length j with
   | none=>rw[B]at e;cases e
   | some n=>
    rw[B]at e;have e:st.set k (.lst (xs.set n p))=st':=bY e;subst e;obtain⟨a,I,rfl⟩:=O;cases U;obtain⟨b,vs,f1,f2,f3⟩:=R.lst hs;rw[I]at f1;cases f1;exact⟨a,vs,j,n,rfl,rfl,f2,by rw[<- f3.length];exact B,Ext.put (F0 I) f2,R.put I f2 (f3.set J n)⟩
  ·cases e
 ·cases e
theorem Qfx {o i:aH} {mo mi:ME} {tpos:Pos} (he:SimE X E e m) (Z:SimE X E o mo) (hi:SimE X E i mi)
  (ha:∀ v,assign (.Subscript o i tpos) X.env v=(do
   let B <- az [v] (aL o X.env)
   let I <- az [v,B] (aL i X.env)
   standAt tpos
   az [v,B,I] (setItem B I v)
   release [v,B,I] []):=by intro _;rfl)
  (hs:swapsWithSole [.Subscript o i tpos] e pos.line X.env=pure zb:=by rfl) (hw:swappedStores [.Subscript o i tpos] e X.env=pure zl:=by rfl) (h1:(au [.Subscript o i tpos] X.env).map (·.2)=[assign (.Subscript o i tpos) X.env]:=by rfl) :
  SimS X E (.Assign [.Subscript o i tpos] e pos) (U5 mo mi m):=
 ⟨λΓ σ H ρ st D R G h=>WS.of (Qgt Ji (Qqy Ji Ji Q81 ha) hs hw h1) (he.use R G h.bind λp a2 H1 ρ1 z x1 R1 G1 r1 h1=>Z.use R1 G1 h1.bind λB a4 H2 a3 x x2 R2 G2 r2 h2=>hi.use R2 G2 h2.bind λI O H3 U y Y R3 G3 r3 J=>by
  cases es:Wh O B I p with
  | none=>rw[es]at J;exact J.elim
  | some a1=>
   rw[es]at J;obtain⟨a,vs,k,j,rfl,rfl,f1,f2,x4,R4⟩:=Qbw R3 (r2.ext Y) r3 (r1.ext (x2.trans Y)) es;exact⟨a,vs,k,j,rfl,rfl,f1,f2,J σ _ U x4 R4 (G3.ext x4)⟩)⟩
def Z5(mt:MT)(ma mb:MS):MS:=λΓ st=>(mt Γ st).sbind λb st1=>if b=zi then ma Γ st1 else mb Γ st1
theorem Qbs{a b:List aK}{ma mb:MS}(Y:SimT X E c mt)(U:SimB X E a ma)(O:SimB X E b mb):SimS X E (.If c a b pos) (Z5 mt ma mb):=
 ⟨λΓ σ H ρ st D R G h=>WS.of (Quw Q6n Q35 Q35) (Y.use R G h.bind λk B H1 ρ1 x1 I J h1=>by
  cases k with
  | true=>rw[bO rfl]at h1 ⊢;exact U.run Γ σ H1 ρ1 B D I J h1
  | false=>rw[bP F5]at h1 ⊢;exact O.run Γ σ H1 ρ1 B D I J h1)⟩
open Classical in
def Jt(ga:GA)(body:MS)(w:Wt):List PV->Gam->Q1->SR
 | [],Γ,st=>if wOk w st then .nx Γ st else .stuck
 | x :: xs,Γ,st=>if wOk w st then(match ga x Γ with
  | none=>.stuck
  | some Γ1=>match body Γ1 st with
   | .nx Γ2 st2=>Jt ga body w xs Γ2 st2
   | .ct Γ2 st2=>Jt ga body w xs Γ2 st2
   | .bk Γ2 st2=>.nx Γ2 st2
   | .rt v st2=>.rt v st2
   | .exc x st2=>.exc x st2
   | .stuck=>.stuck)else .stuck
def Yu(ga:GA)(mi:MI)(body:MS):MS:=λΓ st=>(mi Γ st).sbind λiw st1=>Jt ga body iw.2 iw.1 Γ st1
theorem Qpy {bd:List aK} {body:MS} (hp:PassesOwn (aI X.prog X.w) X.A X.env X.xe) (hc:X.calm=zi) (hi:SimI X E tg iter mi) (hg:SimG X tg ga) (hb:SimB X E bd body)
  (hs:∀ x,aw iter X.env x=pure x:=by intro _;rfl):SimS X E (.For tg iter bd [] pos) (Yu ga mi body):=
 ⟨λΓ σ H ρ st D R G h=>WS.of (Qqs hp hc Qkz Qm3 Q35 hs) (hi.run Γ σ H ρ st _ _ R G h.bind λO a8 H1 ρ1 J eq x1 R1 G1 ok hl a6 h1=>by
  let W:Nat->Nat->St->Hp->Prop:=λi m Y H'=>m=O.1.length - i/\i<=O.1.length/\∃ a1 ρ' st',Ext H1 ρ1 H' ρ'/\Rel H' ρ' st'/\EnvR H' ρ' a1 Y/\AccS X.mg E D H' ρ' (Jt ga body O.2 (O.1.drop i) a1 st')
  refine⟨W,⟨_,rfl,bb _,Γ,ρ1,a8,Ext.refl _ _,R1,G1,by rw[eA];exact h1⟩,?_⟩;rintro i m Y H' ⟨hm,b0,a1,ρ',st',x,R',G',Z⟩
  by_cases a4:i < O.1.length
  ·right
   have hd:O.1.drop i=O.1[i] :: O.1.drop (i + 1):=gu a4;rw[hd,Jt]at Z
   by_cases hw:wOk O.2 st'
   ·rw[bO hw]at Z;refine⟨a6.go H' ρ' st' x R' hw i a4,λa7 H2=>W (i + 1) (O.1.length - (i + 1)) a7 H2,λa7 H2 z=>⟨_,by omega,z⟩,λy H2 hy=>?_⟩
    obtain⟨sm,ry⟩:=a6.yld H' ρ' st' x R' hw i _ (O2 a4) y H2 hy;have x2:Ext H' ρ' H2 ρ':=Ext.same sm;cases eg:ga O.1[i] a1 with
    | none=>rw[eg]at Z;exact Z.elim
    | some a5=>
     rw[eg]at Z;refine hg.run a1 a5 Y H2 ρ' _ y _ (G'.ext x2) ry eg λa9 G3=>?_
     have B:=AccS.later Z x2;simp only at B;refine hb.run a5 a9 H2 ρ' st' _ (R'.same sm) G3 ?_;have again:∀ {U:Gam} {I:Q1},AccS X.mg E D H2 ρ' (Jt ga body O.2 (O.1.drop (i + 1)) U I)->∀ Y a3 a2,Ext H2 ρ' a3 a2->Rel a3 a2 I->EnvR a3 a2 U Y->W (i + 1) (O.1.length - (i + 1)) Y a3:=λ{U I} a σ4 H4 ρ4 x4 R4 G4=>
      ⟨rfl,a4,U,ρ4,I,x.trans (x2.trans x4),R4,G4,AccS.later a x4⟩
     cases rb:body a5 st' with
     | nx U I=>rw[rb]at B;exact again B
     | ct U I=>rw[rb]at B;exact again B
     | bk U I=>rw[rb]at B;exact B
     | rt v I=>rw[rb]at B;exact B
     | exc y I=>rw[rb]at B;exact B
     | stuck=>rw[rb]at B;exact B.elim
   ·rw[bP hw]at Z;exact Z.elim
  ·left
   have ei:i=O.1.length:=by omega
   subst ei;rw[fJ,Jt]at Z
   by_cases hw:wOk O.2 st'
   ·rw[bO hw]at Z;exact⟨a6.stop H' ρ' st' x R' hw,Z Y H' ρ' (Ext.refl _ _) R' G'⟩
   ·rw[bP hw]at Z;exact Z.elim)⟩
def Zx(mt:MT)(body:MS):Nat->Gam->Q1->SR
 | 0,_,_=>.stuck
 | n + 1, Γ, st => (mt Γ st).sbind λb st1 => if b = zi then (match body Γ st1 with
   | .nx Γ2 st2=>Zx mt body n Γ2 st2
   | .ct Γ2 st2=>Zx mt body n Γ2 st2
   | .bk Γ2 st2=>.nx Γ2 st2
   | .rt v st2=>.rt v st2
   | .exc x st2=>.exc x st2
   | .stuck=>.stuck)else .nx Γ st1
theorem Qfv(n:Nat){bd:List aK}{body:MS}(hp:PassesOwn (aI X.prog X.w) X.A X.env X.xe)(hc:SimT X E c mt)(hb:SimB X E bd body):SimS X E (.While c bd [] pos) (Zx mt body n):=
 ⟨λΓ σ H ρ st D R G h=>WS.of (Qgs hp Q6n Q35) (by
  let W:Nat->St->Hp->Prop:=λm I H'=>∃ O ρ' st',Rel H' ρ' st'/\EnvR H' ρ' O I/\AccS X.mg E D H' ρ' (Zx mt body m O st')
  refine⟨W,⟨n,Γ,ρ,st,R,G,h⟩,?_⟩;rintro m I H' ⟨O,ρ',st',R',G',hA⟩;cases m with
  | zero=>exact hA.elim
  | succ m=>
   rw[Zx]at hA;refine hc.use R' G' hA.bind λb a1 H1 ρ1 x1 R1 G1 h1=>?_
   cases b with
   | false=>rw[bP F5]at h1 ⊢;exact h1 I H1 ρ1 (Ext.refl _ _) R1 G1
   | true=>
    rw[bO rfl]at h1 ⊢;refine⟨λZ H2=>W m Z H2,λZ H2 z=>⟨m,cw _,z⟩,hb.run O I H1 ρ1 a1 _ R1 G1 ?_⟩
    have again:∀ {J:Gam} {B:Q1},AccS X.mg E D H1 ρ1 (Zx mt body m J B)->∀ I Y U,Ext H1 ρ1 Y U->Rel Y U B->EnvR Y U J I->W m I Y:=λ{J B} a σ4 H4 ρ4 x4 R4 G4=>⟨J,ρ4,B,R4,G4,AccS.later a x4⟩
    cases rb:body O a1 with
    | nx J B=>rw[rb]at h1;exact again h1
    | ct J B=>rw[rb]at h1;exact again h1
    | bk J B=>rw[rb]at h1;exact h1
    | rt v B=>rw[rb]at h1;exact h1
    | exc y B=>rw[rb]at h1;exact h1
    | stuck=>rw[rb]at h1;exact h1.elim)⟩
def Qau(x:Str)(m:ME):MS:=λΓ st=>(m Γ st).sbind λ_ st1=>.exc ⟨x,zl⟩ st1
theorem Qfy {C:aB} {np cpos:Pos} (B:X.calm=zi) (RO:Qbg X E) (hg:Gl X x) (O:X.mg x=zo (.ref C)) (q:cU X.K C Qjf "ValueError.__new__" = zi) (Z:SimE X E e m)
  (J:(x == ("__debug__" : Str))=zb:=by decide) (I:aN [e] X.env=[(zb,aL e X.env)]:=by rfl):SimS X E (.Raise (zo (.Call (.Name x np) [e] [] cpos)) zl pos) (Qau x m):=
 ⟨λΓ σ H ρ st D R G h=>WS.of (Qe0 B RO hg O q (xx Ji Q6q (by rw[I];rfl)) J I) (Z.use R G h.bind λp U H1 ρ1 v x1 Y G1 r1 h1=>⟨F8 (show 1<=lim by decide) Q15,h1 C zl H1 ρ1 O (Ext.refl _ _) Y rfl⟩)⟩
def WM(X:Cx)(id:String):V->List V->Hp->VK->Prop:=λx xs H Q=>∀ (pins:zAA) (s:aD) (σ:St) (v:aA) (us:List aA),Inv X pins σ H s->RelV x v->Vals xs us->aF (aI X.prog X.w) X.A (call (.builtin id) (v :: us)) (EP X pins σ Q) X.xe s
theorem Qvm{id:String}:MtR X id (WM X id):=λpins s σ _ _ _ v us _ I r rs h=>h pins s σ v us I r rs
theorem WM.of{id:String}{r:V->List V->Hp->VK->Prop}{x:V}{xs:List V}(h:MtR X id r)(q:r x xs H Q):WM X id x xs H Q:=λpins s σ v us I B J=>h pins s σ H x xs v us Q I B J q
abbrev MF:=Q1->PV->List PV->Res PV
structure MtS(X:Cx)(E:XK)(id:String)(o:MF):Prop where
 run:∀ (H:Hp) (ρ:Tk) (st:Q1) (p:PV) (ps:List PV) (x:V) (xs:List V) (Q:VK),Rel H ρ st->Rep H ρ p x->RepL H ρ ps xs->Acc X.mg E H ρ (QV Q) (o st p ps)->WM X id x xs H Q
variable{o:aH}{es:List aH}{mo:ME}{mr:Gam->Q1->Res (List PV)}{name:Str}{apos cpos:Pos}{T:String}{f:MF}
section
variable{id:String}
def mBM(f:MF)(mo:ME)(mr:Gam->Q1->Res (List PV)):ME:=λΓ st=>(mo Γ st).bind λp st1=>match Yk st1 p with
 | some _=>(mr Γ st1).bind λps st2=>f st2 p ps
 | none=>.stuck
theorem Qnt (pa:PlainAttrs "list") (slot:Slot "list" name id) (U:typeOf (.builtin id)=pure (.type "method_descriptor")) (hm:MtS X E id f) (ho:SimE X E o mo) (ha:SimA X E (e :: es) mr)
  (J:bB o name X.env (aL o X.env)=aL o X.env:=by rfl)
  (O:((aY cpos (aN (e :: es) X.env)).all (λx=>!x.1) && (backToKw cpos (keywordEach [] X.env)).all (λx=>x.1.isSome)
   && decide ((e :: es).length + ([]:List Keyword).length + (if([]:List Keyword).isEmpty then 0 else 1) < 30))=zi:=by rfl)
  (I:(apos.endLine == cpos.line)=zi:=by rfl) (hs:aN (e :: es) X.env=(zb,aL e X.env) :: aN es X.env:=by rfl) (B:(aY cpos (aN es X.env)).any (·.1)=zb:=by rfl) :
  SimE X E (.Call (.Attribute o name apos) (e :: es) [] cpos) (mBM f mo mr):=
 ⟨λΓ σ H ρ st Q R G h=>WE.of (Qv0 pa slot U Qvm Ji Q1u J O I hs B) (ho.use R G h.bind λp a1 H1 ρ1 v x1 R1 G1 r1 h1=>by
  split at h1
  ·rename_i ys el;obtain⟨a,vs,rfl,hr,_⟩:=Jg R1 r1 el;exact⟨.inl ⟨rfl,vs,.inl hr⟩,ha.use R1 G1 h1.bind λps Z H2 Y us x2 R2 G2 r2 h2=>hm.run H2 Y Z p ps _ us Q R2 (r1.ext x2) r2 h2⟩
  ·exact h1.elim)⟩
theorem Qg9 (pa:PlainAttrs "list") (slot:Slot "list" name id) (O:typeOf (.builtin id)=pure (.type "method_descriptor")) (hm:MtS X E id f) (Z:SimE X E o mo)
  (I:bB o name X.env (aL o X.env)=aL o X.env:=by rfl) (B:(apos.endLine == cpos.line)=zi:=by rfl):SimE X E (.Call (.Attribute o name apos) [] [] cpos) (mBM f mo Q5):=
 ⟨λΓ σ H ρ st Q R G h=>WE.of (Qr6 pa slot O Qvm Ji I B) (Z.use R G h.bind λp J H1 ρ1 v x1 U G1 Y h1=>by
  split at h1
  ·rename_i ys el;obtain⟨a,vs,rfl,hr,_⟩:=Jg U Y el;exact⟨.inl ⟨rfl,vs,.inl hr⟩,hm.run H1 ρ1 J p [] _ [] Q U Y rfl h1⟩
  ·exact h1.elim)⟩
def chg(st:Q1)(p:PV)(g:List PV->Option (PV × List PV)):Res PV:=match p with
 | .ref i=>match st[i]? with
  | some (.lst xs)=>match g xs with
   | some (r,ys)=>.ok r (st.set i (.lst ys))
   | none=>.stuck
  | _=>.stuck
 | _=>.stuck
theorem Q7b {x:V} {g:List PV->Option (PV × List PV)} (R:Rel H ρ st) (I:Rep H ρ p x) (h:Acc mg E H ρ (QV Q) (chg st p g)) :
  ∃ a xs vs r ys,x=.ref a/\H a=zo (.lst vs)/\RepL H ρ xs vs/\g xs=zo (r,ys)/\∀ us v,RepL H ρ ys us->Rep H ρ r v->Q v (upd H a (.lst us)):=by
 unfold chg at h
 split at h
 ·rename_i i
  split at h
  ·rename_i xs hs
   split at h
   ·rename_i r ys U;obtain⟨a,B,rfl⟩:=I;obtain⟨b,vs,f1,f2,f3⟩:=R.lst hs;rw[B]at f1;cases f1;refine⟨a,xs,vs,r,ys,rfl,f2,f3,U,λus v J O=>?_⟩;have x:=Ext.put (o':=.lst us) (F0 B) f2;exact h _ ρ x (R.put B f2 J) v (O.ext x)
   ·exact h.elim
  ·exact h.elim
 ·exact h.elim
def Jb:MF:=λst p ps=>match ps with
 | [y]=>chg st p λxs=>if xs.length < lim then zo (.non,xs ++ [y])else zl
 | _=>.stuck
theorem Qee:MtS X E "list.append" Jb:=⟨λH ρ st p ps x xs Q R B rs h=>by
 unfold Jb at h
 split at h
 ·obtain⟨v,rfl,r⟩:=Zi rs;obtain⟨a,ys,vs,J,zs,rfl,f1,f2,f3,k⟩:=Q7b R B h
  split at f3
  ·rename_i I;cases f3;exact WM.of Qec ⟨a,vs,v,rfl,rfl,f1,by rw[<- f2.length];exact E4 I Q15,k _ _ (f2.append (RepL.cons r RepL.nil)) rfl⟩
  ·cases f3
 ·exact h.elim⟩
def Kj:MF:=λst p ps=>match ps with
 | [q]=>match W4 st q with
  | some ys=>chg st p λxs=>if xs.length + ys.length<=lim then zo (.non,xs ++ ys)else zl
  | none=>.stuck
 | _=>.stuck
theorem Qed:MtS X E "list.extend" Kj:=⟨λH ρ st p ps x xs Q R B rs h=>by
 unfold Kj at h
 split at h
 ·obtain⟨v,rfl,r⟩:=Zi rs
  split at h
  ·rename_i ws J;obtain⟨b,us,rfl,I,rb⟩:=yk R r J;obtain⟨a,ys,vs,U,zs,rfl,f1,f2,f3,k⟩:=Q7b R B h
   split at f3
   ·rename_i O;cases f3;exact WM.of Qeb ⟨a,b,vs,us,rfl,rfl,f1,I,by rw[<- f2.length,<- rb.length];exact W5 O,k _ _ (f2.append rb) rfl⟩
   ·cases f3
  ·exact h.elim
 ·exact h.elim⟩
def X4:MF:=λst p ps=>match ps with
 | []=>chg st p λxs=>zo (.non,xs.reverse)
 | _=>.stuck
theorem Q3k:MtS X E "list.reverse" X4:=⟨λH ρ st p ps x xs Q R B rs h=>by
 unfold X4 at h
 split at h
 ·cases rs;obtain⟨a,ys,vs,I,zs,rfl,f1,f2,f3,k⟩:=Q7b R B h;cases f3;exact WM.of Qap ⟨a,vs,rfl,rfl,f1,k _ _ f2.reverse rfl⟩
 ·exact h.elim⟩
theorem Q55 (O:SimE X E o mo) (U:SimA X E [e] mr) (I:bB o "append" X.env (aL o X.env)=aL o X.env:=by rfl)
  (J:((aY cpos (aN [e] X.env)).all (λx=>!x.1) && (backToKw cpos (keywordEach [] X.env)).all (λx=>x.1.isSome) && decide ([e].length + ([]:List Keyword).length + (if([]:List Keyword).isEmpty then 0 else 1) < 30))=zi:=by rfl)
  (B:(apos.endLine == cpos.line)=zi:=by rfl) (hs:aN [e] X.env=(zb,aL e X.env) :: aN [] X.env:=by rfl):SimE X E (.Call (.Attribute o "append" apos) [e] [] cpos) (mBM Jb mo mr):=
 Qnt fK PySem.F.slot_list_append PySem.F.type_list_append Qee O U I J B hs
theorem Qdq (O:SimE X E o mo) (U:SimA X E [e] mr) (I:bB o "extend" X.env (aL o X.env)=aL o X.env:=by rfl)
  (J:((aY cpos (aN [e] X.env)).all (λx=>!x.1) && (backToKw cpos (keywordEach [] X.env)).all (λx=>x.1.isSome) && decide ([e].length + ([]:List Keyword).length + (if([]:List Keyword).isEmpty then 0 else 1) < 30))=zi:=by rfl)
  (B:(apos.endLine == cpos.line)=zi:=by rfl) (hs:aN [e] X.env=(zb,aL e X.env) :: aN [] X.env:=by rfl):SimE X E (.Call (.Attribute o "extend" apos) [e] [] cpos) (mBM Kj mo mr):=
 Qnt fK PySem.F.slot_list_extend PySem.F.type_list_extend Qed O U I J B hs
end
section
mutual
def fz(n:Nat)(st:Q1):Nat->PV->Option PV
 | 0,_=>zl
 | _ + 1,.non=>zo .non
 | _ + 1,.bl b=>zo (.bl b)
 | _ + 1,.int i=>zo (.int i)
 | _ + 1,.str x=>zo (.str x)
 | k + 1,.tup xs=>(fzL n st k xs).map .tup
 | k + 1,.lst xs=>(fzL n st k xs).map .lst
 | k + 1,.fro xs=>(fzL n st k xs).map .fro
 | _ + 1,.dic=>zo .dic
 | k + 1,.ref i=>if i < n then zo (.ref i)else match st[i]? with
  | some (.lst xs)=>(fzL n st k xs).map .lst
  | _=>zl
def fzL(n:Nat)(st:Q1):Nat->List PV->Option (List PV)
 | _,[]=>zo []
 | k,x :: xs=>(fz n st k x).bind λy=>(fzL n st k xs).map (y :: ·)
end
theorem Uc:∀ {m k:Nat} {p:PV},J0 m p=zi->m < k->fz n st k p=zo p:=by
 intro m
 induction m with
 | zero=>
  intro k p g J;obtain⟨k,rfl⟩:∃ j,k=j + 1:=⟨k - 1,by omega⟩;cases p with
  | tup _=>cases g
  | lst _=>cases g
  | fro _=>cases g
  | ref _=>cases g
  | dic=>cases g
  | _=>rw[fz]
 | succ m O=>
  intro k p g J;obtain⟨k,rfl⟩:∃ j,k=j + 1:=⟨k - 1,by omega⟩;have I:∀ xs:List PV,xs.all (J0 m)=zi->fzL n st k xs=zo xs:=by
   intro xs
   induction xs with
   | nil=>intro _;rw[fzL]
   | cons x xs B=>
    intro g;rw[bp,L9]at g;rw[fzL,O g.1 (by omega),B g.2];rfl
  cases p with
  | tup xs=>rw[fz,I xs g];rfl
  | lst xs=>rw[fz,I xs g];rfl
  | fro xs=>rw[fz,I xs g];rfl
  | ref _=>cases g
  | dic=>cases g
  | _=>rw[fz]
section
variable{H:Hp}{ρ:Tk}{st:Q1}{tr0 rest hs:List aB}
theorem Q77(R:Rel H ρ st)(ht:ρ.tr=tr0 ++ rest)(hh:∀ a,a∈hs->a∈ρ.hid):∀ (k:Nat) {p Z:PV} {v:V},Rep H ρ p v->fz tr0.length st k p=zo Z->Rep H ⟨tr0,hs⟩ Z v:=by
 have I:∀ a,a∉ρ->a∉(⟨tr0,hs⟩:Tk):=λa n z=>by
  rcases z with z | z
  ·exact n (.inl (by rw[ht];exact M5 _ z))
  ·exact n (.inr (hh a z))
 intro k
 induction k with
 | zero=>intro p Z v r e;rw[fz]at e;cases e
 | succ k ih=>
  have hL:∀ {ps B:List PV} {vs:List V},RepL H ρ ps vs->fzL tr0.length st k ps=zo B->RepL H ⟨tr0,hs⟩ B vs:=by
   intro ps
   induction ps with
   | nil=>intro B vs r e;rw[fzL]at e;cases e;exact r
   | cons x xs a2=>
    intro B vs r e;obtain⟨v,t,rfl,r1,r2⟩:=r;rw[fzL]at e;cases e1:fz tr0.length st k x with
    | none=>rw[e1]at e;cases e
    | some y=>
     rw[e1]at e;have e:(fzL tr0.length st k xs).map (y :: ·)=zo B:=e;cases e2:fzL tr0.length st k xs with
     | none=>rw[e2]at e;cases e
     | some ys=>
      rw[e2]at e;cases e;exact⟨v,t,rfl,ih r1 e1,a2 r2 e2⟩
  intro p Z v r e;cases p with
  | non=>rw[fz]at e;cases e;exact r
  | bl b=>rw[fz]at e;cases e;exact r
  | int i=>rw[fz]at e;cases e;exact r
  | str x=>rw[fz]at e;cases e;exact r
  | tup xs=>
   rw[fz]at e;obtain⟨a,vs,e1,J,O,U⟩:=r;cases e2:fzL tr0.length st k xs with
   | none=>rw[e2]at e;cases e
   | some ys=>rw[e2]at e;cases e;exact⟨a,vs,e1,J,I a O,hL U e2⟩
  | lst xs=>
   rw[fz]at e;obtain⟨a,vs,e1,J,O,U⟩:=r;cases e2:fzL tr0.length st k xs with
   | none=>rw[e2]at e;cases e
   | some ys=>rw[e2]at e;cases e;exact⟨a,vs,e1,J,I a O,hL U e2⟩
  | fro xs=>
   rw[fz]at e;obtain⟨a,vs,e1,J,O,U⟩:=r;cases e2:fzL tr0.length st k xs with
   | none=>rw[e2]at e;cases e
   | some ys=>rw[e2]at e;cases e;exact⟨a,vs,e1,J,I a O,hL U e2⟩
  | dic=>
   rw[fz]at e;cases e;obtain⟨a,e1,J,O⟩:=r;exact⟨a,e1,J,I a O⟩
  | ref i=>
   rw[fz]at e;obtain⟨a,Y,rfl⟩:=r
   by_cases hi:i < tr0.length
   ·rw[bO hi]at e;cases e;rw[ht,O3 hi]at Y;exact⟨a,Y,rfl⟩
   ·rw[bP hi]at e
    split at e
    ·rename_i xs a1;obtain⟨b,vs,f1,f2,f3⟩:=R.lst a1;rw[Y]at f1;cases f1;cases e2:fzL tr0.length st k xs with
     | none=>rw[e2]at e;cases e
     | some ys=>
      rw[e2]at e;cases e;refine⟨a,vs,rfl,f2,λz=>?_,hL f3 e2⟩;rcases z with z | z
      ·have z:a∈tr0:=z;obtain⟨j,hj,ej⟩:=dQ z;have g1:ρ.tr[j]?=zo a:=by rw[ht,O3 hj,O2 hj,ej]
       have l1:=O1.mp g1;have l2:=O1.mp Y;have:=Q5d R.nd l1.1 l2.1 (l1.2.trans l2.2.symm);omega
      ·exact R.ap a (hh a z) (F0 Y)
    ·cases e
mutual
def bel(n:Nat):PV->Prop
 | .tup xs=>belL n xs
 | .lst xs=>belL n xs
 | .fro xs=>belL n xs
 | .ref i=>i < n
 | _=>True
def belL(n:Nat):List PV->Prop
 | []=>True
 | x :: xs=>bel n x/\belL n xs
end
mutual
theorem Rep.bel:∀ {p:PV} {v:V},Rep H ρ p v->bel ρ.tr.length p
 | .non,_,_=>by simp[Sm.bel]
 | .bl _,_,_=>by simp[Sm.bel]
 | .int _,_,_=>by simp[Sm.bel]
 | .str _,_,_=>by simp[Sm.bel]
 | .tup ps,_,⟨_,_,_,_,_,r⟩=>by rw[Sm.bel];exact RepL.bel r
 | .lst ps,_,⟨_,_,_,_,_,r⟩=>by rw[Sm.bel];exact RepL.bel r
 | .fro ps,_,⟨_,_,_,_,_,r⟩=>by rw[Sm.bel];exact RepL.bel r
 | .ref i,_,⟨_,e,_⟩=>by rw[Sm.bel];exact(O1.mp e).1
 | .dic,_,_=>by simp[Sm.bel]
theorem RepL.bel:∀ {ps:List PV} {vs:List V},RepL H ρ ps vs->belL ρ.tr.length ps
 | [],_,_=>by simp[belL]
 | p :: ps,_,⟨_,_,_,B,I⟩=>by rw[belL];exact⟨Rep.bel B,RepL.bel I⟩
end
mutual
theorem Rep.less(B:ρ.tr=tr0 ++ rest)(O:∀ a,a∈hs->a∈ρ.hid):∀ {p:PV} {v:V},Sm.bel tr0.length p->Rep H ρ p v->Rep H ⟨tr0,hs⟩ p v
 | .non,_,_,r=>r
 | .bl _,_,_,r=>r
 | .int _,_,_,r=>r
 | .str _,_,_,r=>r
 | .tup ps,_,b,⟨a,vs,e,I,J,r⟩=>⟨a,vs,e,I,λz=>J (z.imp (λz=>by rw[B];exact M5 _ z) (O a)),RepL.less B O (by rw[Sm.bel]at b;exact b) r⟩
 | .lst ps,_,b,⟨a,vs,e,I,J,r⟩=>⟨a,vs,e,I,λz=>J (z.imp (λz=>by rw[B];exact M5 _ z) (O a)),RepL.less B O (by rw[Sm.bel]at b;exact b) r⟩
 | .fro ps,_,b,⟨a,vs,e,I,J,r⟩=>⟨a,vs,e,I,λz=>J (z.imp (λz=>by rw[B];exact M5 _ z) (O a)),RepL.less B O (by rw[Sm.bel]at b;exact b) r⟩
 | .ref i,_,b,⟨a,e,e2⟩=>⟨a,by rw[Sm.bel]at b;rw[B,O3 b]at e;exact e,e2⟩
 | .dic,_,_,⟨a,e,I,J⟩=>⟨a,e,I,λz=>J (z.imp (λz=>by rw[B];exact M5 _ z) (O a))⟩
theorem RepL.less(B:ρ.tr=tr0 ++ rest)(I:∀ a,a∈hs->a∈ρ.hid):∀ {ps:List PV} {vs:List V},belL tr0.length ps->RepL H ρ ps vs->RepL H ⟨tr0,hs⟩ ps vs
 | [],_,_,r=>r
 | p :: ps,_,b,⟨v,t,e,J,O⟩=>by
  rw[belL]at b;exact⟨v,t,e,Rep.less B I b.1 J,RepL.less B I b.2 O⟩
end
end
theorem Q86{H':Hp}{ρ':Tk}{st':Q1}(R:Rel H ρ st)(x:Ext H ρ H' ρ')(Y:Rel H' ρ' st')(Z:st <+: st'):Ext H ρ H' ρ/\Rel H' ρ st:=by
 obtain⟨rest,B⟩:=x.pre;obtain⟨J,U⟩:=Z;refine⟨⟨cp _,λ_ h=>h,λ_ h=>.inl h,x.keep,λ_ h=>.inl h,x.old,x.frz⟩,R.len,R.nd,λa O=>let ⟨o,e,n⟩:=R.hd a O;⟨o,x.keep a o e (R.ap a O),n⟩,R.ap,λi a c h1 h2=>?_⟩
 have hi:i < st.length:=(O1.mp h2).1;have q:=Y.cell i a c (by rw[<- B,O3 (O1.mp h1).1];exact h1) (by rw[<- U,O3 hi];exact h2);have I:=R.cell i a c h1 h2;cases c with
 | lst ps=>
  obtain⟨vs,e1,e2⟩:=q;obtain⟨us,_,f2⟩:=I;exact⟨vs,e1,RepL.less (ρ:=ρ') (tr0:=ρ.tr) (hs:=ρ.hid) B.symm x.hidM f2.bel e2⟩
 | dic ps=>
  obtain⟨vs,e1,e2⟩:=q;obtain⟨us,_,f2⟩:=I;exact⟨vs,e1,e2.1,RepL.less (ρ:=ρ') (tr0:=ρ.tr) (hs:=ρ.hid) B.symm x.hidM f2.2.bel e2.2⟩
 | dtp ps=>
  obtain⟨vs,e1,e2⟩:=q;obtain⟨us,_,f2⟩:=I;exact⟨vs,e1,e2.1,RepL.less (ρ:=ρ') (tr0:=ρ.tr) (hs:=ρ.hid) B.symm x.hidM f2.2.bel e2.2⟩
 | frd ps=>
  obtain⟨vs,e1,e2⟩:=q;obtain⟨us,_,f2⟩:=I;exact⟨vs,e1,e2.1,RepL.less (ρ:=ρ') (tr0:=ρ.tr) (hs:=ρ.hid) B.symm x.hidM f2.2.bel e2.2⟩
 | frt ps=>
  obtain⟨vs,e1,e2⟩:=q;obtain⟨us,_,f2⟩:=I;exact⟨vs,e1,e2.1,RepL.less (ρ:=ρ') (tr0:=ρ.tr) (hs:=ρ.hid) B.symm x.hidM f2.2.bel e2.2⟩
 | obj C ps=>
  obtain⟨vs,e1,e2⟩:=q;obtain⟨us,_,f2⟩:=I;exact⟨vs,e1,e2.1,RepL.less (ρ:=ρ') (tr0:=ρ.tr) (hs:=ρ.hid) B.symm x.hidM f2.2.bel e2.2⟩
abbrev FN:=List PV->Q1->Res PV
variable{FF:FN}
open Classical in
def fin(st:Q1)(v:PV)(st':Q1):Res PV:=if st <+: st' then okO st (fz st.length st' 16 v)else .ok v st'
open Classical in
def Qsp(st:Q1)(x:Exc)(st':Q1):Res PV:=if st <+: st' then(match x.fs with
 | none=>.exc x st
 | some (n,p)=>match fz st.length st' 16 p with
  | some q=>.exc ⟨x.cls,zo (n,q)⟩ st
  | none=>.stuck)else .exc x st'
def Qr(body:MS)(nl:Nat):FN:=λps st=>match body (ps.map zo ++ bV (nl - ps.length) zl) st with
 | .rt v st'=>fin st v st'
 | .nx _ st'=>fin st .non st'
 | .exc x st'=>Qsp st x st'
 | _=>.stuck
theorem Qcx{st':Q1}(R:Rel H ρ st)(h:Acc mg E H ρ (QV Q) (fin st p st')):∀ v H' ρ',Ext H ρ H' ρ'->Rel H' ρ' st'->Rep H' ρ' p v->Q v H':=λv H' ρ' x B r=>by
 unfold fin at h
 by_cases I:st <+: st'
 ·rw[bO I]at h;cases e:fz st.length st' 16 p with
  | none=>rw[e]at h;exact h.elim
  | some q=>
   rw[e]at h;obtain⟨J,R2⟩:=Q86 R x B I;obtain⟨rest,O⟩:=x.pre;rw[<- R.len]at e;exact h H' ρ J R2 v (Q77 (tr0:=ρ.tr) (hs:=ρ.hid) B O.symm x.hidM 16 r e)
 ·rw[bP I]at h;exact h H' ρ' x B v r
def spF(mg:zAD)(n:Nat)(F:FN):Sp:=λvs H Q E=>vs.length=n/\∃ ρ st ps,Rel H ρ st/\RepL H ρ ps vs/\Acc mg E H ρ (QV Q) (F ps st)
theorem Q52(r:RepL H ρ ps vs):EnvR H ρ (ps.map zo ++ bV (N.length - ps.length) zl) (L2.start N vs):=by
 have B:=r.length;unfold L2.start;refine⟨by simp[B],λi p e=>?_⟩
 by_cases hi:i < ps.length
 ·rw[O3 (by simpa using hi),F4]at e;rw[O3 (by simp;omega),F4];cases q:ps[i]? with
  | none=>rw[q]at e;cases e
  | some I=>
   rw[q]at e;cases e;obtain⟨v,e1,e2⟩:=r.get q;exact⟨v,by rw[e1];rfl,e2⟩
 ·rw[D7 (by simpa using hi),gA]at e
  split at e <;> cases e
section
variable{P:aM}{w:aJ}{K:bS}{mg:zAD}{base:Heap}
theorem Qsm {qual:Str} {st:aK} {f:aB} {ps:List Str} {k:Nat} {m:MS} (F:Fun K x qual st f fd) (S:FnScope N ps (Qe st))
  (hb:∀ (O:aA) (A:aQ) (outer:List eB) (s:aD) (H:Hp) (E:XK),Room k (A.deeper (eC qual (Qe st) s.heap.objs.size f O))->SimB (cxD P w K mg base N qual (Qe st) f O A outer s H E) E (Ze st) m) :
  FnOk P w K mg base (CXD P w) (k + 1) f fd ps (spF mg ps.length (Qr m N.length)):=by
 refine Fun.okD F S (λvs H Q E h=>h.1) λO A outer s H vs Q E hr a1=>⟨_,Q35,?_⟩
 obtain⟨hl,ρ,J,Z,R,rl,B⟩:=a1;refine(hb O A outer s H E hr).run _ (L2.start N vs) H ρ J _ R (Q52 rl) ?_;unfold Qr at B;cases Y:m (Z.map zo ++ bV (N.length - Z.length) zl) J with
 | rt v I=>rw[Y]at B;exact Qcx R B
 | nx Γ I=>rw[Y]at B;exact λa2 H' ρ' U R' G'=>Qcx R B .non H' ρ' U R' rfl
 | bk Γ I=>rw[Y]at B;exact B.elim
 | ct Γ I=>rw[Y]at B;exact B.elim
 | stuck=>rw[Y]at B;exact B.elim
 | exc y I=>
  rw[Y]at B;have B:Acc mg E H ρ (QV Q) (Qsp J y I):=B;intro C dv H' ρ' hm U R' hf;unfold Qsp at B
  by_cases hp:J <+: I
  ·rw[bO hp]at B;obtain⟨x2,R2⟩:=Q86 R U R' hp;obtain⟨cls,fs⟩:=y;cases fs with
   | none=>exact B C dv H' ρ hm x2 R2 hf
   | some np=>
    obtain⟨nm,p⟩:=np;simp only at B;cases e:fz J.length I 16 p with
    | none=>rw[e]at B;exact B.elim
    | some q=>
     rw[e]at B;obtain⟨rest,ht⟩:=U.pre;rw[<- R.len]at e;obtain⟨dx,v,e1,e2,e3,e4⟩:=hf;refine B C dv H' ρ hm x2 R2 ⟨dx,v,e1,e2,λz=>e3 (z.imp (λz=>by rw[<- ht];exact M5 _ z) (U.hidM dx)),Q77 (tr0:=ρ.tr) (hs:=ρ.hid) R' ht.symm U.hidM 16 e4 e⟩
  ·rw[bP hp]at B;exact B C dv H' ρ' hm U R' hf
end
theorem Qcw {P:aM} {w:aJ} {mg:zAD} {base:Heap} {qual:Str} {st:aK} {f:aB} {ps:List Str} {k nl:Nat} {m:MS} (F:Fun K x qual st f fd) (S:FnScope N ps (Qe st)) (hn:ps.length=n) (I:N.length=nl) (O:FF=Qr m nl)
  (J:∀ (B:aA) (A:aQ) (outer:List eB) (s:aD) (H:Hp) (E:XK),Room k (A.deeper (eC qual (Qe st) s.heap.objs.size f B))->SimB (cxD P w K mg base N qual (Qe st) f B A outer s H E) E (Ze st) m) :
  FnOk P w K mg base (CXD P w) (k + 1) f fd ps (spF mg n FF):=by
 subst hn;subst I;subst O;exact Qsm F S J
structure DefS(P:aM)(w:aJ)(K:bS)(mg:zAD)(base:Heap)(k:Nat)(x:Str)(n:Nat)(F:FN):Prop where
 ex:∃ (f:aB) (fd:aO) (ps:List Str),FnOk P w K mg base (CXD P w) k f fd ps (spF mg n F)/\mg x=zo (.ref f)/\cC K (.ref f)=zi/\Binds K fd ps []/\ps.length=n
def Qd(n:Nat)(F:FN)(mr:Gam->Q1->Res (List PV)):ME:=λΓ st=>(mr Γ st).bind λps st1=>if ps.length=n then F ps st1 else .stuck
section
variable{X:Cx}{E:XK}{k n:Nat}{x:Str}{F:FN}{p pos:Pos}{e:aH}{es:List aH}{mr:Gam->Q1->Res (List PV)}
theorem Y5 (D:DefS X.prog X.w X.K X.mg X.base k x n F) (hr:Room k X.A) (hx:Q4e (CXD X.prog X.w) X E) (hg:Gl X x) (ha:SimA X E (e :: es) mr) (I:(x == ("__debug__" : Str))=zb:=by decide)
  (he:aN (e :: es) X.env=(zb,aL e X.env) :: aN es X.env:=by rfl) (B:(aY pos (aN es X.env)).any (·.1)=zb:=by rfl):SimE X E (.Call (.Name x p) (e :: es) [] pos) (Qd n F mr):=by
 obtain⟨f,fd,ps,hF,hm,Z,hb,hl⟩:=D.ex;exact⟨λΓ σ H ρ st Q R G h=>WE.of (Qm7 hF hr hg hm Z hb .nil hx Q1u I he B) (ha.use R G h.bind λU J H1 ρ1 vs x1 R1 G1 Y h1=>by
  by_cases O:U.length=n
  ·rw[bO O]at h1;show spF X.mg n F (vs ++ []) H1 Q E;rw[G6];exact⟨by rw[<- Y.length];exact O,ρ1,J,U,R1,Y,h1⟩
  ·rw[bP O]at h1;exact h1.elim)⟩
end
end
@[simp] theorem Qp(a:α)(st:Q1)(f:α->Q1->Res β):(Res.ok a st).bind f=f a st:=rfl
@[simp] theorem Qt5(f:α->Q1->Res β):(Res.stuck:Res α).bind f=.stuck:=rfl
@[simp] theorem Qwt(x:Exc)(st:Q1)(f:α->Q1->Res β):(Res.exc x st:Res α).bind f=.exc x st:=rfl
@[simp] theorem Xb(a:α)(st:Q1)(f:α->Q1->SR):(Res.ok a st).sbind f=f a st:=rfl
@[simp] theorem Qnu(f:α->Q1->SR):(Res.stuck:Res α).sbind f=.stuck:=rfl
@[simp] theorem Qtj(x:Exc)(st:Q1)(f:α->Q1->SR):(Res.exc x st:Res α).sbind f=.exc x st:=rfl
@[simp] theorem Qxd(i:Nat)(Γ:Gam)(st:Q1):Q2 i Γ st=(match Γ[i]? with | some (zo p)=>.ok p st | _=>.stuck):=rfl
@[simp] theorem Qzb(p:PV)(Γ:Gam)(st:Q1):mC p Γ st=.ok p st:=rfl
@[simp] theorem Qry(o:OP)(a b:ME)(Γ:Gam)(st:Q1):mOp o a b Γ st=(a Γ st).bind λx B=>(b Γ B).bind λy I=>o I x y:=rfl
@[simp] theorem Qz4(b:Bool)(st:Q1):asB (.bl b) st=.ok b st:=rfl
@[simp] theorem Qpk(m:ME)(Γ:Gam)(st:Q1):toB m Γ st=(m Γ st).bind asB:=rfl
def Qq5{α:Type}(x:PV)(A B:Res α):Res α:=match x with
 | .bl zi=>A
 | .bl zb=>B
 | _=>.stuck
@[simp] theorem Qx1(b:Bool)(A B:Res α):Qq5 (.bl b) A B=if b=zi then A else B:=by cases b <;> rfl
@[simp] theorem Qei(o o':OP)(a b c:ME)(Γ:Gam)(st:Q1):U7 o o' a b c Γ st=(a Γ st).bind λx J=>(b Γ J).bind λy I=>(o I x y).bind λk B=>Qq5 k ((c Γ B).bind λz O=>o' O y z) (.ok (.bl zb) B):=by
 unfold U7;refine congrArg _ (funext λx=>funext λJ=>congrArg _ (funext λy=>funext λI=>congrArg _ (funext λk=>funext λB=>?_)))
 cases k with
 | bl b=>cases b <;> rfl
 | _=>rfl
@[simp] theorem Qxj(a b:ME)(Γ:Gam)(st:Q1):Q14 a b Γ st=(a Γ st).bind λx B=>Qq5 x (b Γ B) (.ok (.bl zb) B):=by
 unfold Q14;refine congrArg _ (funext λx=>funext λB=>?_);cases x with
 | bl b=>cases b <;> rfl
 | _=>rfl
@[simp] theorem Qxe(a:ME)(Γ:Gam)(st:Q1):Qrz a Γ st=(a Γ st).bind λx B=>(match x with | .bl k=>.ok (.bl (!k)) B | _=>.stuck):=rfl
@[simp] theorem Qxg(a:ME)(Γ:Gam)(st:Q1):Q8t a Γ st=(a Γ st).bind λx B=>(match x with | .int k=>.ok (.int (-k)) B | _=>.stuck):=rfl
@[simp] theorem Q7w(a b:MT)(Γ:Gam)(st:Q1):Uf a b Γ st=(a Γ st).bind λk B=>if k=zi then b Γ B else .ok zb B:=rfl
@[simp] theorem Qbq(a b:MT)(Γ:Gam)(st:Q1):xg a b Γ st=(a Γ st).bind λk B=>if k=zi then .ok zi B else b Γ B:=rfl
@[simp] theorem Qfp(a:MT)(Γ:Gam)(st:Q1):V7 a Γ st=(a Γ st).bind λk B=>.ok (!k) B:=rfl
@[simp] theorem Qyt(c:MT)(a b:ME)(Γ:Gam)(st:Q1):mIf c a b Γ st=(c Γ st).bind λk B=>if k=zi then a Γ B else b Γ B:=rfl
@[simp] theorem Qxf(Γ:Gam)(st:Q1):Q5 Γ st=.ok [] st:=rfl
@[simp] theorem Qhq(m:ME)(mr:ML)(Γ:Gam)(st:Q1):Q0 m mr Γ st=(m Γ st).bind λp B=>(mr Γ B).bind λps I=>.ok (p :: ps) I:=rfl
@[simp] theorem Qmm(mr:ML)(Γ:Gam)(st:Q1):Je mr Γ st=(mr Γ st).bind λps B=>if ps.length<=lim then .ok (.tup ps) B else .stuck:=rfl
@[simp] theorem Qxh(mr:ML)(Γ:Gam)(st:Q1):Z1 mr Γ st=(mr Γ st).bind λps B=>if ps.length<=lim then .ok (.lst ps) B else .stuck:=rfl
@[simp] theorem Qvr(mr:ML)(Γ:Gam)(st:Q1):Uv mr Γ st=(mr Γ st).bind λps B=>if ps.length<=lim then .ok ps B else .stuck:=rfl
@[simp] theorem Qas(m:ME)(l h:Gam->Q1->Res (Option Int))(Γ:Gam)(st:Q1):mSl m l h Γ st=(m Γ st).bind λp B=>(l Γ B).bind λlo J=>(h Γ J).bind λhi I=>oSl I p lo hi:=rfl
@[simp] theorem Qs0(Γ:Gam)(st:Q1):Jy Γ st=.ok zl st:=rfl
@[simp] theorem Qvp(m:ME)(Γ:Gam)(st:Q1):W2 m Γ st=(m Γ st).bind λp B=>(match p with | .int i=>.ok (zo i) B | _=>.stuck):=rfl
@[simp] theorem Qhr(o:CF)(mr:ML)(Γ:Gam)(st:Q1):Qi o mr Γ st=(mr Γ st).bind λps B=>o B ps:=rfl
@[simp] theorem Qxi(T:String)(m:ME)(Γ:Gam)(st:Q1):Q4v T m Γ st=(m Γ st).bind λp B=>if zq B p=zi then .stuck else .ok (.bl (isI T (dpv B p))) B:=rfl
@[simp] theorem Qwg(st:Q1):zq st .non=zb:=rfl
@[simp] theorem Qxm(st:Q1)(b:Bool):zq st (.bl b)=zb:=rfl
@[simp] theorem Qwi(st:Q1)(b:Int):zq st (.int b)=zb:=rfl
@[simp] theorem Qwe(st:Q1)(b:Str):zq st (.str b)=zb:=rfl
@[simp] theorem Qwd(st:Q1)(b:List PV):zq st (.tup b)=zb:=rfl
@[simp] theorem Qwh(st:Q1)(b:List PV):zq st (.lst b)=zb:=rfl
@[simp] theorem Qwj(st:Q1)(b:List PV):zq st (.fro b)=zb:=rfl
@[simp] theorem Qwk(st:Q1):zq st .dic=zb:=rfl
@[simp] theorem Qwf(st:Q1)(i:Nat):zq st (.ref i)=(match st[i]? with | some (.frd _)=>zi | some (.frt _)=>zi | some (.obj _ _)=>zi | _=>zb):=rfl
@[simp] theorem Qxs(st:Q1):dpv st .non=.non:=rfl
@[simp] theorem Qyz(st:Q1)(b:Bool):dpv st (.bl b)=(.bl b):=rfl
@[simp] theorem Qxu(st:Q1)(b:Int):dpv st (.int b)=(.int b):=rfl
@[simp] theorem Qxr(st:Q1)(b:Str):dpv st (.str b)=(.str b):=rfl
@[simp] theorem Qxq(st:Q1)(b:List PV):dpv st (.tup b)=(.tup b):=rfl
@[simp] theorem Qxt(st:Q1)(b:List PV):dpv st (.lst b)=(.lst b):=rfl
@[simp] theorem Qxv(st:Q1)(b:List PV):dpv st (.fro b)=(.fro b):=rfl
@[simp] theorem Qyy(st:Q1):dpv st .dic=.dic:=rfl
@[simp] theorem Qzc(st:Q1)(i:Nat):dpv st (.ref i)=(match st[i]? with | some (.dic _)=>.dic | some (.dtp _)=>.dic | _=>.ref i):=rfl
@[simp] theorem Qmk(m:ML)(Γ:Gam)(st:Q1):Wu m Γ st=(m Γ st).bind λps B=>.ok (.lst ps) B:=rfl
@[simp] theorem Qmn(m:ML)(Γ:Gam)(st:Q1):Y4 m Γ st=(m Γ st).bind λps B=>.ok (.ref B.length) (B ++ [.lst ps]):=rfl
@[simp] theorem Qeh(cap:zAB)(ga:GA)(mi:MI)(mt:MT)(me:ME)(Γ:Gam)(st:Q1):Qy cap ga mi mt me Γ st=(mi Γ st).bind λI B=>noX (Z3 ga mt me I.2 (Y1 cap Γ) I.1 B):=rfl
@[simp] theorem Qvn(Γ:Gam)(st:Q1):Js Γ st=.ok zi st:=rfl
@[simp] theorem Qej(n:Nat)(F:FN)(mr:ML)(Γ:Gam)(st:Q1):Qd n F mr Γ st=(mr Γ st).bind λps B=>if ps.length=n then F ps B else .stuck:=rfl
@[simp] theorem Qvq(Γ:Gam)(st:Q1):Jf Γ st=.nx Γ st:=rfl
@[simp] theorem Q8s(a b:MS)(Γ:Gam)(st:Q1):Qb a b Γ st=(match a Γ st with | .nx I B=>b I B | r=>r):=rfl
@[simp] theorem Q8u(m:ME)(Γ:Gam)(st:Q1):Yx m Γ st=(m Γ st).sbind λ_ B=>.nx Γ B:=rfl
@[simp] theorem Qmr(m:ME)(Γ:Gam)(st:Q1):J9 m Γ st=(m Γ st).sbind λp B=>.rt p B:=rfl
@[simp] theorem Qmp(i:Nat)(m:ME)(Γ:Gam)(st:Q1):Qm i m Γ st=(m Γ st).sbind λp B=>.nx (Γ.set i (zo p)) B:=rfl
@[simp] theorem Qch(c:MT)(a b:MS)(Γ:Gam)(st:Q1):Z5 c a b Γ st=(c Γ st).sbind λk B=>if k=zi then a Γ B else b Γ B:=rfl
@[simp] theorem Qms(ga:GA)(mi:MI)(b:MS)(Γ:Gam)(st:Q1):Yu ga mi b Γ st=(mi Γ st).sbind λI B=>Jt ga b I.2 I.1 Γ B:=rfl
@[simp] theorem Qmq(m:ME)(Γ:Gam)(st:Q1):Yz m Γ st=(m Γ st).bind λp B=>(match Y8 B p with | some (xs,w)=>if xs.length<=lim then .ok (xs,w) B else .stuck | none=>.stuck):=rfl
@[simp] theorem Qat(mr:ML)(Γ:Gam)(st:Q1):Z2 mr Γ st=(mr Γ st).bind λps B=>(match ps with | [.int j]=>if -(lim:Int)<=j/\j<=lim then .ok (Wn 0 j.toNat,[]) B else .stuck | _=>.stuck):=rfl
@[simp] theorem Qxc(mr:ML)(Γ:Gam)(st:Q1):zn mr Γ st=(mr Γ st).bind λps B=>(match ps with | [p,q]=>(match Y8 B p,Y8 B q with | some (xs,w),zo (ys,I)=>if xs.length<=lim then .ok (Ks xs ys,w ++ I) B else .stuck | _,_=>.stuck) | _=>.stuck):=rfl
@[simp] theorem Qvs(mr:ML)(Γ:Gam)(st:Q1):zu mr Γ st=(mr Γ st).bind λps B=>(match ps with | [p]=>(match Y8 B p with | some (xs,w)=>if xs.length<=lim then .ok (Vt 0 xs,w) B else .stuck | none=>.stuck) | _=>.stuck):=rfl
@[simp] theorem Qs2(f:MF)(mo:ME)(mr:ML)(Γ:Gam)(st:Q1):mBM f mo mr Γ st=(mo Γ st).bind λp B=>(match Yk B p with | some _=>(mr Γ B).bind λps I=>f I p ps | none=>.stuck):=rfl
@[simp] theorem Qmt(ga:GA)(m:ME)(Γ:Gam)(st:Q1):Q8v ga m Γ st=(m Γ st).sbind λp B=>(match ga p Γ with | some I=>.nx I B | none=>.stuck):=rfl
@[simp] theorem Qeg(mo mi m:ME)(Γ:Gam)(st:Q1):U5 mo mi m Γ st=(m Γ st).sbind λp B=>(mo Γ B).sbind λo J=>(mi Γ J).sbind λi O=>(match Wh O o i p with | some I=>.nx Γ I | none=>.stuck):=rfl
@[simp] theorem Qtn(x:Str)(m:ME)(Γ:Gam)(st:Q1):Qau x m Γ st=(m Γ st).sbind λ_ B=>.exc ⟨x,zl⟩ B:=rfl
@[simp] theorem Qts(i:Nat)(p:PV)(Γ:Gam):Q4 i p Γ=zo (Γ.set i (zo p)):=rfl
@[simp] theorem Qwa(Γ:Gam):Qw [] Γ=zo Γ:=rfl
@[simp] theorem Qtt(g:GA)(gs:GAs)(p:PV)(r:List PV)(Γ:Gam):Q6 g gs (p :: r) Γ=(g p Γ).bind (gs r):=rfl
@[simp] theorem Qw9(gs:GAs)(ps:List PV)(Γ:Gam):Qv gs (.tup ps) Γ=gs ps Γ:=rfl
@[simp] theorem Qyq(a:α)(st:Q1):noX (Res.ok a st)=.ok a st:=rfl
@[simp] theorem Qtm:noX (Res.stuck:Res α)=.stuck:=rfl
@[simp] theorem Qvb(st:Q1)(a:α):okO st (zo a)=.ok a st:=rfl
@[simp] theorem Qvc(st:Q1):okO st (zl:Option α)=.stuck:=rfl
@[simp] theorem Qza(g:Int->Int->PV)(st:Q1)(a b:Int):oI g st (.int a) (.int b)=.ok (g a b) st:=rfl
@[simp] theorem Qvj(st:Q1)(a b:Int):Jj st (.int a) (.int b)=.ok (.int (a + b)) st:=rfl
@[simp] theorem Qvi(st:Q1)(a b:List PV):Jj st (.tup a) (.tup b)=if a.length + b.length<=lim then .ok (.tup (a ++ b)) st else .stuck:=rfl
@[simp] theorem Qvf(st:Q1)(a b:Int):Q6w st (.int a) (.int b)=if(-(2 ^ 64) < a/\a < 2 ^ 64)\/(-(2 ^ 64) < b/\b < 2 ^ 64)then .ok (.int (a * b)) st else .stuck:=rfl
@[simp] theorem Qve(st:Q1)(xs:List PV)(b:Int):Q6w st (.tup xs) (.int b)=if xs≠[]/\1<=b/\xs.length * b.toNat<=4096 then .ok (.tup (bV b.toNat xs).flatten) st else .stuck:=rfl
@[simp] theorem Qvg(st:Q1)(a b:Int):Q8h st (.int a) (.int b)=if 0 < b then .ok (.int (a % b)) st else .stuck:=rfl
@[simp] theorem Qvh(st:Q1)(a b:Int):Qhh st (.int a) (.int b)=if 0 < b/\b < 1073741824 then .ok (.int (a / b)) st else .stuck:=rfl
@[simp] theorem Qvd(st:Q1)(a b:Int):Qmh st (.int a) (.int b)=if 0<=b/\b<=1000000/\a.natAbs < 2 ^ 64 then .ok (.int (a ^ b.toNat)) st else .stuck:=rfl
@[simp] theorem Qx6(st:Q1)(a b:Int):oLt st (.int a) (.int b)=.ok (.bl (decide (a < b))) st:=rfl
@[simp] theorem Q23(st:Q1)(a b:Int):oEq st (.int a) (.int b)=.ok (.bl (a == b)) st:=rfl
@[simp] theorem Qcb(st:Q1)(a b:Int):oNe st (.int a) (.int b)=.ok (.bl (!(a == b))) st:=rfl
@[simp] theorem Qyp(st:Q1)(a b:Bool):oEq st (.bl a) (.bl b)=.ok (.bl (a == b)) st:=rfl
@[simp] theorem Qrs(st:Q1)(a b:Bool):oNe st (.bl a) (.bl b)=.ok (.bl (!(a == b))) st:=rfl
@[simp] theorem Qxb(st:Q1)(a b:Str):oEq st (.str a) (.str b)=.ok (.bl (a == b)) st:=rfl
@[simp] theorem Qx5(st:Q1)(a b:Str):oNe st (.str a) (.str b)=.ok (.bl (!(a == b))) st:=rfl
@[simp] theorem Qxa(st:Q1)(p:PV):oIs st p .non=.ok (.bl (Q5p p)) st:=rfl
@[simp] theorem Qyn(st:Q1)(a b:Bool):oIs st (.bl a) (.bl b)=.ok (.bl (a == b)) st:=rfl
@[simp] theorem Qak(st:Q1)(p:PV):yf st p .non=.ok (.bl (!Q5p p)) st:=rfl
@[simp] theorem Qtk(st:Q1)(a b:Bool):yf st (.bl a) (.bl b)=.ok (.bl (a != b)) st:=rfl
@[simp] theorem Qtr(st:Q1)(xs:List PV):W4 st (.lst xs)=zo xs:=rfl
@[simp] theorem Qax(st:Q1)(xs:List PV):Yk st (.lst xs)=zo xs:=rfl
@[simp] theorem Qs4(st:Q1)(xs:List PV):Yk st (.fro xs)=zo xs:=rfl
@[simp] theorem Q54(st:Q1)(xs:List PV):Yf st (.lst xs)=zo xs:=rfl
@[simp] theorem Qti(st:Q1)(xs:List PV):Yf st (.fro xs)=zo xs:=rfl
@[simp] theorem Qdp(st:Q1)(xs:List PV):Yf st (.tup xs)=zo xs:=rfl
@[simp] theorem Qtg(st:Q1)(xs:List PV):Y8 st (.lst xs)=zo (xs,[]):=rfl
@[simp] theorem Qth(st:Q1)(xs:List PV):Y8 st (.fro xs)=zo (xs,[]):=rfl
@[simp] theorem Qtf(st:Q1)(xs:List PV):Y8 st (.tup xs)=zo (xs,[]):=rfl
theorem z9{i:Nat}(h:st[i]?=zo (.lst xs)):W4 st (.ref i)=zo xs:=by simp only[W4,h]
@[simp] theorem Qx7(st:Q1)(xs:List PV)(i:Int):oIx st (.tup xs) (.int i)=okO st (atI xs i):=rfl
@[simp] theorem Qx8(st:Q1)(xs:List PV)(i:Int):oIx st (.lst xs) (.int i)=okO st (atI xs i):=rfl
@[simp] theorem Qx9(st:Q1)(xs:List PV)(i:Int):oIx st (.fro xs) (.int i)=okO st (atI xs i):=rfl
@[simp] theorem Qx2(st:Q1)(xs:List PV)(l h:Option Int):oSl st (.tup xs) l h=.ok (.tup (cut xs l h)) st:=rfl
@[simp] theorem Qx3(st:Q1)(xs:List PV)(l h:Option Int):oSl st (.lst xs) l h=.ok (.lst (cut xs l h)) st:=rfl
@[simp] theorem Qx4(st:Q1)(xs:List PV)(l h:Option Int):oSl st (.fro xs) l h=.ok (.lst (cut xs l h)) st:=rfl
@[simp] theorem Wa(st:Q1)(xs:List PV):Z0 st [.tup xs]=.ok (.int xs.length) st:=rfl
@[simp] theorem Qj5(st:Q1)(xs:List PV):Z0 st [.lst xs]=.ok (.int xs.length) st:=rfl
@[simp] theorem Qj6(st:Q1)(xs:List PV):Z0 st [.fro xs]=.ok (.int xs.length) st:=rfl
@[simp] theorem Qtu(st:Q1)(xs:List PV):Xi st [.tup xs]=.ok (.lst xs) st:=rfl
@[simp] theorem Qtv(st:Q1)(xs:List PV):Xi st [.lst xs]=.ok (.lst xs) st:=rfl
@[simp] theorem Qtw(st:Q1)(xs:List PV):Xi st [.fro xs]=.ok (.lst xs) st:=rfl
@[simp] theorem Qt3(st:Q1)(xs:List PV):Xh st [.tup xs]=.ok (.tup xs) st:=rfl
@[simp] theorem Qt4(st:Q1)(xs:List PV):Xh st [.lst xs]=.ok (.tup xs) st:=rfl
@[simp] theorem Q0k(g:List Bool->PV)(st:Q1)(bs:List Bool):qw g st [.lst (bs.map .bl)]=.ok (g bs) st:=by
 simp only[qw,Q54,dR,Qn9]
@[simp] theorem zf(g:List Int->Option PV)(st:Q1)(ns:List Int):Vh g st [.lst (ns.map .int)]=okO st (g ns):=by
 simp only[Vh,Q54,dR,Q0d]
@[simp] theorem Qf5(g:List Int->Option PV)(st:Q1)(ns:List Int):Vh g st [.tup (ns.map .int)]=okO st (g ns):=by
 simp only[Vh,Qdp,dR,Q0d]
@[simp] theorem Qj3(st:Q1)(a b:Int):Qf4 st [.int a,.int b]=.ok (.int (if b > a then b else a)) st:=rfl
@[simp] theorem Q0j(st:Q1)(a b:Int):jt st [.int a,.int b]=.ok (.int (if b < a then b else a)) st:=rfl
@[simp] theorem Qtz(st:Q1):wOk [] st=True:=by simp[wOk]
@[simp] theorem Qb4(st:Q1)(b:Bool):fin st (.bl b) st=.ok (.bl b) st:=by simp[fin,fz]
@[simp] theorem Qxp(st:Q1)(b:Int):fin st (.int b) st=.ok (.int b) st:=by simp[fin,fz]
@[simp] theorem Qn5(st:Q1):fin st .non st=.ok .non st:=by simp[fin,fz]
@[simp] theorem Qxn(st:Q1)(b:Str):fin st (.str b) st=.ok (.str b) st:=by simp[fin,fz]
theorem Jr:lim=1000000:=rfl
theorem Jn(g f:α->PV){w:Wt}{Γ0:Gam}(J:wOk w st){ys:List α}(h:∀ y∈ys,∃ B,ga (g y) Γ0=zo B/\me B st=.ok (f y) st):Z3 ga Js me w Γ0 (ys.map g) st=.ok (ys.map f) st:=by
 induction ys with
 | nil=>simp[Z3,J]
 | cons y ys I=>
  obtain⟨B,h1,h2⟩:=h y D3;have I:=I λz hz=>h z (O6 _ hz)
  rw[D8,Z3,bO J,h1];simp[h2,I]
theorem ze(g f:α->PV)(t:α->Bool){w:Wt}{Γ0:Gam}(J:wOk w st){ys:List α}(h:∀ y∈ys,∃ B,ga (g y) Γ0=zo B/\mt B st=.ok (t y) st/\(t y=zi->me B st=.ok (f y) st)):Z3 ga mt me w Γ0 (ys.map g) st=.ok ((ys.filter t).map f) st:=by
 induction ys with
 | nil=>simp[Z3,J]
 | cons y ys I=>
  obtain⟨B,h1,h2,O⟩:=h y D3;have I:=I λz hz=>h z (O6 _ hz)
  rw[D8,Z3,bO J,h1];simp only[h2,Qp,I];cases tx:t y with
  | true=>simp[O tx,tx,I]
  | false=>simp[tx]
@[simp] theorem Qwr(g:List Bool->PV)(st:Q1)(ys:List α)(b:α->Bool):qw g st [.lst (ys.map λy=>.bl (b y))]=.ok (g (ys.map b)) st:=by
 rw[show(ys.map λy=>PV.bl (b y))=(ys.map b).map .bl by rw[F3];rfl,Q0k]
@[simp] theorem Qtx(g:List Int->Option PV)(st:Q1)(ys:List α)(b:α->Int):Vh g st [.lst (ys.map λy=>.int (b y))]=okO st (g (ys.map b)):=by
 rw[show(ys.map λy=>PV.int (b y))=(ys.map b).map .int by rw[F3];rfl,zf]
theorem Q1k {α:Type} (g:α->PV) (J:Gam->Prop) (Pd:α->Bool) (v:PV) {ga:GA} {body:MS} {w:Wt} {st:Q1} (Y:wOk w st):∀ {xs:List α},(∀ x∈xs,∀ Γ,J Γ->∃ B,ga (g x) Γ=zo B/\(Pd x=zi->∃ I,J I/\body B st=.nx I st)/\(Pd x=zb->body B st=.rt v st)) ->
  ∀ Γ,J Γ->(xs.all Pd=zi->∃ O,J O/\Jt ga body w (xs.map g) Γ st=.nx O st)/\(xs.all Pd=zb->Jt ga body w (xs.map g) Γ st=.rt v st)
 | [],_,Γ,U=>⟨λ_=>⟨Γ,U,by simp[Jt,Y]⟩,λh=>by simp at h⟩
 | x :: xs,h,Γ,U=>by
  obtain⟨B,h1,h2,h3⟩:=h x D3 Γ U;rw[D8,Jt,bO Y,h1];cases px:Pd x with
  | false=>
   refine⟨λz=>by simp[px]at z,λ_=>?_⟩;simp only[h3 px]
  | true=>
   obtain⟨I,j2,e2⟩:=h2 px;have ih:=Q1k g J Pd v (ga:=ga) (body:=body) Y (xs:=xs) (λy Z=>h y (O6 _ Z)) I j2
   simp only[e2,bp,px,cu];exact ih
theorem W6 (g:α->PV) {xs:List α} (I:Nat->Gam->Q1->Prop) {ga:GA} {body:MS} {w:Wt} (Y:∀ i Γ st,I i Γ st->wOk w st)
  (h:∀ (i:Nat) x Γ st,xs[i]?=zo x->I i Γ st->∃ J,ga (g x) Γ=zo J/\∃ O U,body J st=.nx O U/\I (i + 1) O U) {Γ:Gam} {st:Q1} (h0:I 0 Γ st):∃ B st',Jt ga body w (xs.map g) Γ st=.nx B st'/\I xs.length B st':=by
 induction xs generalizing I Γ st with
 | nil=>exact⟨Γ,st,by simp[Jt,Y 0 Γ st h0],h0⟩
 | cons x xs ih=>
  obtain⟨J,h1,O,U,e2,i2⟩:=h 0 x Γ st rfl h0;obtain⟨B,st',e3,i3⟩:=ih (λi=>I (i + 1)) (λi Γ st z=>Y (i + 1) Γ st z) (λi y Γ st Z z=>h (i + 1) y Γ st (by simpa using Z) z) i2
  refine⟨B,st',?_,i3⟩;rw[D8,Jt,bO (Y 0 Γ st h0),h1];simp only[e2];exact e3
theorem Q1b (g:α->PV) {xs:List α} (I:List α->Gam->Q1->Prop) {ga:GA} {body:MS} {w:Wt} (Z:∀ pre Γ st,I pre Γ st->wOk w st)
  (h:∀ pre x B Γ st,xs=pre ++ x :: B->I pre Γ st->∃ Y,ga (g x) Γ=zo Y/\∃ O U,body Y st=.nx O U/\I (pre ++ [x]) O U) {Γ:Gam} {st:Q1} (h0:I [] Γ st):∃ J st',Jt ga body w (xs.map g) Γ st=.nx J st'/\I xs J st':=by
 have key:∀ (B pre:List α) (Γ:Gam) (st:Q1),xs=pre ++ B->I pre Γ st->∃ J st',Jt ga body w (B.map g) Γ st=.nx J st'/\I xs J st':=by
  intro B
  induction B with
  | nil=>intro pre Γ st e i;exact⟨Γ,st,by simp[Jt,Z pre Γ st i],by rw[e,G6];exact i⟩
  | cons x B ih=>
   intro pre Γ st e i;obtain⟨Y,h1,O,U,e2,i2⟩:=h pre x B Γ st e i;obtain⟨J,st',e3,i3⟩:=ih (pre ++ [x]) O U (by rw[e];simp) i2;refine⟨J,st',?_,i3⟩;rw[D8,Jt,bO (Z pre Γ st i),h1];simp only[e2];exact e3
 exact key xs [] Γ st rfl h0
theorem Qfc(f:α->PV)(g:β->PV)(xs:List α)(ys:List β):Ks (xs.map f) (ys.map g)=(xs.zip ys).map λz=>.tup [f z.1,g z.2]:=by
 rw[yy,fL,F3];rfl
theorem Q7g(f:α->PV)(xs:List α)(i:Int):atI (xs.map f) i=(atI xs i).map f:=by
 unfold atI;rw[O0];cases ixN xs.length i with
 | none=>rfl
 | some j=>simp[F4]
theorem atI_get{xs:List α}{i:Nat}{x:α}(h:xs[i]?=zo x):atI xs (i:Int)=zo x:=by
 have B:=(O1.mp h).1;unfold atI ixN;rw[bO (by omega),bO (by omega)];simpa using h
theorem Qn7(f:α->PV)(xs:List α)(l h:Option Int):cut (xs.map f) l h=(cut xs l h).map f:=by
 unfold cut;rw[O0,<- fM,<- gv]
theorem Vc(n:Nat):Wn 0 n=(bT n).map λ(k:Nat)=>PV.int (k:Int):=by
 unfold Wn;refine L5 λk _=>?_
 rw[dS]
@[simp] theorem Qy1(st l:List α)(c:α):(st ++ c :: l)[st.length]?=zo c:=by
 rw[D7 (O9 _),L6];rfl
@[simp] theorem Qwz(st l:List α)(c d:α):(st ++ c :: d :: l)[st.length + 1]?=zo d:=by
 rw[D7 (by omega)];rw[show st.length + 1 - st.length=1 by omega];rfl
@[simp] theorem Qy0(st l:List α)(c d:α):(st ++ c :: l).set st.length d=st ++ d :: l:=by
 rw[cv _ _ (O9 _),L6];rfl
@[simp] theorem Qwy(st l:List α)(c B d:α):(st ++ c :: B :: l).set (st.length + 1) d=st ++ c :: d :: l:=by
 rw[cv _ _ (by omega),show st.length + 1 - st.length=1 by omega];rfl
@[simp] theorem Qxw(st:Q1)(i:Nat)(g:List PV->Option (PV × List PV)):chg st (.ref i) g=(match st[i]? with | some (.lst xs)=>(match g xs with | some (r,ys)=>.ok r (st.set i (.lst ys)) | none=>.stuck) | _=>.stuck):=rfl
@[simp] theorem Qxk(st:Q1)(i:Nat):W4 st (.ref i)=(match st[i]? with | some (.lst xs)=>zo xs | _=>zl):=rfl
@[simp] theorem Q0a(st:Q1)(i:Nat):Yk st (.ref i)=(match st[i]? with | some (.lst xs)=>zo xs | _=>zl):=rfl
@[simp] theorem Q22(st:Q1)(i:Nat):Yf st (.ref i)=(match st[i]? with | some (.lst xs)=>zo xs | _=>zl):=rfl
@[simp] theorem Qx0(st:Q1)(i:Nat):Y8 st (.ref i)=(match st[i]? with | some (.lst xs)=>zo (xs,[(i,.lst xs)]) | _=>zl):=rfl
@[simp] theorem Qp0(st:Q1)(p y:PV):Jb st p [y]=chg st p λxs=>if xs.length < lim then zo (.non,xs ++ [y])else zl:=rfl
@[simp] theorem Qwq(st:Q1)(i:Nat):Xh st [.ref i]=(match st[i]? with | some (.lst xs)=>.ok (.tup xs) st | _=>.stuck):=by
 unfold Xh;simp only[Q22];cases st[i]? with
 | none=>rfl
 | some c=>cases c <;> rfl
@[simp] theorem Qxx(st:Q1)(i:Nat):Xi st [.ref i]=(match st[i]? with | some (.lst xs)=>.ok (.lst xs) st | _=>.stuck):=by
 unfold Xi;simp only[Q22];cases st[i]? with
 | none=>rfl
 | some c=>cases c <;> rfl
@[simp] theorem Qj4(st:Q1)(i:Nat):Z0 st [.ref i]=(match st[i]? with | some (.lst xs)=>.ok (.int xs.length) st | _=>.stuck):=by
 unfold Z0;simp only[Q22];cases st[i]? with
 | none=>rfl
 | some c=>cases c <;> rfl
@[simp] theorem Q3g(st:Q1)(i:Nat)(j:Int):oIx st (.ref i) (.int j)=(match st[i]? with | some (.lst xs)=>okO st (atI xs j) | _=>.stuck):=by
 unfold oIx;simp only[Q22];cases st[i]? with
 | none=>rfl
 | some c=>cases c <;> rfl
@[simp] theorem Kt(st:Q1)(k:Nat)(j:Int)(p:PV):Wh st (.ref k) (.int j) p=(match st[k]? with | some (.lst xs)=>(ixN xs.length j).map λn=>st.set k (.lst (xs.set n p)) | _=>zl):=rfl
theorem Q1e(xs:List α)(k:Nat):cut xs zl (zo (k:Int))=xs.take k:=by
 unfold cut;rw[HT.sIx_none,HT.sIx_nat,eA,eJ];rcases gw k xs.length with h | h
 ·rw[gy h]
 ·rw[gz h,fC,hB h]
theorem Q9d(xs:List α)(k:Nat):cut xs (zo (k:Int)) zl=xs.drop k:=by
 unfold cut;rw[HT.sIx_none,HT.sIx_nat];rcases gw k xs.length with h | h
 ·rw[gy h,hB (by rw[cb];omega)]
 ·rw[gz h,fJ,List.drop_of_length_le h];simp
theorem Q19{l:List α}{j:Nat}(h:j < l.length)(d:α):l[j]?=zo (l.getD j d):=by
 rw[ci,O2 h];rfl
def ListAt(st:Q1)(V:PV)(xs:List PV):Prop:=V=.lst xs\/V=.fro xs\/∃ i,V=.ref i/\st[i]?=zo (.lst xs)
theorem ListAt.ix{V:PV}(h:ListAt st V xs)(j:Int):oIx st V (.int j)=okO st (atI xs j):=by
 rcases h with rfl | rfl | ⟨i,rfl,e⟩
 ·rfl
 ·rfl
 ·rw[Q3g,e]
theorem Q5v (g:α->PV) {xs:List α} (I:Nat->List PV->Q1->Prop) {ga:GA} {me:ME} {w:Wt} {Γ0:Gam} (U:∀ i B st,I i B st->wOk w st)
  (h:∀ (i:Nat) x B st,xs[i]?=zo x->I i B st->∃ O,ga (g x) Γ0=zo O/\∃ v J,me O st=.ok v J/\I (i + 1) (B ++ [v]) J) {st:Q1} (h0:I 0 [] st):∃ B st',Z3 ga Js me w Γ0 (xs.map g) st=.ok B st'/\I xs.length B st':=by
 have key:∀ (ys:List α) (k:Nat) (pre:List PV) (st:Q1),(∀ i,ys[i]?=xs[k + i]?)->k + ys.length=xs.length->I k pre st->∃ B st',Z3 ga Js me w Γ0 (ys.map g) st=.ok B st'/\I xs.length (pre ++ B) st':=by
  intro ys
  induction ys with
  | nil=>
   intro k pre st e e2 i;refine⟨[],st,by simp[Z3,U k pre st i],?_⟩;rw[G6,<- e2];exact i
  | cons y ys ih=>
   intro k pre st e e2 i;have Z:xs[k]?=zo y:=by have:=e 0;simpa using this.symm
   obtain⟨O,h1,v,J,h2,i2⟩:=h k y pre st Z i;obtain⟨B,st',h3,Y⟩:=ih (k + 1) (pre ++ [v]) J (λi=>by
    have:=e (i + 1);rw[cy]at this;rw[this];congr 1;omega) (by rw[<- e2,E5];omega) i2
   refine⟨v :: B,st',?_,by simpa using Y⟩;rw[D8,Z3,bO (U k pre st i),h1];simp[Js,h2,h3]
 obtain⟨B,st',h1,h2⟩:=key xs 0 [] st (λi=>by simp) (by simp) h0;exact⟨B,st',h1,by simpa using h2⟩
@[simp] theorem Qtp(ma:ME)(Γ:Gam)(st:Q1):W3 ma Γ st=(ma Γ st).bind λp B=>match Yf B p with | some xs=>.ok xs B | none=>.stuck:=rfl
@[simp] theorem Qvu(ma mb:ME)(Γ:Gam)(st:Q1):Q1i ma mb Γ st=(ma Γ st).bind λx B=>(mb Γ B).bind λy I=>Q5c I x y:=rfl
theorem Q27(h:k < n):ixN n (k:Int)=zo k:=by
 unfold ixN;rw[bO (by omega),bO (by omega)];simp
theorem jw:∀ {xs:List PV},(∀ x∈xs,peq x x=zi)->peqL xs xs=zi
 | [],_=>rfl
 | x :: xs,h=>by
  rw[peqL,h x D3,jw λy B=>h y (O6 _ B)];rfl
theorem xw:∀ {n:Nat} {p:PV},J0 n p=zi->peq p p=zi
 | n,.non,_=>rfl
 | n,.bl b,_=>by simp[peq]
 | n,.int b,_=>by simp[peq]
 | n,.str b,_=>by simp[peq]
 | n,.ref _,g=>by cases n <;> simp[J0]at g
 | n,.dic,g=>by cases n <;> simp[J0]at g
 | 0,.tup _,g=>by simp[J0]at g
 | 0,.lst _,g=>by simp[J0]at g
 | 0,.fro _,g=>by simp[J0]at g
 | n + 1,.tup xs,g=>by
  rw[peq];refine jw λx B=>xw (n:=n) ?_
  simp[J0]at g;exact g x B
 | n + 1,.lst xs,g=>by
  rw[peq];refine jw λx B=>xw (n:=n) ?_
  simp[J0]at g;exact g x B
 | n + 1,.fro xs,g=>by
  rw[peq];refine jw λx B=>xw (n:=n) ?_
  simp[J0]at g;exact g x B
def Xs(body:MS)(nl:Nat):FN:=λps st=>match body (ps.map zo ++ bV (nl - ps.length) zl) st with
 | .rt v st'=>.ok v st'
 | .nx _ st'=>.ok .non st'
 | .exc x st'=>.exc x st'
 | _=>.stuck
variable{P:aM}{K:bS}{base:Heap}
section
variable{w:aJ}
theorem Qn4 {qual:Str} {st:aK} {f:aB} {ps:List Str} {k:Nat} {m:MS} (F:Fun K x qual st f fd) (S:FnScope N ps (Qe st))
  (hb:∀ (I:aA) (A:aQ) (outer:List eB) (s:aD) (H:Hp) (E:XK),Room k (A.deeper (eC qual (Qe st) s.heap.objs.size f I))->SimB (cxD P w K mg base N qual (Qe st) f I A outer s H E) E (Ze st) m) :
  FnOk P w K mg base (CXD P w) (k + 1) f fd ps (spF mg ps.length (Xs m N.length)):=by
 refine Fun.okD F S (λvs H Q E h=>h.1) λI A outer s H vs Q E hr Z=>⟨_,Q35,?_⟩
 obtain⟨hl,ρ,Y,U,R,rl,B⟩:=Z;refine(hb I A outer s H E hr).run _ (L2.start N vs) H ρ Y _ R (Q52 rl) ?_;unfold Xs at B;cases O:m (U.map zo ++ bV (N.length - U.length) zl) Y with
 | rt v J=>rw[O]at B;exact λv H' ρ' x R' r=>B H' ρ' x R' v r
 | nx Γ J=>rw[O]at B;exact λa1 H' ρ' x' R' G'=>B H' ρ' x' R' .non rfl
 | bk Γ J=>rw[O]at B;exact B.elim
 | ct Γ J=>rw[O]at B;exact B.elim
 | stuck=>rw[O]at B;exact B.elim
 | exc y J=>rw[O]at B;exact B
end
theorem Q98 {P:aM} {w:aJ} {mg:zAD} {base:Heap} {qual:Str} {st:aK} {f:aB} {ps:List Str} {k nl:Nat} {m:MS} {FF:FN} (F:Fun K x qual st f fd) (S:FnScope N ps (Qe st)) (hn:ps.length=n) (I:N.length=nl) (O:FF=Xs m nl)
  (J:∀ (B:aA) (A:aQ) (outer:List eB) (s:aD) (H:Hp) (E:XK),Room k (A.deeper (eC qual (Qe st) s.heap.objs.size f B))->SimB (cxD P w K mg base N qual (Qe st) f B A outer s H E) E (Ze st) m) :
  FnOk P w K mg base (CXD P w) (k + 1) f fd ps (spF mg n FF):=by
 subst hn;subst I;subst O;exact Qn4 F S J
theorem Qkb(r:Room k A):A.units + 9 < aP:=by have:=r.un;omega
def Qxy(kvs:List (Key × PV))(k:Key):Option PV:=(kvs.find? λkv=>decide (kv.1=k)).map (·.2)
def Qpb(st:Q1):PV->Option (List (Key × PV))
 | .ref i=>match st[i]? with
  | some (.dic kvs)=>zo kvs
  | some (.frd kvs)=>zo kvs
  | _=>zl
 | _=>zl
def Q3w:List PV->Option (List Int)
 | []=>zo []
 | .int i :: xs=>(Q3w xs).map (i :: ·)
 | _ :: _=>zl
def Q2q:List PV->Option (List (List Int))
 | []=>zo []
 | .tup ys :: xs=>match Q3w ys with
  | some (n :: ns)=>(Q2q xs).map ((n :: ns) :: ·)
  | _=>zl
 | _ :: _=>zl
def qv(ns:List Int):PV:=.tup (ns.map .int)
theorem Q93{H:Hp}{ρ:Tk}:∀ {xs:List PV} {ns:List Int} {vs:List V},Q3w xs=zo ns->RepL H ρ xs vs->vs=ns.map V.int/\xs=ns.map PV.int
 | [],_,_,e,r=>by cases e;exact⟨r,rfl⟩
 | .int i :: xs,ns,_,e,⟨v,t,e1,B,J⟩=>by
  have e:(Q3w xs).map (i :: ·)=zo ns:=e;cases z:Q3w xs with
  | none=>rw[z]at e;cases e
  | some I=>
   rw[z]at e;cases e;obtain⟨h1,h2⟩:=Q93 z J;have B:v=.int i:=B;exact⟨by rw[e1,B,h1];rfl,by rw[h2];rfl⟩
 | .non :: _,_,_,e,_=>by cases e
 | .bl _ :: _,_,_,e,_=>by cases e
 | .str _ :: _,_,_,e,_=>by cases e
 | .tup _ :: _,_,_,e,_=>by cases e
 | .lst _ :: _,_,_,e,_=>by cases e
 | .fro _ :: _,_,_,e,_=>by cases e
 | .ref _ :: _,_,_,e,_=>by cases e
 | .dic :: _,_,_,e,_=>by cases e
theorem Q7t{H:Hp}{ρ:Tk}:∀ {xs:List PV} {nss:List (List Int)} {vs:List V},Q2q xs=zo nss->RepL H ρ xs vs->xs=nss.map qv/\aq (λ(v:V) (ns:List Int)=>ns≠[]/\∃ a,v=.ref a/\H a=zo (.tup (ns.map V.int))) vs nss
 | [],_,_,e,r=>by cases e;cases r;exact⟨rfl,.nil⟩
 | .tup ys :: xs,nss,vs,e,⟨v,t,e1,Z,O⟩=>by
  have e:(match Q3w ys with | some (n :: ns)=>(Q2q xs).map ((n :: ns) :: ·) | _=>zl)=zo nss:=e
  cases B:Q3w ys with
  | none=>rw[B]at e;cases e
  | some ms=>
   cases ms with
   | nil=>rw[B]at e;cases e
   | cons n ns=>
    rw[B]at e;cases z:Q2q xs with
    | none=>rw[z]at e;cases e
    | some I=>
     rw[z]at e;cases e;obtain⟨h1,h2⟩:=Q7t z O;obtain⟨a,us,rfl,Y,_,U⟩:=Z;obtain⟨J,g2⟩:=Q93 B U;subst e1;exact⟨by rw[h1,g2];rfl,.cons ⟨by simp,a,rfl,by rw[Y,J]⟩ h2⟩
 | .int _ :: _,_,_,e,_=>by cases e
 | .non :: _,_,_,e,_=>by cases e
 | .bl _ :: _,_,_,e,_=>by cases e
 | .str _ :: _,_,_,e,_=>by cases e
 | .lst _ :: _,_,_,e,_=>by cases e
 | .fro _ :: _,_,_,e,_=>by cases e
 | .ref _ :: _,_,_,e,_=>by cases e
 | .dic :: _,_,_,e,_=>by cases e
theorem Q57{H:Hp}{ρ:Tk}{nss:List (List Int)}{vs:List V}(r:RepL H ρ (nss.map qv) vs):∀ (B:List Nat),(∀ x∈B,x < vs.length)->RepL H ρ ((B.map λi=>nss.getD i []).map qv) (B.map λi=>vs.getD i .non)
 | [],_=>rfl
 | x :: B,h=>by
  have I:=h x (by simp);have O:=r.length;rw[O0]at O;have e1:(nss.map qv)[x]?=zo (qv (nss.getD x [])):=by
   rw[F4,O2 (by omega),O7,O2 (by omega)];rfl
  have e2:vs[x]?=zo (vs.getD x .non):=by rw[O7,O2 I];rfl
  exact RepL.cons (r.i e1 e2) (Q57 r B λy J=>h y (O6 _ J))
def Q4a:CF:=λst ps=>match ps with
 | [p]=>match Yk st p with
  | some xs=>match Q2q xs with
   | some nss=>if nss.length < 64 then .ok (.lst ((qq nss).map qv)) st else .stuck
   | none=>.stuck
  | none=>.stuck
 | _=>.stuck
theorem Q9f:CallS X E (.builtin "sorted") Q4a:=⟨λH ρ st ps xs Q R J h=>by
 unfold Q4a at h
 split at h
 ·rename_i p;obtain⟨v,rfl,r⟩:=Zi J
  split at h
  ·rename_i ys el
   split at h
   ·rename_i nss en
    split at h
    ·rename_i Y;obtain⟨a,vs,rfl,hr,B⟩:=Jg R r el;obtain⟨O,g2⟩:=Q7t en B;subst O;have hl:=B.length;rw[O0]at hl;refine WC.of Q7c ⟨a,vs,nss,rfl,.inl hr,by omega,g2,λd pp hd hp Z=>?_⟩;have I:=Q57 B pp λx U=>by have:=hp.mem_iff.mp U;simpa using this
     rw[Z]at I;exact jz R h I d hd
    ·exact h.elim
   ·exact h.elim
  ·exact h.elim
 ·exact h.elim⟩
theorem Q1q:aW "sorted" = zo (.builtin "sorted"):=by decide +kernel
def Qhn(f:PV->Option HK):List PV->Option (List HK)
 | []=>zo []
 | p :: ps=>match f p,Qhn f ps with
  | some k,zo l=>zo (k :: l)
  | _,_=>zl
def Qer:Nat->PV->Option HK
 | _,.int i=>zo (.int i)
 | _,.str x=>zo (.str x)
 | d + 1,.tup ps=>(Qhn (Qer d) ps).map .tup
 | _,_=>zl
theorem Qi4:∀ (d:Nat) {p:PV} {k:HK} {v:V},Qer d p=zo k->Rep H ρ p v->KAt H k v/\Dp d k:=by
 intro d
 induction d with
 | zero=>
  intro p k v e r;cases p with
  | int i=>cases e;exact⟨r,trivial⟩
  | str i=>cases e;exact⟨r,trivial⟩
  | _=>cases e
 | succ d ih=>
  intro p k v e r;cases p with
  | int i=>cases e;exact⟨r,trivial⟩
  | str i=>cases e;exact⟨r,trivial⟩
  | tup ps=>
   obtain⟨a,vs,rfl,Z,_,O⟩:=r;have key:∀ {ps:List PV} {l:List HK} {vs:List V},Qhn (Qer d) ps=zo l->RepL H ρ ps vs->KAtL H l vs/\∀ k∈l,Dp d k:=by
    intro ps
    induction ps with
    | nil=>intro l vs e r;cases e;exact⟨r,λk J=>nomatch J⟩
    | cons p ps I=>
     intro l vs e ⟨v,t,e1,r1,U⟩;unfold Qhn at e
     split at e
     ·rename_i k l' e2 e3;cases e;obtain⟨h1,h2⟩:=ih e2 r1;obtain⟨Y,h4⟩:=I e3 U;exact⟨⟨v,t,e1,h1,Y⟩,λx B=>by rcases E2.mp B with rfl | B;exact h2;exact h4 x B⟩
     ·cases e
   unfold Qer at e;cases z:Qhn (Qer d) ps with
   | none=>rw[z]at e;cases e
   | some l=>
    rw[z]at e;cases e;obtain⟨h1,h2⟩:=key z O;exact⟨⟨a,vs,rfl,Z,h1⟩,h2⟩
  | _=>cases e
def Q4w:PV->Option HK
 | .tup ps=>Qer 5 (.tup ps)
 | .str x=>zo (.str x)
 | _=>zl
theorem Xf{k:HK}(e:Q4w p=zo k)(r:Rep H ρ p v):KR H k v:=by
 cases p with
 | tup ps=>exact Qi4 5 e r
 | str x=>cases e;exact⟨r,trivial⟩
 | _=>cases e
def putT(kvs:List (HK × PV))(k:HK)(v:PV):List (HK × PV):=
 if(kvs.any λkv=>decide (kv.1=k))=zi then kvs.map (λkv=>if kv.1=k then(kv.1,v)else kv)else kvs ++ [(k,v)]
theorem Q85{B:List (HK × PV)}{vs:List (HK × V)}(r:RepD H ρ B vs)(k:HK)(O:Rep H ρ p v):RepD H ρ (putT B k p) (Ki vs k v):=by
 have ha:(B.any λI=>decide (I.1=k))=vs.any λI=>decide (I.1=k):=by
  have e1:(B.any λI=>decide (I.1=k))=(B.map bU).any λx=>decide (x=k):=by rw[cT];rfl
  have e2:(vs.any λI=>decide (I.1=k))=(vs.map bU).any λx=>decide (x=k):=by rw[cT];rfl
  rw[e1,e2,r.1]
 unfold putT Ki;rw[<- ha]
 by_cases q:(B.any λI=>decide (I.1=k))=zi
 ·rw[bO q,bO q];have key:∀ (B:List (HK × PV)) (vs:List (HK × V)),RepD H ρ B vs->RepD H ρ (B.map λI=>if I.1=k then(I.1,p)else I) (vs.map λI=>if I.1=k then(I.1,v)else I):=by
   intro B
   induction B with
   | nil=>
    intro vs r;cases vs with
    | nil=>exact r
    | cons _ _=>have:=r.length;cases this
   | cons a B ih=>
    intro vs r;cases vs with
    | nil=>have:=r.length;cases this
    | cons b vs=>
     obtain⟨r1,x,t,e,Z,Y⟩:=r;obtain⟨e1,e2⟩:=eD (show b.1 :: vs.map bU=a.1 :: B.map bU from r1);obtain⟨e3,U⟩:=eD (show b.2 :: vs.map bi=x :: t from e);subst e3;subst U;obtain⟨i1,i2⟩:=ih vs ⟨e2,Y⟩;rw[D8,D8]
     by_cases z:a.1=k
     ·have J:b.1=k:=e1.trans z;rw[bO z,bO J];exact⟨by rw[D8,D8,i1];show b.1 :: _=a.1 :: _;rw[e1],RepL.cons O i2⟩
     ·have J:¬ b.1=k:=λh=>z (e1.symm.trans h)
      rw[bP z,bP J];exact⟨by rw[D8,D8,i1];show b.1 :: _=a.1 :: _;rw[e1],RepL.cons Z i2⟩
  exact key B vs r
 ·rw[bP q,bP q];refine⟨?_,?_⟩
  ·rw[E7,E7,r.1];rfl
  ·rw[E7,E7];exact r.2.append (RepL.cons O RepL.nil)
variable{dpos tpos:Pos}{k:aH}
section
variable{i:aH}{mi mk:ME}
def Q3q:ME:=λΓ st=>.ok (.ref st.length) (st ++ [.dtp []])
theorem Qg6:SimE X E (.Dict [] [] dpos) Q3q:=⟨λΓ σ H ρ st Q R G h=>WE.of Qh5 λd hd=>by
 have x:Ext H ρ (upd H d (.dT [])) (ρ.add d):=Ext.addT hd;refine h _ _ x (R.addC hd ⟨_,Qx,rfl,rfl⟩) _ ⟨d,?_,rfl⟩;show(ρ.tr ++ [d])[st.length]?=zo d;rw[<- R.len,D7 (O9 _),L6];rfl⟩
def Q44(st:Q1):PV->Option (List (HK × PV))
 | .ref i=>match st[i]? with
  | some (.dtp kvs)=>zo kvs
  | _=>zl
 | _=>zl
theorem Q9a{B:List (HK × PV)}(R:Rel H ρ st)(r:Rep H ρ p v)(e:Q44 st p=zo B):∃ i a vs,p=.ref i/\v=.ref a/\ρ.tr[i]?=zo a/\st[i]?=zo (.dtp B)/\H a=zo (.dT vs)/\RepD H ρ B vs:=by
 cases p with
 | ref i=>
  obtain⟨a,O,rfl⟩:=r;unfold Q44 at e;cases z:st[i]? with
  | none=>simp only[z]at e;cases e
  | some c=>
   simp only[z]at e;cases c with
   | dtp J=>
    cases e;obtain⟨b,vs,I,Y,U⟩:=R.dtp z;rw[O]at I;cases I;exact⟨i,a,vs,rfl,rfl,O,z,Y,U⟩
   | lst xs=>cases e
   | dic xs=>cases e
   | frd xs=>cases e
   | frt xs=>cases e
   | obj C xs=>cases e
 | _=>cases e
def Q0g(st:Q1)(p q v:PV):Option Q1:=match p with
 | .ref n=>match Q44 st (.ref n),Q4w q with
  | some kvs,zo k=>if kvs.length < lim then zo (st.set n (.dtp (putT kvs k v)))else zl
  | _,_=>zl
 | _=>zl
def Q13(mo mi m:ME):MS:=λΓ st=>(m Γ st).sbind λv st1=>(mo Γ st1).sbind λp st2=>(mi Γ st2).sbind λq st3=>match Q0g st3 p q v with
 | some st4=>.nx Γ st4
 | none=>.stuck
theorem Qfz(hu:X.A.units + 9 < aP)(he:SimE X E e m)(ho:SimE X E o mo)(hi:SimE X E i mi)(hs:swapsWith e (zo (.Subscript o i tpos)) pos.line X.env=pure zb:=by rfl):SimS X E (.Assign [.Subscript o i tpos] e pos) (Q13 mo mi m):=
 ⟨λΓ σ H ρ st D R G h=>WS.of (Qkt hu Ji Ji Ji hs) (he.use R G h.bind λv a2 H1 ρ1 z x1 R1 G1 r1 h1=>ho.use R1 G1 h1.bind λp a5 H2 a3 x x2 R2 G2 r2 h2=>hi.use R2 G2 h2.bind λq I Z B y x3 R3 G3 r3 J=>by
  cases es:Q0g I p q v with
  | none=>rw[es]at J;exact J.elim
  | some a1=>
   rw[es]at J;unfold Q0g at es
   split at es
   ·rename_i n
    split at es
    ·rename_i O k e1 e2
     split at es
     ·rename_i hl;cases es;obtain⟨n',a,vs,en,rfl,ea,a4,Y,rd⟩:=Q9a R3 (r2.ext x3) e1;cases en;have U:=Xf e2 r3;have x4:Ext Z B (upd Z a (.dT (Ki vs k z))) B:=Ext.put (F0 ea) Y;have rz:=(r1.ext (x2.trans x3)).ext x4;have R4:Rel (upd Z a (.dT (Ki vs k z))) B (I.set n (.dtp (putT O k v))):=R3.putC ea Y ⟨_,Qx,Q85 (rd.ext x4) k rz⟩;refine⟨a,_,rfl,DPut.t Y U (by rw[<- rd.length];exact E4 hl Q15),J σ _ B x4 R4 (G3.ext x4)⟩
     ·cases es
    ·cases es
   ·cases es)⟩
def Up(kvs:List (HK × PV))(k:HK):Option PV:=(kvs.find? λkv=>decide (kv.1=k)).map (·.2)
theorem Kg{H:Hp}{ρ:Tk}(k:HK):∀ {B:List (HK × PV)} {vs:List (HK × V)},RepD H ρ B vs->(Up B k=zl/\Xv vs k=zl)\/∃ p v,Up B k=zo p/\Xv vs k=zo v/\Rep H ρ p v
 | [],[],_=>.inl ⟨rfl,rfl⟩
 | [],b :: vs,r=>by have:=r.length;cases this
 | a :: B,[],r=>by have:=r.length;cases this
 | a :: B,b :: vs,r=>by
  obtain⟨Y,x,t,e,O,U⟩:=r;obtain⟨e1,e2⟩:=eD (show b.1 :: vs.map bU=a.1 :: B.map bU from Y);obtain⟨e3,J⟩:=eD (show b.2 :: vs.map bi=x :: t from e);subst e3;subst J;unfold Up Xv;rw[bv,bv]
  by_cases z:a.1=k
  ·have I:b.1=k:=e1.trans z;rw[bR z,bR I];exact .inr ⟨a.2,b.2,rfl,rfl,O⟩
  ·have I:¬ b.1=k:=λh=>z (e1.symm.trans h)
   rw[bQ z,bQ I];exact Kg k ⟨e2,U⟩
theorem Qbk(R:Rel H ρ st)(b:aB)(xs:List V)(h:H b=zo (.tup xs)):b∉ρ:=λz=>by
 rcases z with z | z
 ·obtain⟨i,hi,e⟩:=dQ z;have hs:i < st.length:=by rw[<- R.len];exact hi
  have q:=R.cell i b st[i] (by rw[O2 hi,e]) (O2 hs);cases B:st[i]with
  | lst xs=>rw[B]at q;obtain⟨vs,h1,_⟩:=q;rw[h]at h1;cases h1
  | dic xs=>rw[B]at q;obtain⟨vs,h1,_⟩:=q;rw[h]at h1;cases h1
  | dtp xs=>rw[B]at q;obtain⟨vs,h1,_⟩:=q;rw[h]at h1;cases h1
  | frd xs=>rw[B]at q;obtain⟨vs,⟨_,h1⟩,_⟩:=q;rw[h]at h1;cases h1
  | frt xs=>rw[B]at q;obtain⟨vs,⟨_,h1⟩,_⟩:=q;rw[h]at h1;cases h1
  | obj C xs=>rw[B]at q;obtain⟨vs,⟨_,h1⟩,_⟩:=q;rw[h]at h1;cases h1
 ·obtain⟨o,h1,h2⟩:=R.hd b z;rw[h]at h1;cases h1;exact h2 xs rfl
end
variable{H0:Hp}{ρ0:Tk}{st:Q1}{a:aB}{ps:List (HK × PV)}{vs:List (HK × V)}
theorem Qh9 (Z:Rel H0 ρ0 st) (x:Ext H0 ρ0 H ρ) {B:Q1} (R:Rel H ρ B) (J:a∈ρ.hid) (hn:H0 a=zl) (ha:H a=zo (.dT vs)) (r:RepD H ρ ps vs) :
  Ext H0 ρ0 H ⟨ρ.tr ++ [a],ρ0.hid⟩/\Rel H ⟨ρ.tr ++ [a],ρ0.hid⟩ (B ++ [.dtp ps])/\Rep H ⟨ρ.tr ++ [a],ρ0.hid⟩ (.ref B.length) (.ref a):=by
 have U:a∉ρ0.hid:=λz=>by
  obtain⟨o,e,_⟩:=Z.hd a z;rw[hn]at e;cases e
 refine⟨⟨x.pre.trans (cq _ _),λ_ h=>h,λ_ h=>.inl h,x.keep,λb I=>?_,x.old,x.frz⟩,⟨?_,?_,λb I=>R.hd b (x.hidM b I),λb I z=>?_,λi b c h1 h2=>?_⟩,a,?_,rfl⟩
 ·rcases D4.mp I with z | z
  ·exact x.new b z
  ·have:b=a:=by simpa using z
   subst this;exact .inr hn
 ·show(ρ.tr ++ [a]).length=_;rw[O5,O5,R.len];rfl
 ·show(ρ.tr ++ [a]).Nodup;refine bx.mpr ⟨R.nd,by simp,λb I c hc e=>?_⟩;have:c=a:=by simpa using hc
  subst this;subst e;exact R.ap b J I
 ·rcases D4.mp z with z | z
  ·exact R.ap b (x.hidM b I) z
  ·have:b=a:=by simpa using z
   subst this;exact U I
 ·have h1:(ρ.tr ++ [a])[i]?=zo b:=h1
  by_cases hi:i < B.length
  ·rw[O3 (by rw[R.len];exact hi)]at h1;rw[O3 hi]at h2;have q:=R.cell i b c h1 h2;cases c with
   | lst O=>
    obtain⟨us,e1,e2⟩:=q;exact⟨us,e1,e2.trk J x.hidM⟩
   | dic O=>
    obtain⟨us,e1,e2⟩:=q;exact⟨us,e1,e2.1,e2.2.trk J x.hidM⟩
   | dtp O=>
    obtain⟨us,e1,e2⟩:=q;exact⟨us,e1,e2.1,e2.2.trk J x.hidM⟩
   | frd O=>
    obtain⟨us,e1,e2⟩:=q;exact⟨us,e1,e2.1,e2.2.trk J x.hidM⟩
   | frt O=>
    obtain⟨us,e1,e2⟩:=q;exact⟨us,e1,e2.1,e2.2.trk J x.hidM⟩
   | obj C O=>
    obtain⟨us,e1,e2⟩:=q;exact⟨us,e1,e2.1,e2.2.trk J x.hidM⟩
  ·rw[D7 (by rw[R.len];omega)]at h1;rw[D7 (by omega)]at h2;have Y:i - B.length=0:=by
    rcases fI (i - B.length)with z | z
    ·exact z
    ·rw[L7 (by simp;omega)]at h2;cases h2
   rw[R.len,Y]at h1;rw[Y]at h2;simp at h1 h2;subst h1;subst h2;exact⟨vs,ha,r.1,r.2.trk J x.hidM⟩
 ·show(ρ.tr ++ [a])[B.length]?=zo a;rw[<- R.len,D7 (O9 _),L6];rfl
section
variable{mk:ME}
def Qir(st:Q1)(pv pk:PV):Res PV:=match Q4w pk with
 | some ks=>.ok (.ref st.length) (st ++ [.dtp [(ks,pv)]])
 | none=>.stuck
def Q25(mk m:ME):ME:=λΓ st=>(mk Γ st).bind λpk st1=>(m Γ st1).bind λpv st2=>Qir st2 pv pk
theorem Qdr(hu:X.A.units + 9 < aP)(hk:SimE X E k mk)(he:SimE X E e m):SimE X E (.Dict [zo k] [e] dpos) (Q25 mk m):=by
 refine⟨λΓ σ H ρ st Q R G h=>WE.of (Qe7 (by omega) Ji Ji) ?_⟩;intro p O;have Y:Ext H ρ (upd H p (.dT [])) (ρ.hide p):=Ext.hide O;refine hk.use' (R.hide O) (G.hide O) (h.bind.later Y) λa1 a3 H1 ρ1 v1 f1 x1 R1 G1 r1 _=>?_
 have h:=h;unfold Q25 at h;rw[f1]at h;have h:Acc X.mg E H ρ (QV Q) ((m Γ a3).bind λpv I=>Qir I pv a1):=h
 refine he.use' R1 G1 (h.bind.later (Y.trans x1)) λa2 I H2 B v2 f2 x2 R2 G2 r2 _=>?_
 rw[f2]at h;have h:Acc X.mg E H ρ (QV Q) (Qir I a2 a1):=h;unfold Qir at h
 split at h
 ·rename_i ks ek;have kr:=Xf ek (r1.ext x2);have xe:Ext (upd H p (.dT [])) (ρ.hide p) H2 B:=x1.trans x2;have U:p∉(ρ.hide p).tr:=λz=>R.fresh O (.inl z)
  have Z:H2 p=zo (.dT []):=xe.keep p _ Qx U;have J:p∈B.hid:=xe.hidM p D3;refine⟨ks,_,v2,rfl,kr,Z,?_⟩;have y:Ext H ρ (upd H2 p (.dT [(ks,v2)])) B:=(Y.trans xe).put0 O;have g2:=r2.rehide (o:=.dT [(ks,v2)]) J;obtain⟨x5,R5,r5⟩:=Qh9 (ps:=[(ks,a2)]) R y (R2.rehide J) J O Qx ⟨rfl,RepL.cons g2 RepL.nil⟩;exact h _ _ x5 R5 _ r5
 ·exact h.elim
@[simp] theorem Qs1(Γ:Gam)(st:Q1):Q25 mk m Γ st=(mk Γ st).bind λJ B=>(m Γ B).bind λpv I=>Qir I pv J:=rfl
end
mutual
def hkV:HK->PV
 | .int i=>.int i
 | .str x=>.str x
 | .tup l=>.tup (hkVL l)
def hkVL:List HK->List PV
 | []=>[]
 | k :: l=>hkV k :: hkVL l
end
mutual
theorem Q75{H:Hp}{ρ:Tk}(o:∀ b xs,H b=zo (.tup xs)->b∉ρ):∀ {k:HK} {v:V},KAt H k v->Rep H ρ (hkV k) v
 | .int _,_,r=>r
 | .str _,_,r=>r
 | .tup _,_,⟨a,vs,e,h,r⟩=>⟨a,vs,e,h,o a vs h,hkVL_rep o r⟩
theorem hkVL_rep{H:Hp}{ρ:Tk}(o:∀ b xs,H b=zo (.tup xs)->b∉ρ):∀ {l:List HK} {vs:List V},KAtL H l vs->RepL H ρ (hkVL l) vs
 | [],_,r=>r
 | _ :: _,_,⟨v,r,e,h,t⟩=>⟨v,r,e,Q75 o h,hkVL_rep o t⟩
end
theorem DGet.tr{b:V}{B:List (HK × V)}{k:HK}(e:Rd H a (.dT B))(I:KR H k b):DGet H a b (Xv B k):=.inr ⟨B,k,b,e,rfl,I,rfl⟩
def Xp(st:Q1):PV->Option (List (HK × PV))
 | .ref i=>match st[i]? with
  | some (.dtp kvs)=>zo kvs
  | some (.frt kvs)=>zo kvs
  | _=>zl
 | _=>zl
theorem Kh{I:List (HK × PV)}(R:Rel H ρ st)(r:Rep H ρ p v)(e:Xp st p=zo I):∃ i a vs,p=.ref i/\v=.ref a/\ρ.tr[i]?=zo a/\Rd H a (.dT vs)/\RepD H ρ I vs:=by
 cases p with
 | ref i=>
  obtain⟨a,O,rfl⟩:=r;unfold Xp at e;cases z:st[i]? with
  | none=>simp only[z]at e;cases e
  | some c=>
   simp only[z]at e;cases c with
   | dtp J=>
    cases e;obtain⟨b,vs,B,Y,U⟩:=R.dtp z;rw[O]at B;cases B;exact⟨i,a,vs,rfl,rfl,O,.inl Y,U⟩
   | frt J=>
    cases e;obtain⟨b,vs,o,B,Y,U⟩:=R.frt z;rw[O]at B;cases B;exact⟨i,a,vs,rfl,rfl,O,.inr ⟨o,Y⟩,U⟩
   | lst xs=>cases e
   | dic xs=>cases e
   | frd xs=>cases e
   | obj C xs=>cases e
 | _=>cases e
variable{tp:Pos}{mf:ME}{elts:List aH}{kt:Nat}
section
variable{f i:aH}{mi mk:ME}
theorem Qby{y:Str}{t:Tok}(B:Gl X x)(I:X.mg x=zo (.str y t))(hd:(x == ("__debug__" : Str))=zb:=by decide):SimE X E (.Name x pos) (mC (.str y)):=
 ⟨λΓ σ H ρ st Q R G h=>WE.of (Qc6 B I (v:=.str y) ⟨t,rfl⟩ hd) (now R h rfl)⟩
def Q1m(st:Q1)(p q:PV):Res PV:=match Xp st p,Q4w q with
 | some kvs,zo k=>match Up kvs k with
  | some v=>.ok v st
  | none=>.stuck
 | _,_=>.stuck
def U6(mo mi:ME):ME:=λΓ st=>(mo Γ st).bind λp st1=>(mi Γ st1).bind λq st2=>Q1m st2 p q
theorem Qg7(Z:X.A.units + 9 < aP)(I:SimE X E o mo)(hi:SimE X E i mi)(hs:Qte i):SimE X E (.Subscript o i pos) (U6 mo mi):=
 ⟨λΓ σ H ρ st Q R G h=>WE.of (Qm5 Z Ji Ji hs) (I.use R G h.bind λp O H1 ρ1 v1 x1 U G1 r1 h1=>hi.use U G1 h1.bind λq a5 H2 a4 v2 x2 R2 G2 r2 h2=>by
  unfold Q1m at h2
  split at h2
  ·rename_i Y k e1 e2
   split at h2
   ·rename_i w e3;obtain⟨n,a,vs,rfl,rfl,_,hb,rd⟩:=Kh R2 (r1.ext x2) e1;have J:=Xf e2 r2;rcases Kg k rd with⟨a1,_⟩ | ⟨p,v,a1,a2,B⟩
    ·rw[a1]at e3;cases e3
    ·rw[a1]at e3;cases e3;exact⟨a,v,rfl,by have:=DGet.tr (k:=k) hb J;rwa [a2]at this,now R2 h2 B⟩
   ·exact h2.elim
  ·exact h2.elim)⟩
@[simp] theorem Qtq(Γ:Gam)(st:Q1):U6 mo mi Γ st=(mo Γ st).bind λp B=>(mi Γ B).bind λq I=>Q1m I p q:=rfl
def yw(st:Q1)(p k z:PV):Res PV:=match Xp st p,Q4w k with
 | some kvs,zo k=>.ok ((Up kvs k).getD z) st
 | _,_=>.stuck
def Q07(mo m mf:ME):ME:=λΓ st=>(mo Γ st).bind λp st1=>match Xp st1 p with
 | some _=>(m Γ st1).bind λk st2=>(mf Γ st2).bind λz st3=>yw st3 p k z
 | none=>.stuck
theorem Qds(hu:X.A.units + 9 < aP)(ho:SimE X E o mo)(he:SimE X E e m)(hf:SimE X E f mf)(mm:M2 X o "get" apos e f cpos):SimE X E (.Call (.Attribute o "get" apos) [e,f] [] cpos) (Q07 mo m mf):=by
 refine⟨λΓ σ H ρ st Q R G h=>WE.of (Qh6 hu Ji Ji Ji mm) ?_⟩;refine ho.use' R G h.bind λp a4 H1 ρ1 v1 f1 x1 Z G1 r1 h1=>?_
 split at h1
 ·rename_i Y e1;obtain⟨n,a,O,rfl,rfl,_,I,_⟩:=Kh Z r1 e1;refine⟨a,rfl,.inr ⟨O,I⟩,?_⟩;refine he.use Z G1 h1.bind λk a7 H2 a6 v2 x2 R2 G2 r2 h2=>hf.use R2 G2 h2.bind λz a8 H3 a9 v3 x3 J G3 r3 B=>?_
  unfold yw at B
  split at B
  ·rename_i a5 k' e2 e3;obtain⟨n',a',vs,en,ea,_,hb,rd⟩:=Kh J ((r1.ext x2).ext x3) e2;cases en;cases ea;have kr:=Xf e3 (r2.ext x3);refine⟨_,DGet.tr hb kr,?_⟩;rcases Kg k' rd with⟨a1,U⟩ | ⟨p,v,a1,U,a3⟩
   ·rw[a1]at B;rw[U];exact now J B r3
   ·rw[a1]at B;rw[U];exact now J B a3
  ·exact B.elim
 ·exact h1.elim
@[simp] theorem Qav(Γ:Gam)(st:Q1):Q07 mo m mf Γ st=(mo Γ st).bind λp B=>match Xp B p with
 | some _=>(m Γ B).bind λk J=>(mf Γ J).bind λz I=>yw I p k z
 | none=>.stuck:=rfl
def sdT(st:Q1)(p k z:PV):Res PV:=match p with
 | .ref n=>match Q44 st (.ref n),Q4w k with
  | some kvs,zo k=>match Up kvs k with
   | some v=>if kvs.length < lim then .ok v st else .stuck
   | none=>if kvs.length < lim then .ok z (st.set n (.dtp (putT kvs k z)))else .stuck
  | _,_=>.stuck
 | _=>.stuck
def Q5i(mo m mf:ME):ME:=λΓ st=>(mo Γ st).bind λp st1=>match Xp st1 p with
 | some _=>(m Γ st1).bind λk st2=>(mf Γ st2).bind λz st3=>sdT st3 p k z
 | none=>.stuck
theorem Qk7(hu:X.A.units + 9 < aP)(ho:SimE X E o mo)(he:SimE X E e m)(hf:SimE X E f mf)(mm:M2 X o "setdefault" apos e f cpos):SimE X E (.Call (.Attribute o "setdefault" apos) [e,f] [] cpos) (Q5i mo m mf):=by
 refine⟨λΓ σ H ρ st Q R G h=>WE.of (Qe6 hu Ji Ji Ji mm) ?_⟩;refine ho.use' R G h.bind λp a7 H1 ρ1 v1 f1 x1 R1 G1 r1 h1=>?_
 split at h1
 ·rename_i a6 e1;obtain⟨n,a,a5,rfl,rfl,_,a4,_⟩:=Kh R1 r1 e1;refine⟨a,rfl,.inr ⟨a5,a4⟩,?_⟩;refine he.use R1 G1 h1.bind λk b0 H2 a8 v2 x2 R2 G2 r2 h2=>hf.use R2 G2 h2.bind λz O Z J v3 x3 R3 G3 r3 I=>?_
  unfold sdT at I;have I:Acc X.mg E Z J (QV Q) (match Q44 O (.ref n),Q4w k with
   | some B,zo k=>match Up B k with
    | some v=>if B.length < lim then .ok v O else .stuck
    | none=>if B.length < lim then .ok z (O.set n (.dtp (putT B k z)))else .stuck
   | _,_=>.stuck):=I
  split at I
  ·rename_i B U e2 e3;obtain⟨n',a',vs,en,ea,er,a9,hb,rd⟩:=Q9a R3 ((r1.ext x2).ext x3) e2;cases en;cases ea;have kr:=Xf e3 (r2.ext x3);rcases Kg U rd with⟨a1,a2⟩ | ⟨p,v,a1,a2,a3⟩
   ·rw[a1]at I;have I:Acc X.mg E Z J (QV Q) (if B.length < lim then Res.ok z (O.set n (.dtp (putT B U z)))else .stuck):=I
    by_cases Y:B.length < lim
    ·rw[bO Y]at I;refine⟨vs,U,hb,kr,by rw[<- rd.length];exact E4 Y Q15,λv ev=>(by rw[a2]at ev;cases ev),λ_=>?_⟩;have x4:Ext Z J (upd Z a (.dT (Ki vs U v3))) J:=Ext.put (F0 er) hb;have rz:=r3.ext x4;have R4:Rel (upd Z a (.dT (Ki vs U v3))) J (O.set n (.dtp (putT B U z))):=R3.putC er hb ⟨_,Qx,Q85 (rd.ext x4) U rz⟩;exact I _ J x4 R4 _ rz
    ·rw[bP Y]at I;exact I.elim
   ·rw[a1]at I;have I:Acc X.mg E Z J (QV Q) (if B.length < lim then Res.ok p O else .stuck):=I
    by_cases Y:B.length < lim
    ·rw[bO Y]at I;exact⟨vs,U,hb,kr,by rw[<- rd.length];exact E4 Y Q15,λw ew=>(by rw[a2]at ew;cases ew;exact now R3 I a3),λev=>(by rw[a2]at ev;cases ev)⟩
    ·rw[bP Y]at I;exact I.elim
  ·exact I.elim
 ·exact h1.elim
@[simp] theorem Qhp(Γ:Gam)(st:Q1):Q5i mo m mf Γ st=(mo Γ st).bind λp B=>match Xp B p with
 | some _=>(m Γ B).bind λk J=>(mf Γ J).bind λz I=>sdT I p k z
 | none=>.stuck:=rfl
def Q8i(neg:Bool):OP:=λst p q=>match Xp st q,Q4w p with
 | some kvs,zo k=>.ok (.bl ((Up kvs k).isSome != neg)) st
 | _,_=>.stuck
theorem Qrd(hu:X.A.units + 9 < aP):OpS X E (aR .In) (Q8i zb):=⟨λH ρ st p q x y Q R O Y h=>by
 unfold Q8i at h
 split at h
 ·rename_i B k e1 e2;obtain⟨n,a,vs,rfl,rfl,_,hb,U⟩:=Kh R Y e1;have kr:=Xf e2 O;intro pins s σ v u I rv Z;cases Z;refine Qz0 hu I (DGet.tr hb kr) rv λs' I'=>⟨.bl _,H,I',rfl,?_⟩
  have:(Xv vs k).isSome=(Up B k).isSome:=by
   rcases Kg k U with⟨a1,J⟩ | ⟨p,v,a1,J,_⟩ <;> rw[a1,J] <;> rfl
  rw[this];rw[dz]at h;exact now R h rfl
 ·exact h.elim⟩
theorem Qe8(hu:X.A.units + 9 < aP):OpS X E (aR .NotIn) (Q8i zi):=⟨λH ρ st p q x y Q R O Y h=>by
 unfold Q8i at h
 split at h
 ·rename_i B k e1 e2;obtain⟨n,a,vs,rfl,rfl,_,hb,U⟩:=Kh R Y e1;have kr:=Xf e2 O;intro pins s σ v u I rv Z;cases Z;refine Qn6 hu I (DGet.tr hb kr) rv λs' I'=>⟨.bl _,H,I',rfl,?_⟩
  have:(Xv vs k).isSome=(Up B k).isSome:=by
   rcases Kg k U with⟨a1,J⟩ | ⟨p,v,a1,J,_⟩ <;> rw[a1,J] <;> rfl
  rw[this];have hh:((Up B k).isSome != zi)=!(Up B k).isSome:=by cases (Up B k).isSome <;> rfl
  rw[hh]at h;exact now R h rfl
 ·exact h.elim⟩
def jh(f:HK × PV->PV)(st:Q1):PV->Option (List PV × Nat × List (HK × PV))
 | .ref i=>match st[i]? with
  | some (.dtp kvs)=>zo (kvs.map f,i,kvs)
  | _=>zl
 | _=>zl
theorem Q8z{f:HK × PV->PV}{ks:List PV}{i:Nat}{B:List (HK × PV)}(e:jh f st p=zo (ks,i,B)):p=.ref i/\ks=B.map f/\st[i]?=zo (.dtp B):=by
 unfold jh at e
 split at e
 ·split at e
  ·rename_i q;cases e;exact⟨rfl,rfl,q⟩
  ·cases e
 ·cases e
def V5(m:ME):MI:=λΓ st=>(m Γ st).bind λp st1=>match jh (λkv=>hkV kv.1) st1 p with
 | some (ks,i,kvs)=>if ks.length<=lim then .ok (ks,[(i,.frt kvs)]) (st1.set i (.frt kvs))else .stuck
 | none=>.stuck
theorem Q80(ha:SimE X E e m):SimI X E tg e (V5 m):=⟨λΓ σ H ρ st P R' R G h k=>by
 have hb:Acc X.mg E H ρ _ (m Γ st):=Acc.bind h;refine WI.of (Qgy Ji) (ha.use' R G hb λp I H1 ρ1 v eq x1 R1 G1 r1 _=>?_);have U:V5 m Γ st=(match jh (λJ=>hkV J.1) I p with
  | some (ks,i,B)=>if ks.length<=lim then Res.ok (ks,[(i,.frt B)]) (I.set i (.frt B))else .stuck
  | none=>.stuck):=by unfold V5;rw[eq];rfl
 rw[U]at h;cases ek:jh (λJ=>hkV J.1) I p with
 | none=>rw[ek]at h;exact h.elim
 | some w=>
  obtain⟨ks,i,B⟩:=w;rw[ek]at h U;obtain⟨rfl,rfl,ew⟩:=Q8z ek;have h:Acc X.mg E H ρ P (if(B.map (λJ=>hkV J.1)).length<=lim then Res.ok (B.map (λJ=>hkV J.1),[(i,.frt B)]) (I.set i (.frt B))else .stuck):=h
  by_cases hl:(B.map (λJ=>hkV J.1)).length<=lim
  ·rw[bO hl]at h;have U:V5 m Γ st=Res.ok (B.map (λJ=>hkV J.1),[(i,.frt B)]) (I.set i (.frt B)):=U.trans (bO hl);obtain⟨a,ea,rfl⟩:=r1;obtain⟨b,vs,eb,O,rd⟩:=R1.dtp ew;rw[ea]at eb;cases eb;refine⟨a,vs,rfl,O,λo hn=>?_⟩;have mem:=F0 ea;have x2:Ext H1 ρ1 (upd H1 a (.frz o (.dT vs))) ρ1:=Ext.put mem O;have R2:Rel (upd H1 a (.frz o (.dT vs))) ρ1 (I.set i (.frt B)):=R1.putC ea O ⟨vs,⟨o,Qx⟩,rd.ext x2⟩;have hi:i < I.length:=(O1.mp ew).1;refine k (B.map (λJ=>hkV J.1),[(i,.frt B)]) (I.set i (.frt B)) _ ρ1 _ U (x1.trans x2) R2 (G1.ext x2) (λy hy=>?_) (W5 hl) ?_ (h _ _ (x1.trans x2) R2)
   ·have:y=(i,.frt B):=by simpa using hy
    subst this;rw[D5 hi]
   ·have kl:vs.map bU=B.map bU:=rd.1;have len:B.length=vs.length:=rd.length;refine⟨λH2 Y Z x R ok=>⟨x.frz a o _ Qx,by simp[len]⟩,λH2 Y Z x R ok j hj=>⟨x.frz a o _ Qx,by rw[<- len];simpa using hj⟩,λH2 Y Z x R ok j p hp y H3 hy=>?_⟩
    obtain⟨rfl,J,a1,kr⟩:=hy;refine⟨Same.refl _,?_⟩;rw[F4]at hp;have e1:(B.map bU)[j]?=zo J.1:=by rw[<- kl,F4,a1];rfl
    rw[F4]at e1;cases z:B[j]? with
    | none=>rw[z]at e1;cases e1
    | some q=>
     rw[z]at e1 hp;cases hp;have e1:q.1=J.1:=bY e1;rw[<- e1]at kr;exact Q75 (Qbk R) kr.1
  ·rw[bP hl]at h;exact h.elim⟩
def qg(m:ME):MI:=λΓ st=>(m Γ st).bind λp st1=>match jh (λkv=>.tup [hkV kv.1,kv.2]) st1 p with
 | some (ks,i,kvs)=>if ks.length<=lim then .ok (ks,[(i,.frt kvs)]) (st1.set i (.frt kvs))else .stuck
 | none=>.stuck
theorem Qdn (ha:SimE X E e m) (Z:bB e "items" X.env (aL e X.env)=aL e X.env:=by rfl) (O:(apos.endLine == pos.line)=zi:=by rfl) :
  SimI X E (.Tuple elts kt tp) (.Call (.Attribute e "items" apos) [] [] pos) (qg m):=⟨λΓ σ H ρ st P R' R G h k=>by
 have hb:Acc X.mg E H ρ _ (m Γ st):=Acc.bind h;refine WI.of (Qe5 Ji Z O) (ha.use' R G hb λp J H1 ρ1 v eq x1 R1 G1 r1 _=>?_);have hm:qg m Γ st=(match jh (λI=>.tup [hkV I.1,I.2]) J p with
  | some (ks,i,B)=>if ks.length<=lim then Res.ok (ks,[(i,.frt B)]) (J.set i (.frt B))else .stuck
  | none=>.stuck):=by unfold qg;rw[eq];rfl
 rw[hm]at h;cases ek:jh (λI=>.tup [hkV I.1,I.2]) J p with
 | none=>rw[ek]at h;exact h.elim
 | some w=>
  obtain⟨ks,i,B⟩:=w;rw[ek]at h hm;obtain⟨rfl,rfl,ew⟩:=Q8z ek;have h:Acc X.mg E H ρ P (if(B.map (λI=>PV.tup [hkV I.1,I.2])).length<=lim then Res.ok (B.map (λI=>PV.tup [hkV I.1,I.2]),[(i,.frt B)]) (J.set i (.frt B))else .stuck):=h
  by_cases hl:(B.map (λI=>PV.tup [hkV I.1,I.2])).length<=lim
  ·rw[bO hl]at h;have hm:qg m Γ st=Res.ok (B.map (λI=>PV.tup [hkV I.1,I.2]),[(i,.frt B)]) (J.set i (.frt B)):=hm.trans (bO hl);obtain⟨a,ea,rfl⟩:=r1;obtain⟨b,vs,eb,U,rd⟩:=R1.dtp ew;rw[ea]at eb;cases eb;refine⟨a,vs,rfl,U,λo hn=>?_⟩;have mem:=F0 ea;have x2:Ext H1 ρ1 (upd H1 a (.frz o (.dT vs))) ρ1:=Ext.put mem U;have R2:Rel (upd H1 a (.frz o (.dT vs))) ρ1 (J.set i (.frt B)):=R1.putC ea U ⟨vs,⟨o,Qx⟩,rd.ext x2⟩;have hi:i < J.length:=(O1.mp ew).1;refine k (B.map (λI=>PV.tup [hkV I.1,I.2]),[(i,.frt B)]) (J.set i (.frt B)) _ ρ1 _ hm (x1.trans x2) R2 (G1.ext x2) (λy hy=>?_) (W5 hl) ?_ (h _ _ (x1.trans x2) R2)
   ·have:y=(i,.frt B):=by simpa using hy
    subst this;rw[D5 hi]
   ·have kl:vs.map bU=B.map bU:=rd.1;have len:B.length=vs.length:=rd.length;refine⟨λH2 Y a2 x R ok=>⟨x.frz a o _ Qx,by simp[len]⟩,λH2 Y a2 x R ok j hj=>⟨x.frz a o _ Qx,by rw[<- len];simpa using hj⟩,λH2 Y a2 x R ok j p hp y H3 hy=>?_⟩
    obtain⟨q,I,kx,a1,rfl,a3,kr,rfl⟩:=hy;have sm:Same H2 (upd H2 q (.tup [kx,I.2])):=Q2z a1;refine⟨sm,?_⟩;rw[F4]at hp;cases z:B[j]? with
    | none=>rw[z]at hp;cases hp
    | some q'=>
     rw[z]at hp;cases hp;have e1:q'.1=I.1:=by
      have e1:(B.map bU)[j]?=zo I.1:=by rw[<- kl,F4,a3];rfl
      rw[F4,z]at e1;exact bY e1
     have rv:Rep H2 Y q'.2 I.2:=by
      have r2:=(rd.2.ext x2).ext x;exact r2.i (by rw[F4,z];rfl) (by rw[F4,a3];rfl)
     rw[<- e1]at kr;refine⟨q,_,rfl,Qx,R.fresh a1,RepL.cons ((Q75 (Qbk R) kr.1).ext (Ext.same sm)) (RepL.cons (rv.ext (Ext.same sm)) RepL.nil)⟩
  ·rw[bP hl]at h;exact h.elim⟩
def thawT(st st':Q1):Nat->Q1
 | 0=>st'
 | n + 1=>match st[n]?,(thawT st st' n)[n]? with
  | some (.dtp _),zo (.frt kvs)=>(thawT st st' n).set n (.dtp kvs)
  | _,_=>thawT st st' n
def Ut(m:MS):MS:=λΓ st=>match m Γ st with
 | .nx Γ' st'=>.nx Γ' (thawT st st' st.length)
 | r=>r
theorem Q7v {pins:zAA} {σ J:St} {H H':Hp} {ρ ρ':Tk} {st st':Q1} {Y:Gam} {s0:aD} (I:Inv X pins σ H s0) (R:Rel H ρ st) (x:Ext H ρ H' ρ') (R':Rel H' ρ' st') (G':EnvR H' ρ' Y J) :
  ∀ n,∃ B,Ext H ρ B ρ'/\Rel B ρ' (thawT st st' n)/\EnvR B ρ' Y J/\∀ pins s',Inv X pins J H' s'->Inv X pins J B s'
 | 0=>⟨H',x,R',G',λ_ _ h=>h⟩
 | n + 1=>by
  obtain⟨H1,x1,Z,G1,h1⟩:=Q7v I R x R' G' n;rw[thawT]
  split
  ·rename_i a2 a4 e1 e2;obtain⟨a,a3,ea,ha,_⟩:=R.dtp e1;obtain⟨b,vs,o,eb,hb,rd⟩:=Z.frt e2;have U:ρ'.tr[n]?=zo a:=by
    obtain⟨a1,em⟩:=x.pre;rw[<- em,O3 (O1.mp ea).1];exact ea
   rw[U]at eb;cases eb;have O:=F0 U;have mem:=F0 ea;refine⟨upd H1 a (.dT vs),⟨x1.pre,x1.hidM,x1.hidN,λb u q nb=>?_,x1.new,λb u q=>?_,λb u w q=>?_⟩,Z.putC U hb ⟨vs,Qx,rd.1,rd.2.retr O⟩,G1.retr O,λpins s' h=>(h1 pins s' h).thawT hb (I.noFrzT ha)⟩
   ·rw[Qc (show b≠a from λz=>nb (by rw[z];exact mem))];exact x1.keep b u q nb
   ·by_cases z:b=a
    ·exact⟨_,by rw[z];exact Qx⟩
    ·rw[Qc z];exact x1.old b u q
   ·rw[Qc (show b≠a from λz=>by rw[z,ha]at q;cases q)];exact x1.frz b u w q
  ·exact⟨H1,x1,Z,G1,h1⟩
theorem Qfw{m:MS}(h:SimS X E s m):SimS X E s (Ut m):=⟨λΓ σ H ρ st D R G O pins s0 I=>by
 let D1:Ends:={ D with nx:=λB H'=>∃ J,(∀ pins s',Inv X pins B H' s'->Inv X pins B J s')/\D.nx B J }
 have a1:AccS X.mg E D1 H ρ (m Γ st):=by
  unfold Ut at O;cases rb:m Γ st with
  | nx Y U=>
   rw[rb]at O;intro B H' ρ' x R' G';obtain⟨J,x2,R2,G2,h2⟩:=Q7v I R x R' G' st.length;exact⟨J,h2,O B J ρ' x2 R2 G2⟩
  | ct Y U=>rw[rb]at O;exact O
  | bk Y U=>rw[rb]at O;exact O
  | rt v U=>rw[rb]at O;exact O
  | exc y U=>rw[rb]at O;exact O
  | stuck=>rw[rb]at O;exact O.elim
 refine thn (h.run Γ σ H ρ st D1 R G a1 pins s0 I) λf s' Z=>?_
 cases f with
 | next=>
  obtain⟨B,H',I',J,h1,h2⟩:=Z;exact⟨B,J,h1 pins s' I',h2⟩
 | brk=>exact Z
 | cont=>exact Z
 | ret u=>exact Z⟩
def Qea:OP:=λst p q=>match fz 0 st 16 p,fz 0 st 16 q with
 | some p',zo q'=>if J0 dep p'=zi/\J0 dep q'=zi then .ok (.bl (!peq p' q')) st else .stuck
 | _,_=>.stuck
theorem Qra(hu:X.A.units + 64 < aP):OpS X E (aR .NotEq) Qea:=⟨λH ρ st p q x y Q R J O h=>by
 unfold Qea at h
 split at h
 ·rename_i B q' e1 e2
  split at h
  ·rename_i g;intro pins s σ v u I Y Z;have r1:Rep H Tk.nil B x:=Q77 (tr0:=[]) (rest:=ρ.tr) (hs:=[]) R rfl (λa z=>by cases z) 16 J e1;have U:Rep H Tk.nil q' y:=Q77 (tr0:=[]) (rest:=ρ.tr) (hs:=[]) R rfl (λa z=>by cases z) 16 O e2;exact(Q99 dep I g.1 g.2 (by unfold dep;omega) r1 Y U Z).2.2 _ _ _ _ ⟨.bl _,H,I,rfl,now R h rfl⟩
  ·exact h.elim
 ·exact h.elim⟩
end
end Sm
namespace Sm
open PySem PySem.Spec L2 SeqAt
def dEq(ks ls:List (Key × PV)):Bool:=decide (ks.length=ls.length) && ks.all λkv=>match Qxy ls kv.1 with
 | none=>zb
 | some v=>peq kv.2 v
def Qgw(ks:List (Key × PV)):Bool:=ks.all λkv=>J0 0 kv.2
section
variable{X:Cx}{E:XK}
def Qvz(ks:List (Key × PV)):Bool:=ks.all λkv=>match kv.1 with
 | .inl _=>zi
 | .inr _=>zb
def eqM(st:Q1)(x y:PV):Option Bool:=
 if J0 dep (der st x)=zi/\J0 dep (der st y)=zi then zo (peq (der st x) (der st y))
 else match Qpb st x,Qpb st y with
  | some ks,zo ls=>if Qgw ks=zi/\Qgw ls=zi/\Qvz ks=zi/\Qvz ls=zi then zo (dEq ks ls)else zl
  | _,_=>zl
variable{e o i:aH}{m mo mi:ME}{pos tpos:Pos}
def Qhs(i:Nat)(f:Int->Int->Int)(m:ME):MS:=λΓ st=>match Γ[i]? with
 | some (zo (.int a))=>(m Γ st).sbind λv st1=>match v with
  | .int b=>.nx (Γ.set i (zo (.int (f a b)))) st1
  | _=>.stuck
 | _=>.stuck
theorem Qpz (i:Nat) {x:Str} {pos':Pos} {op:Operator} {f:Int->Int->Int} (B:PIp X op (ipI f)) (J:X.N.Nodup) (Z:SimE X E e m) (hi:X.N[i]?=zo x:=by rfl) (I:Loc X.env.scope x:=by first | exact Or.inl rfl | exact Or.inr rfl) (hf:X.fn x=zi\/X.env.scope.names.lookup x=zo .local:=by first | exact .inl rfl | exact .inr rfl) :
  SimS X E (.AugAssign (.Name x pos') op e pos) (Qhs i f m):=⟨λΓ σ H ρ st D R G h=>by
 unfold Qhs at h
 split at h
 ·rename_i a ea;obtain⟨v,ev,O⟩:=G.2 i _ ea;cases O;refine WS.of (Qqt J hi I Ji B hf) ⟨_,ev,Z.use R G h.bind λp U H1 ρ1 w x1 Y G1 r1 h1=>?_⟩;cases p with
  | int b=>
   cases r1;exact⟨a,b,rfl,rfl,h1 _ H1 ρ1 (Ext.refl _ _) Y (G1.set (p:=.int (f a b)) (v:=.int (f a b)) rfl i)⟩
  | _=>exact h1.elim
 ·exact h.elim⟩
end
end Sm
namespace L2
open PySem PySem.Spec PyProof.Rows
theorem Qet{X:Cx}:Qww X (Qqi X.K):=by
 intro pins s σ H x y v u Q I Z ry h;obtain⟨p,xs,i,z,rfl,rfl,hq,he,q⟩:=h;cases Z;obtain⟨t,rfl⟩:=ry;obtain⟨its,r,O,hz⟩:=I.list hq;obtain⟨j,h1,h2,h3,h4,Y⟩:=atI_get he;obtain⟨w,U,B⟩:=r.get h2;have hl:=r.length;have hn:=ym;have fin:EP X pins σ Q w s:=⟨z,H,I,B,q⟩
 by_cases h0:0<=i
 ·have J:i.toNat=j:=by
   rw[seqIndex_of h0 Y]at h1;exact bY h1
  exact wpAny_getItem_list O.isList h0 (by omega) (by rw[J];simpa using U) fin
 ·have J:(i + (its.toArray.size:Int)).toNat=j:=by
   rw[seqIndex_neg (by omega) h4]at h1;have:=bY h1;simp;omega
  exact wpAny_getItem_list_neg O.isList (by omega) (by simp;omega) (by simp;omega) (by rw[J];simpa using U) fin
end L2
namespace Sm
open PySem PySem.Spec PyProof.Rows L2
variable{H:Hp}{ρ:Tk}
variable{X:Cx}{E:XK}{pos:Pos}{e:aH}{m:ME}
def Q1h(mo mi:ME)(f:Int->Int->Int)(m:ME):MS:=λΓ st=>(mo Γ st).sbind λo st1=>(mi Γ st1).sbind λi st2=>match Yk st2 o,i with
 | some xs,.int j=>match atI xs j with
  | some (.int a)=>(m Γ st2).sbind λv st4=>match v with
   | .int b=>match Wh st4 o i (.int (f a b))with
    | some st5=>.nx Γ st5
    | none=>.stuck
   | _=>.stuck
  | _=>.stuck
 | _,_=>.stuck
theorem Qk2 {o i:aH} {mo mi:ME} {tpos:Pos} {op:Operator} {f:Int->Int->Int} (hp:PIp X op (ipI f)) (ho:SimE X E o mo) (hi:SimE X E i mi) (he:SimE X E e m)
  (ha:∀ B J new,augStore i B J new=(do az [new,B,J] (setItem B J new);release [new,B,J] [];pure .next):=by intros;rfl) :
  SimS X E (.AugAssign (.Subscript o i tpos) op e pos) (Q1h mo mi f m):=
 ⟨λΓ σ H ρ st D R G h=>WS.of (Qku Ji Ji Qet Ji hp Q81 ha) (ho.use R G h.bind λB a2 H1 ρ1 x x1 R1 G1 r1 h1=>hi.use R1 G1 h1.bind λJ a4 H2 a3 y x2 R2 G2 r2 h2=>by
  split at h2
  ·rename_i xs j el
   split at h2
   ·rename_i a ea;obtain⟨b,vs,rfl,hb,rb⟩:=Jg R2 (r1.ext x2) el;obtain⟨z,ez,rz⟩:=rb.atI ea;cases rz;have ey:=r2;cases r2;refine⟨b,vs,j,_,rfl,rfl,.inl hb,ez,he.use R2 G2 h2.bind λp U H4 Y w x4 R4 G4 r4 I=>?_⟩;cases p with
    | int c=>
     cases r4;dsimp only at I;cases es:Wh U B (.int j) (.int (f a c))with
     | none=>rw[es]at I;exact I.elim
     | some a1=>
      rw[es]at I;obtain⟨a',O,k',j',e1,e2,f1,f2,Z,R5⟩:=Qbw (p:=.int (f a c)) (z:=.int (f a c)) R4 (r1.ext (x2.trans x4)) (ey.ext x4) rfl es;exact⟨a,c,rfl,rfl,a',O,k',j',e1,e2,f1,f2,I σ _ Y Z R5 (G4.ext Z)⟩
    | _=>exact I.elim
   ·exact h2.elim
  ·exact h2.elim)⟩
@[simp] theorem Qvt(mo mi:ME)(f:Int->Int->Int)(m:ME)(Γ:Gam)(st:Q1):Q1h mo mi f m Γ st=(mo Γ st).sbind λo O=>(mi Γ O).sbind λi B=>(match Yk B o,i with
 | some xs,.int j=>(match atI xs j with
  | some (.int a)=>(m Γ B).sbind λv I=>(match v with
   | .int b=>(match Wh I o i (.int (f a b))with
    | some J=>.nx Γ J
    | none=>.stuck)
   | _=>.stuck)
  | _=>.stuck)
 | _,_=>.stuck):=rfl
def K0(lo c:Int)(n:Nat):List PV:=(bT n).map λ(k:Nat)=>PV.int (lo + (k:Int) * c)
theorem Q32(lo c:Int)(n:Nat):(K0 lo c n).length=n:=by unfold K0;rw[O0,F6]
theorem Q9y{lo c:Int}{n:Nat}:Src (Qnm lo c n) (K0 lo c n) [] H ρ:=by
 have U:=Q32 lo c n;refine⟨λH2 I B x R ok=>?_,λH2 I B x R ok i hi=>?_,λH2 I B x R ok i p J y Y O=>?_⟩
 ·show n<=(K0 lo c n).length;omega
 ·show i < n;omega
 ·obtain⟨rfl,rfl⟩:=O;have hi:i < n:=by rw[<- U];exact(O1.mp J).1
  unfold K0 at J;rw[F4,cr hi]at J;cases J;exact⟨Same.refl _,rfl⟩
def Q06(mr:ML):MI:=λΓ st=>(mr Γ st).bind λps st1=>match ps with
 | [.int i,.int j,.int c]=>if c≠0/\-1000000<=i/\i<=1000000/\-1000000<=j/\j<=1000000/\-1000000<=c/\c<=1000000 then .ok (K0 i c (rsz i j c),[]) st1 else .stuck
 | _=>.stuck
theorem Qa6{p q r:PV}{xs:List V}(h:RepL H ρ [p,q,r] xs):∃ v u t,xs=[v,u,t]/\Rep H ρ p v/\Rep H ρ q u/\Rep H ρ r t:=by
 obtain⟨v,t,rfl,h1,h2⟩:=h;obtain⟨u,t,rfl,B,I⟩:=xu h2;exact⟨v,u,t,rfl,h1,B,I⟩
variable{tg:aH}{a b c:aH}{mr:ML}{p:Pos}
theorem Qdk(hg:Gl X "range")(hm:X.mg "range" = zl)(Z:SimA X E [a,b,c] mr)(hs:aN [a,b,c] X.env=[(zb,aL a X.env),(zb,aL b X.env),(zb,aL c X.env)]:=by rfl)(B:aN [b,c] X.env=[(zb,aL b X.env),(zb,aL c X.env)]:=by rfl):SimI X E tg (.Call (.Name "range" p) [a,b,c] [] pos) (Q06 mr):=⟨λΓ σ H ρ st P R' R G h k=>by
 refine WI.of (Qe3 hg hm Q1u hs B) (Z.use' R G h.bind λps I H1 ρ1 vs eq x1 O G1 r1 h1=>?_)
 split at h1
 ·rename_i i j c
  split at h1
  ·rename_i J;obtain⟨v,u,t,rfl,Y,U,rt⟩:=Qa6 r1;cases Y;cases U;cases rt;refine⟨i,j,c,rfl,J,k (K0 i c (rsz i j c),[]) I H1 ρ1 _ (by simp only[Q06,eq,Res.bind,bO J]) x1 O G1 (Qs _) ?_ Q9y (h1 H1 ρ1 (Ext.refl _ _) O)⟩;show(K0 i c (rsz i j c)).length<=sizeLine;rw[Q32];have:=Qga (a:=i) (b:=j) J.1 (M:=2000000) (by omega) (by omega) (by omega);have q:=Qa4 i j c;exact F8 (show rsz i j c<=2000000 by unfold rsz;omega) (by decide)
  ·exact h1.elim
 ·exact h1.elim⟩
end Sm
namespace Sm
open PySem PySem.Spec L2
variable{K:bS}{mg:zAD}{h:Heap}{st s:aK}{ps:List Str}{f a:aB}{oc:aA}{P:aM}{fd:aO}{k n:Nat}{F:FN}{α:Type}{o:Obj}
def tgN:aH->List Str
 | .Name x _=>[x]
 | .Tuple es _ _=>es.flatMap λe=>match e with
  | .Name x _=>[x]
  | _=>[]
 | _=>[]
def qu(N:List Str)(tg:aH)(cap:zAB):List Str:=tgN tg ++ cap.filterMap λo=>o.bind (N[·]?)
theorem Qvk{l:List Str}(h:decide l.Nodup=zi):l.Nodup:=of_decide_eq_true h
structure KR(b:Bool):Prop where
 h:b=zi
variable{X:Cx}{E:XK}{pos:Pos}{tg iter elt:aH}{ifs:List aH}{sc:Scope}{ga:GA}{mi:MI}{mt:MT}{me:ME}{x:Str}{px cpos:Pos}
section
variable{cap:zAB}{i:Nat}
theorem Qg2(B:X.calm=zi)(U:KR (compOkC X.N (qu X.N tg cap) sc X.env.scope cap))(hs:∀ x,aw iter X.env x=pure x)(O:y0 cap ga)(hi:SimI X E tg iter mi)(Z:∀ cl C I H0 ex,SimG (Y2 X (qu X.N tg cap) sc cl C I H0 ex) tg ga)(J:∀ cl C I H0 ex,SimE (Y2 X (qu X.N tg cap) sc cl C I H0 ex) E0 elt me)(Y:∀ cl C I H0 ex,SimTs (Y2 X (qu X.N tg cap) sc cl C I H0 ex) ifs mt):SimN X E (.ListComp elt [⟨tg,iter,ifs,0⟩] sc pos) (Qy cap ga mi mt me):=
 Q21 cap _ B hi Z J Y O rfl rfl U.h hs
theorem Qde(Y:swapsWith (.ListComp elt [⟨tg,iter,ifs,0⟩] sc cpos) (zo (.Name x px)) pos.line X.env=pure zi)(O:X.N.Nodup)(B:X.calm=zi)(J:X.N[i]?=zo x)(Z:Loc X.env.scope x)(hc:KR (compOkC X.N (qu X.N tg cap) sc X.env.scope cap))(hs:∀ x,aw iter X.env x=pure x)(U:X.fn x=zi\/X.env.scope.names.lookup x=zo .local)(hf:y0 cap ga)(hi:SimI X E tg iter mi)(hg:∀ cl C I H0 ex,SimG (Y2 X (qu X.N tg cap) sc cl C I H0 ex) tg ga)(he:∀ cl C I H0 ex,SimE (Y2 X (qu X.N tg cap) sc cl C I H0 ex) E0 elt me)(ht:∀ cl C I H0 ex,SimTs (Y2 X (qu X.N tg cap) sc cl C I H0 ex) ifs mt):SimS X E (.Assign [.Name x px] (.ListComp elt [⟨tg,iter,ifs,0⟩] sc cpos) pos) (Qm i (Wu (Qy cap ga mi mt me))):=
 Q7x cap _ i O B hi hg he ht hf J Z Y rfl rfl hc.h hs U
theorem Qdf(Y:swapsWith (.ListComp elt [⟨tg,iter,ifs,0⟩] sc cpos) (zo (.Name x px)) pos.line X.env=pure zi)(O:X.N.Nodup)(B:X.calm=zi)(J:X.N[i]?=zo x)(Z:Loc X.env.scope x)(hc:KR (compOkC X.N (qu X.N tg cap) sc X.env.scope cap))(hs:∀ x,aw iter X.env x=pure x)(U:X.fn x=zi\/X.env.scope.names.lookup x=zo .local)(hf:y0 cap ga)(hi:SimI X E tg iter mi)(hg:∀ cl C I H0 ex,SimG (Y2 X (qu X.N tg cap) sc cl C I H0 ex) tg ga)(he:∀ cl C I H0 ex,SimE (Y2 X (qu X.N tg cap) sc cl C I H0 ex) E0 elt me)(ht:∀ cl C I H0 ex,SimTs (Y2 X (qu X.N tg cap) sc cl C I H0 ex) ifs mt):SimS X E (.Assign [.Name x px] (.ListComp elt [⟨tg,iter,ifs,0⟩] sc cpos) pos) (Qm i (Y4 (Qy cap ga mi mt me))):=
 Q7y cap _ i O B hi hg he ht hf J Z Y rfl rfl hc.h hs U
end
structure AtS(K:bS)(mg:zAD)(name:Str)(st:aK)(ps:List Str)(f:aB)(fd:aO):Prop where
 F:Fun K name name st f fd
 m:mg name=zo (.ref f)
 b:Binds K fd ps []
theorem Qt8 {name:Str} {st:aK} {ps:List Str} {f:aB} {oc:aA} {Y J:Option aB} {U:Array (Option aA)} {kV I O B ct:aA} (X:K.In h) (G:h.Ns aS mg)
  (a:bZ K aS name=zo (zo (.ref f))) (l:K.lookup f=zo ⟨oc,Y,.func (bc name name (Wf st) (Ze st) (Qe st) .none kV I O J B ct),U⟩) (c:cP K B name=zi) (k:cC K (.ref f)=zi)
  (b:∀ (kV I O:aA) (J:Option aB) (B ct:aA) (us:List aA),us.length=ps.length->bindArgs (bc name name (Wf st) (Ze st) (Qe st) .none kV I O J B ct) ⟨us,[]⟩=pure (ps.zip us)) :
  AtS K mg name st ps f (bc name name (Wf st) (Ze st) (Qe st) .none kV I O J B ct):=
 have F:=Qid (st:=st) l c k
 ⟨F,cB X G a,F.binds b⟩
theorem AtS.def{w:aJ}{base:Heap}{name:Str}(a:AtS K mg name st ps f fd)(hn:ps.length=n)(G:FnOk P w K mg base (CXD P w) k f fd ps (spF mg n F)):DefS P w K mg base k name n F:=
 ⟨f,fd,ps,G,a.m,a.F.kp,a.b,hn⟩
def FL(K:bS)(x ql:Str)(s:aK)(f:aB):Prop:=∃ (oc:aA) (od:Option aB) (kV dc pm:aA) (an:Option aB) (cd ct:aA) (sl:Array (Option aA)),K.lookup f=zo ⟨oc,od,.func (bc x ql (Wf s) (Ze s) (Qe s) .none kV dc pm an cd ct),sl⟩/\cP K cd ql=zi/\cC K (.ref f)=zi
theorem FL.fn{B:Str}(h:FL K x B s f):∃ fd,Fun K x B s f fd:=let ⟨_,_,_,_,_,_,_,_,_,l,c,k⟩:=h;⟨_,Qid l c k⟩
def FA(K:bS)(x:Str)(s:aK)(f:aB):Prop:=bZ K aS x=zo (zo (.ref f))/\FL K x x s f
theorem FA.mk{J I:Option aB}{O:Array (Option aA)}{kV B U cd ct:aA}(a:bZ K aS x=zo (zo (.ref f)))(l:K.lookup f=zo ⟨oc,J,.func (bc x x (Wf s) (Ze s) (Qe s) .none kV B U I cd ct),O⟩)(c:cP K cd x=zi)(k:cC K (.ref f)=zi):FA K x s f:=⟨a,_,_,_,_,_,_,_,_,_,l,c,k⟩
theorem ln1{l:List α}(h:l.length=1):∃ a,l=[a]:=match l,h with | [_],_=>⟨_,rfl⟩
theorem ln2{l:List α}(h:l.length=2):∃ a b,l=[a,b]:=match l,h with | [_,_],_=>⟨_,_,rfl⟩
theorem ln3{l:List α}(h:l.length=3):∃ a b c,l=[a,b,c]:=match l,h with | [_,_,_],_=>⟨_,_,_,rfl⟩
theorem ln4{l:List α}(h:l.length=4):∃ a b c d,l=[a,b,c,d]:=match l,h with | [_,_,_,_],_=>⟨_,_,_,_,rfl⟩
theorem ln5{l:List α}(h:l.length=5):∃ a b c d e,l=[a,b,c,d,e]:=match l,h with | [_,_,_,_,_],_=>⟨_,_,_,_,_,rfl⟩
theorem ln6{l:List α}(h:l.length=6):∃ a b c d e f,l=[a,b,c,d,e,f]:=match l,h with | [_,_,_,_,_,_],_=>⟨_,_,_,_,_,_,rfl⟩
theorem ln7{l:List α}(h:l.length=7):∃ a b c d e f g,l=[a,b,c,d,e,f,g]:=match l,h with | [_,_,_,_,_,_,_],_=>⟨_,_,_,_,_,_,_,rfl⟩
theorem FL.bd {I:Str} {ps:List Str} (h:FL K x I s f)
  (b:∀ (kV J O:aA) (U:Option aB) (B ct:aA) (us:List aA),us.length=ps.length->bindArgs (bc x I (Wf s) (Ze s) (Qe s) .none kV J O U B ct) ⟨us,[]⟩=pure (ps.zip us)):∃ fd,Fun K x I s f fd/\Binds K fd ps []:=
 let ⟨_,F⟩:=h.fn
 ⟨_,F,F.binds b⟩
theorem Ye {name:Str} (ps:List Str) (X:K.In h) (G:h.Ns aS mg) (a:FA K name st f)
  (b:∀ (kV O U:aA) (Y:Option aB) (J ct:aA) (us:List aA),us.length=ps.length->bindArgs (bc name name (Wf st) (Ze st) (Qe st) .none kV O U Y J ct) ⟨us,[]⟩=pure (ps.zip us):=by
   intro _ _ _ _ _ _ us I
   first | (obtain⟨_,rfl⟩:=ln1 I;rfl) | (obtain⟨_,_,rfl⟩:=ln2 I;rfl) | (obtain⟨_,_,_,rfl⟩:=ln3 I;rfl) | (obtain⟨_,_,_,_,rfl⟩:=ln4 I;rfl) | (obtain⟨_,_,_,_,_,rfl⟩:=ln5 I;rfl) | (obtain⟨_,_,_,_,_,_,rfl⟩:=ln6 I;rfl) | (obtain⟨_,_,_,_,_,_,_,rfl⟩:=ln7 I;rfl)):∃ fd,AtS K mg name st ps f fd:=
 let ⟨a,l⟩:=a
 let ⟨_,F,B⟩:=l.bd b
 ⟨_,F,cB X G a,B⟩
theorem AtS.d{name:Str}(a:AtS K mg name st ps f fd)(P:aM)(w:aJ)(base:Heap)(hn:ps.length=n)(G:FnOk P w K mg base (CXD P w) k f fd ps (spF mg n F)):DefS P w K mg base k name n F:=a.def hn G
def noL(K:bS):Bool:=K.all λp=>match p.2.data with
 | .seq _ _=>(match p.2.cls with
  | .type n=>!(n == ("list" : Str))
  | _=>zi)
 | _=>zi
theorem Qaw(h:K.lookup a=zo o):(a,o)∈K:=by
 induction K with
 | nil=>cases h
 | cons p K B=>
  obtain⟨b,u⟩:=p;rw[bu]at h;cases e:a == b with
  | true=>
   rw[e]at h;have:a=b:=by simpa using e
   subst this;cases h;exact D3
  | false=>
   rw[e]at h;exact O6 _ (B h)
theorem Qru{its:Array aA}(I:noL K=zi)(h:K.lookup a=zo o)(B:o.cls=.type "list")(hd:o.data=.seq its n):False:=by
 have:=G8.mp I _ (Qaw h);simp[B,hd]at this
theorem Q58{H:Hp}{ρ:Tk}:∀ ns:List Int,RepL H ρ (ns.map .int) (ns.map V.int)
 | []=>rfl
 | n :: ns=>⟨_,_,rfl,rfl,Q58 ns⟩
theorem Qkf(H:Hp):Rel H Tk.nil []:=⟨rfl,cm,λa h=>(by cases h),λa h=>(by cases h),λi a c h=>(by simp[Tk.nil]at h)⟩
def Q6h(K:bS):Sp:=λvs H Q _=>∃ (a:aB) (ns:List Int),vs=[.ref a]/\SqL K H a (ns.map V.int)/\ns.length<=63/\∀ H',Q (.bl zi) H'
theorem Qmw{w:aJ}{base:Heap}{CX:CXT}{FL:FN}(I:noL K=zi)(F:FnOk P w K mg base CX k f fd ps (spF mg 1 FL))(B:∀ ns:List Int,ns.length<=63->∃ st',FL [.fro (ns.map .int)] []=.ok (.bl zi) st'):FnOk P w K mg base CX k f fd ps (Q6h K):=F.imp λvs H Q E ⟨a,ns,e,J,Z,O⟩=>by
 subst e;obtain⟨st',hF⟩:=B ns Z;have Y:Rd H a (.lst (ns.map V.int)):=by
  rcases J with h | ⟨o,its,n,h1,h2,h3,U,_⟩
  ·exact h
  ·exact(Qru I h1 h2 U).elim
 refine⟨rfl,Tk.nil,[],[.fro (ns.map .int)],Qkf H,⟨_,_,rfl,⟨a,_,rfl,Y,Tk.not_nil a,Q58 ns⟩,rfl⟩,?_⟩;rw[hF];intro H' ρ' x R v r;have e:v=.bl zi:=r;subst e;exact O H'
theorem Qit{w:aJ}{H:Hp}{s:aD}{e:aA}{s':aD}(h:CXD P w [] H s (λ_ _ _=>False) e s'):False:=by
 obtain⟨_,_,_,_,_,_,_,_,_,z⟩:=h;exact z
theorem walkS {l:fA} {q:aM} {B:List Str} {U:(Str->Option aA)->Heap->Prop} {O:aJ->Heap->Prop} {d:DefRec} {K:Params->bS} (hn:l.most=zo 63) (Z:Room k callerA) (I:d.params.defaults=[])
  (hY:∀ (w:aJ) (h:Heap),O w h->(K w.params).In h)
  (F:∀ (w:aJ) (mg:zAD) (J:aB) (h:Heap),(K w.params).In h->h.Ns aS mg->mg d.name=zo (.ref J) ->
   ∃ fd:aO,(∀ (s:aD) (u:aA),BindsTo s fd ⟨[u],[]⟩ [("script",u)])/\∀ base:Heap,(K w.params).In base->base.Ns aS mg->FnOk l.prog w (K w.params) mg base (CXD l.prog w) k J fd ["script"] (Q6h (K w.params))) :
  gI q B U O l.row.toRowW d [] (λf vs=>eh f vs):=
 L2.walk_of (n:=63) (k:=k) (x := "script") (CX:=λw=>CXD l.prog w) (sp:=λw=>Q6h (K w.params)) hn (by decide) I Z hY F (λ_ _ a ns hl _ Y=>⟨a,ns,rfl,Y,hl,λ_=>rfl⟩) λ_ _ _ _ _ z=>Qit z
end Sm
namespace Lw
open PySem PySem.Spec L2 Sm
variable{f:aB}{fd:aO}{b:Bool}{α:Type}{n L M R nl D k Ld C Hc:Nat}{st S S1 S2 S3 A S0:Q1}{zs:List (PV × Bool)}{xs ls sv h:List Int}{Γ:Gam}{r:SR}{m mo:ME}{v x p q Vm Vs s:PV}{mr:ML}{ps l:List PV}{ga:GA}{mi:MI}{c:Cell}{mt:MT}{a:Int}{ss:List (Nat × Bool)}
def top(i:Nat):aK:=PySem.Challenge.pw_lendwharf_k45_plans_looked_at.main.body.getD i (.Pass ⟨0,0,0,0⟩)
abbrev y9:aK:=top 4
abbrev Kw:aK:=top 5
abbrev j8:aK:=top 6
abbrev Vv:aK:=top 7
abbrev Q0u:aK:=top 9
abbrev Xc:aK:=top 10
abbrev yc:aK:=top 16
abbrev Wk:aK:=top 17
abbrev Zy:aK:=top 18
abbrev Wm:aK:=top 19
abbrev yd:aK:=top 20
abbrev j7:aK:=top 21
abbrev Xy:aK:=top 22
abbrev Xx:aK:=top 23
abbrev Uq:aK:=top 24
abbrev y8:aK:=top 25
abbrev Q0t:aK:=top 26
abbrev Ur:aK:=top 27
abbrev Kx:aK:=top 28
abbrev Vx:aK:=top 29
abbrev Vw:aK:=top 30
abbrev Q0v:aK:=top 31
abbrev Q0q:aK:=top 34
abbrev Xw:aK:=top 35
abbrev j6:aK:=top 36
abbrev Q0s:aK:=top 37
abbrev Kv:aK:=top 38
abbrev Q0r:aK:=top 39
abbrev Q6k:aK:=top 40
abbrev y6:aK:=top 41
abbrev Ky:aK:=top 42
abbrev Qa3:aK:=top 43
abbrev q9:aK:=top 45
abbrev Kz:aK:=top 46
abbrev Xz:aK:=top 47
abbrev j9:aK:=top 48
abbrev Vy:aK:=top 49
abbrev V0:aK:=top 50
abbrev V2:aK:=top 51
abbrev qa:aK:=top 52
abbrev xr:aK:=top 53
structure Txt(mg:zAD):Prop where
 b_all:mg "all" = zl
 b_any:mg "any" = zl
 b_bool:mg "bool" = zl
 b_enumerate:mg "enumerate" = zl
 b_int:mg "int" = zl
 b_isinstance:mg "isinstance" = zl
 b_len:mg "len" = zl
 b_list:mg "list" = zl
 b_max:mg "max" = zl
 b_min:mg "min" = zl
 b_range:mg "range" = zl
 b_sorted:mg "sorted" = zl
 b_sum:mg "sum" = zl
 b_tuple:mg "tuple" = zl
 b_zip:mg "zip" = zl
 c_MOST_HOUSES_OF_PLAN:∃ t,mg "MOST_HOUSES_OF_PLAN" = zo (.int 6 t)
 c_MOST_ROUNDS_OF_PLAN:∃ t,mg "MOST_ROUNDS_OF_PLAN" = zo (.int 10 t)
 c_MOST_TAKINGS:∃ t,mg "MOST_TAKINGS" = zo (.int 20 t)
 c_MOST_AT_ONCE:∃ t,mg "MOST_AT_ONCE" = zo (.int 1000000 t)
 x_SPRING:∃ t,mg "SPRING" = zo (.str "spring" t)
local macro_rules|`(tactic|fail "m")=>do let a:=(("Qf Qa Qu Jd Zh Ku Y5 Xn Q9x Ke j3 Ub Qeu X5 Qig Qif Qqd Qqc Q55 Quf Qg9 Qg8 Qqb Qds Qg7 Qdr Qg6 Qdq Qk8 Qby Que Qqa Wj Qa2 Qq9 Qq8 Qq7 Qk7 xq Qq6 Q2y Xa Qa1 Qg4 j5 Qbv Qk6 Qdn Q80 Qdm Qdk Q2x Qq3 Qg3 Q6i Qq1 Q20 Q1z Qg0 Qpz Qk2 Qfz Q6g Qpy Qbs Qfy Qfx Qfw Qfv Qfu Qpx Qpw xk Qbr Q9w Q6e Qns Qfq".splitOn " ").map λn=>Lean.mkIdent (.mkSimple n)).toArray;`(tactic|with_reducible first $[|apply $a]* | refine Q82 (T := "list") (o:=Xi) ?_ ?_ ?_ ?_ ?_ ?_ ?_ ?_ ?_ | refine Q82 (T := "tuple") (o:=Xh) ?_ ?_ ?_ ?_ ?_ ?_ ?_ ?_ ?_ | apply Kf | apply Qg2 | apply SimW.t)
local macro_rules|`(tactic|fail "o")=>do let a:=(("Qt1 Qt0 Q46 Qn8 Qsz Qsy Q9f Qsx Qiu Qsf Qse Q3k qb Qre Qnz Qv5 Qv4 Qrd Qv3 Qhb Qv2 Qca Qrc Qrb Qc9 Qra Qe8 Qr9 Q3a".splitOn " ").map λn=>Lean.mkIdent (.mkSimple n)).toArray;`(tactic|first | (with_reducible first $[|apply $a]*))
local macro_rules | `(tactic| fail "r")=>`(tactic| first | rfl | assumption | decide | exact .inl rfl | exact .inr rfl | exact .inr (.inl rfl) | exact .inr (.inr rfl) | exact λ_=>rfl | exact λ_ _=>rfl | exact λ_ _ _=>rfl | exact ⟨rfl,rfl,rfl,rfl⟩ | exact ⟨by kernel_rfl⟩ | exact Qam _ | exact Room.mono ‹_› (by decide) | exact Zj | exact Q6p | exact PassesOwn.leaving | exact FnScope.nd ‹_› | exact Qvk (by kernel_rfl) | exact Qkb ‹_› | exact Room.units ‹_› | exact Qgh | with_unfolding_all rfl)
local macro_rules | `(tactic| fail "s")=>`(tactic| first | (with_reducible first | exact dU | exact Qje | exact Qjd | exact Qf6 | exact Qjc | exact Q5z | exact Qjb | exact Qja | exact Q1q | exact Qj9 | exact Qb9) | rfl | (fail "m" <;> fail "s") | (fail "o" <;> fail "r") | ((first | apply Qde | apply Qdf | apply Wi) <;> fail "s") | fail "r" | (intro _ _ _ _ _; fail "s"))
local macro_rules | `(tactic| fail "k")=>`(tactic| (refine Qcw ‹_› ‹_› rfl rfl rfl ?_; fail "j"))
local macro_rules | `(tactic| fail "K")=>`(tactic| (refine Q98 ‹_› ‹_› rfl rfl rfl ?_; fail "j"))
local macro_rules | `(tactic| fail "j")=>`(tactic| (intros; rcases ‹Txt _› with ⟨_,_,_,_,_,_,_,_,_,_,_,_,_,_,_,⟨_,_⟩,⟨_,_⟩,⟨_,_⟩,⟨_,_⟩,⟨_,_⟩⟩; show SimB _ _ (_ :: _) _; fail "s"))
local macro_rules | `(tactic| fail "c")=>`(tactic| exact ⟨rfl,rfl,rfl,by decide +kernel,rfl,by decide +kernel,by decide +kernel⟩)
variable{P:aM}{K:bS}{mg:zAD}{base:Heap}
section
variable{w:aJ}
def yh:MS:=(J9 (Q14 (Q4v "int" (Q2 0)) (Qrz (Q4v "bool" (Q2 0)))))
def U9:FN:=Qr yh 1
theorem Q8e(F:Fun K "is_whole" "is_whole" y9 f fd)(T:Txt mg): FnOk P w K mg base (CXD P w) 1 f fd ["thing"] (spF mg 1 U9):=by
 have:FnScope ["thing"] ["thing"] (Qe y9):=by fail "c"
 delta U9 yh
 fail "k"
def qe:MS:=(J9 (Q14 (Qd 1 U9 (Q0 (Q2 0) Q5)) (U7 (oI λa b=>.bl (decide (a<=b))) (oI λa b=>.bl (decide (a<=b))) (Q2 1) (Q2 0) (Q2 2))))
def Qn:FN:=Qr qe 3
theorem Q4n(F:Fun K "is_between" "is_between" Kw f fd)(T:Txt mg)(B:DefS P w K mg base 1 "is_whole" 1 U9):FnOk P w K mg base (CXD P w) 2 f fd ["thing", "least", "most"] (spF mg 3 Qn):=by
 have:FnScope ["thing", "least", "most"] ["thing", "least", "most"] (Qe Kw):=by fail "c"
 delta Qn qe
 fail "k"
def Ud:ME:=(mOp oLt (Q2 0) (Q2 1))
def je:MS:=(J9 (Qi (qw λns=>.bl (ns.all id)) (Q0 (Wu (Qy [zl,zl] (Qv (Q6 (Q4 0) (Q6 (Q4 1) Qw))) (zn (Q0 (Q2 0) (Q0 (mSl (Q2 0) (W2 (mC (.int 1))) Jy) Q5))) Js Ud)) Q5)))
def Va:FN:=Qr je 1
theorem Q6u(F:Fun K "is_rising" "is_rising" j8 f fd)(T:Txt mg): FnOk P w K mg base (CXD P w) 1 f fd ["things"] (spF mg 1 Va):=by
 have:FnScope ["things"] ["things"] (Qe j8):=by fail "c"
 delta Va je Ud
 fail "k"
def U0:MS:=(J9 (Q14 (Q4v "tuple" (Q2 0)) (U7 (oI λa b=>.bl (decide (a<=b))) (oI λa b=>.bl (decide (a<=b))) (Q2 1) (Qi Z0 (Q0 (Q2 0) Q5)) (Q2 2))))
def Qh:FN:=Qr U0 3
theorem xy(F:Fun K "is_sized_tuple" "is_sized_tuple" Vv f fd)(T:Txt mg): FnOk P w K mg base (CXD P w) 1 f fd ["thing", "least", "most"] (spF mg 3 Qh):=by
 have:FnScope ["thing", "least", "most"] ["thing", "least", "most"] (Qe Vv):=by fail "c"
 delta Qh U0
 fail "k"
def V8:ME:=(Qd 3 Qn (Q0 (Q2 0) (Q0 (mC (.int 0)) (Q0 (mOp (oI λa b=>.int (a - b)) (Q2 1) (mC (.int 1))) Q5))))
def z8 : MS := (Qb (Z5 (xg (V7 (toB (Q4v "tuple" (Q2 1)))) (toB (mOp oNe (Qi Z0 (Q0 (Q2 1) Q5)) (mC (.int 2))))) (J9 (mC (.bl zb))) Jf)
  (J9 (Q14 (Qi (qw λns=>.bl (ns.all id)) (Q0 (Wu (Qy [zl,zo 0] (Q4 0) (Yz (Q2 1)) Js V8)) Q5)) (mOp oNe (mOp oIx (Q2 1) (mC (.int 0))) (mOp oIx (Q2 1) (mC (.int 1)))))))
def Yt:FN:=Qr z8 2
theorem Qai(F:Fun K "is_road" "is_road" Q0u f fd)(T:Txt mg)(B:DefS P w K mg base 2 "is_between" 3 Qn):FnOk P w K mg base (CXD P w) 3 f fd ["n", "thing"] (spF mg 2 Yt):=by
 have:FnScope ["n", "thing"] ["n", "thing"] (Qe Q0u):=by fail "c"
 delta Yt z8 V8
 fail "k"
def Yb:MS:=(Q1h (Q2 2) (Q2 4) (λi j=>i - j) (Q2 6))
def Ya:MS:=(Q1h (Q2 2) (Q2 5) (λi j=>i + j) (Q2 6))
def Z8 : MS := (Qb (Qm 2 (Y4 (W3 (Q2 0))))
  (Qb (Yu (Qv (Q6 (Q4 3) (Q6 (Q4 4) (Q6 (Q4 5) (Q6 (Q4 6) Qw))))) (Yz (Q2 1)) Yb)
  (Qb (Z5 (toB (mOp oLt (Qi jt (Q0 (Q2 2) Q5)) (mC (.int 0)))) (J9 (mC .non)) Jf)
  (Qb (Yu (Qv (Q6 (Q4 3) (Q6 (Q4 4) (Q6 (Q4 5) (Q6 (Q4 6) Qw))))) (Yz (Q2 1)) Ya)
  (J9 (Q2 2))))))
def Yd:FN:=Qr Z8 7
theorem Q1v(F:Fun K "behind_round" "behind_round" Xc f fd)(T:Txt mg): FnOk P w K mg base (CXD P w) 1 f fd ["has", "moves"] (spF mg 2 Yd):=by
 have:FnScope ["has", "moves", "left", "number", "i", "j", "k"] ["has", "moves"] (Qe Xc):=by fail "c"
 delta Yd Z8 Ya Yb
 fail "k"
def X0:ME:=(Qd 3 Qn (Q0 (Q2 0) (Q0 (mC (.int 0)) (Q0 (mC (.int 1000000)) Q5))))
def yi : MS := (Qb (Z5 (V7 (toB (Qd 3 Qh (Q0 (Q2 0) (Q0 (mC (.int 1)) (Q0 (mC (.int 6)) Q5)))))) (J9 (mC (.bl zb))) Jf)
  (J9 (Qi (qw λns=>.bl (ns.all id)) (Q0 (Wu (Qy [zl] (Q4 0) (Yz (Q2 0)) Js X0)) Q5))))
def Wd:FN:=Qr yi 1
theorem Q8f(F:Fun K "is_start" "is_start" yc f fd)(T:Txt mg)(B:DefS P w K mg base 1 "is_sized_tuple" 3 Qh)(I:DefS P w K mg base 2 "is_between" 3 Qn):FnOk P w K mg base (CXD P w) 3 f fd ["thing"] (spF mg 1 Wd):=by
 have:FnScope ["thing"] ["thing"] (Qe yc):=by fail "c"
 delta Wd yi X0
 fail "k"
def Y6:MS:=(J9 (Q14 (Qd 3 Qh (Q0 (Q2 1) (Q0 (mC (.int 3)) (Q0 (mC (.int 3)) Q5)))) (Q14 (Qd 2 Yt (Q0 (Q2 0) (Q0 (mSl (Q2 1) Jy (W2 (mC (.int 2)))) Q5))) (Qd 3 Qn (Q0 (mOp oIx (Q2 1) (mC (.int 2))) (Q0 (mC (.int 1)) (Q0 (mC (.int 1000000)) Q5)))))))
def J5:FN:=Qr Y6 2
theorem jb(F:Fun K "is_road_with_most" "is_road_with_most" Wk f fd)(T:Txt mg)(B:DefS P w K mg base 1 "is_sized_tuple" 3 Qh)(J:DefS P w K mg base 3 "is_road" 2 Yt)(I:DefS P w K mg base 2 "is_between" 3 Qn):FnOk P w K mg base (CXD P w) 4 f fd ["n", "thing"] (spF mg 2 J5):=by
 have:FnScope ["n", "thing"] ["n", "thing"] (Qe Wk):=by fail "c"
 delta J5 Y6
 fail "k"
def Jm:ME:=(Qd 2 J5 (Q0 (Q2 1) (Q0 (Q2 0) Q5)))
def Jk:ME:=(mSl (Q2 0) Jy (W2 (mC (.int 2))))
def Zz : MS := (Qb (Z5 (xg (V7 (toB (Q4v "tuple" (Q2 1)))) (V7 (toB (Qi (qw λns => .bl (ns.all id)) (Q0 (Wu (Qy [zl, zo 0] (Q4 0) (Yz (Q2 1)) Js Jm)) Q5))))) (J9 (mC (.bl zb))) Jf)
  (J9 (Qd 1 Va (Q0 (Wu (Qy [zl] (Q4 0) (Yz (Q2 1)) Js Jk)) Q5))))
def Qt:FN:=Qr Zz 2
theorem Xm(F:Fun K "are_roads_of_one_round" "are_roads_of_one_round" Zy f fd)(T:Txt mg)(B:DefS P w K mg base 4 "is_road_with_most" 2 J5)(I:DefS P w K mg base 1 "is_rising" 1 Va):FnOk P w K mg base (CXD P w) 5 f fd ["n", "thing"] (spF mg 2 Qt):=by
 have:FnScope ["n", "thing"] ["n", "thing"] (Qe Zy):=by fail "c"
 delta Qt Zz Jk Jm
 fail "k"
def Zd:ME:=(Qd 2 Qt (Q0 (Q2 1) (Q0 (Q2 0) Q5)))
def Wp:MS:=(J9 (Q14 (Qd 3 Qh (Q0 (Q2 1) (Q0 (mC (.int 0)) (Q0 (mC (.int 10)) Q5)))) (Qi (qw λns=>.bl (ns.all id)) (Q0 (Wu (Qy [zl,zo 0] (Q4 0) (Yz (Q2 1)) Js Zd)) Q5))))
def J6:FN:=Qr Wp 2
theorem jc(F:Fun K "are_roads_of_plan" "are_roads_of_plan" Wm f fd)(T:Txt mg)(I:DefS P w K mg base 1 "is_sized_tuple" 3 Qh)(B:DefS P w K mg base 5 "are_roads_of_one_round" 2 Qt):FnOk P w K mg base (CXD P w) 6 f fd ["n", "thing"] (spF mg 2 J6):=by
 have:FnScope ["n", "thing"] ["n", "thing"] (Qe Wm):=by fail "c"
 delta J6 Wp Zd
 fail "k"
def yj:MS:=(J9 (Q14 (Qd 3 Qn (Q0 (Q2 2) (Q0 (mC (.int 0)) (Q0 (mOp (oI λa b=>.int (a - b)) (Q2 0) (mC (.int 1))) Q5)))) (Qd 3 Qn (Q0 (Q2 3) (Q0 (mC (.int 0)) (Q0 (Q2 1) Q5))))))
def Ua:FN:=Qr yj 4
theorem Q8g(F:Fun K "is_place" "is_place" yd f fd)(T:Txt mg)(B:DefS P w K mg base 2 "is_between" 3 Qn):FnOk P w K mg base (CXD P w) 3 f fd ["n", "rounds", "house", "moment"] (spF mg 4 Ua):=by
 have:FnScope ["n", "rounds", "house", "moment"] ["n", "rounds", "house", "moment"] (Qe yd):=by fail "c"
 delta Ua yj
 fail "k"
def jd : MS := (Qb (Z5 (xg (V7 (toB (Qd 3 Qh (Q0 (Q2 2) (Q0 (mC (.int 3)) (Q0 (mC (.int 3)) Q5)))))) (V7 (toB (Qd 4 Ua (Q0 (Q2 0) (Q0 (Q2 1) (Q0 (mOp oIx (Q2 2) (mC (.int 1))) (Q0 (mOp oIx (Q2 2) (mC (.int 0))) Q5)))))))) (J9 (mC (.bl zb))) Jf)
  (J9 (Qd 3 Qn (Q0 (mOp oIx (Q2 2) (mC (.int 2))) (Q0 (mC (.int 1)) (Q0 (mC (.int 1000000)) Q5))))))
def Yh:FN:=Qr jd 3
theorem Q6t(F:Fun K "is_taking" "is_taking" j7 f fd)(T:Txt mg)(B:DefS P w K mg base 1 "is_sized_tuple" 3 Qh)(J:DefS P w K mg base 3 "is_place" 4 Ua)(I:DefS P w K mg base 2 "is_between" 3 Qn):FnOk P w K mg base (CXD P w) 4 f fd ["n", "rounds", "thing"] (spF mg 3 Yh):=by
 have:FnScope ["n", "rounds", "thing"] ["n", "rounds", "thing"] (Qe j7):=by fail "c"
 delta Yh jd
 fail "k"
def Wx:ME:=(Qd 3 Yh (Q0 (Q2 1) (Q0 (Q2 2) (Q0 (Q2 0) Q5))))
def K2:MS:=(J9 (Q14 (Qd 3 Qh (Q0 (Q2 2) (Q0 (mC (.int 0)) (Q0 (mC (.int 20)) Q5)))) (Qi (qw λns=>.bl (ns.all id)) (Q0 (Wu (Qy [zl,zo 0,zo 1] (Q4 0) (Yz (Q2 2)) Js Wx)) Q5))))
def Z4:FN:=Qr K2 3
theorem Q3e(F:Fun K "are_takings" "are_takings" Xy f fd)(T:Txt mg)(B:DefS P w K mg base 1 "is_sized_tuple" 3 Qh)(I:DefS P w K mg base 4 "is_taking" 3 Yh):FnOk P w K mg base (CXD P w) 5 f fd ["n", "rounds", "thing"] (spF mg 3 Z4):=by
 have:FnScope ["n", "rounds", "thing"] ["n", "rounds", "thing"] (Qe Xy):=by fail "c"
 delta Z4 K2 Wx
 fail "k"
def K1 : MS := (Qb (Z5 (xg (V7 (toB (Qd 3 Qh (Q0 (Q2 0) (Q0 (mC (.int 3)) (Q0 (mC (.int 3)) Q5)))))) (V7 (toB (Qd 1 Wd (Q0 (mOp oIx (Q2 0) (mC (.int 0))) Q5))))) (J9 (mC (.bl zb))) Jf)
  (Qb (Qm 1 (Qi Z0 (Q0 (mOp oIx (Q2 0) (mC (.int 0))) Q5)))
  (J9 (Q14 (Qd 2 J6 (Q0 (Q2 1) (Q0 (mOp oIx (Q2 0) (mC (.int 1))) Q5))) (Qd 3 Z4 (Q0 (Q2 1) (Q0 (Qi Z0 (Q0 (mOp oIx (Q2 0) (mC (.int 1))) Q5)) (Q0 (mOp oIx (Q2 0) (mC (.int 2))) Q5))))))))
def Y3:FN:=Qr K1 2
theorem Q3d(F:Fun K "is_question" "is_question" Xx f fd)(T:Txt mg)(I:DefS P w K mg base 1 "is_sized_tuple" 3 Qh)(O:DefS P w K mg base 3 "is_start" 1 Wd)(B:DefS P w K mg base 6 "are_roads_of_plan" 2 J6)(J:DefS P w K mg base 5 "are_takings" 3 Z4):FnOk P w K mg base (CXD P w) 7 f fd ["thing"] (spF mg 1 Y3):=by
 have:FnScope ["thing", "n"] ["thing"] (Qe Xx):=by fail "c"
 delta Y3 K1
 fail "k"
def Us:MS:=(Z5 (V7 (toB (Qd 1 Y3 (Q0 (Q2 0) Q5)))) (Qau "NoPlan" (mC (.str "this is no question of a plan"))) Jf)
def Jq:FN:=Qr Us 1
theorem Q0x(F:Fun K "need_question" "need_question" Uq f fd)(T:Txt mg)(B:∃ C,mg "NoPlan" = zo (.ref C)/\cU K C Qjf "ValueError.__new__" = zi)(I:DefS P w K mg base 7 "is_question" 1 Y3):FnOk P w K mg base (CXD P w) 8 f fd ["question"] (spF mg 1 Jq):=by
 obtain⟨_,_,_⟩:=B;have:FnScope ["question"] ["question"] (Qe Uq):=by fail "c"
 delta Jq Us
 fail "k"
def qm:MS:=(Q13 (Q2 1) (Je (Q0 (Q2 2) (Q0 (Q2 3) (Q0 (Q2 4) Q5)))) (mOp Jj (Q07 (Q2 1) (Je (Q0 (Q2 2) (Q0 (Q2 3) (Q0 (Q2 4) Q5)))) (mC (.int 0))) (Q2 5)))
def Q3p : MS := (Qb (Qm 1 Q3q)
  (Qb (Yu (Qv (Q6 (Q4 2) (Q6 (Q4 3) (Q6 (Q4 4) (Q6 (Q4 5) Qw))))) (Yz (Q2 0)) qm)
  (J9 (Q2 1))))
def U8:FN:=Xs Q3p 6
theorem Q8d(F:Fun K "loads_of" "loads_of" y8 f fd)(T:Txt mg): FnOk P w K mg base (CXD P w) 1 f fd ["moves"] (spF mg 1 U8):=by
 have:FnScope ["moves", "loads", "number", "i", "j", "k"] ["moves"] (Qe y8):=by fail "c"
 delta U8 Q3p qm
 fail "K"
def jp:ME:=(mOp oIx (Q2 0) (mC (.int 2)))
def qz:MT:=(toB (mOp oEq (mSl (Q2 0) Jy (W2 (mC (.int 2)))) (Je (Q0 (Q2 1) (Q0 (Q2 2) Q5)))))
def Q5g : MS := (Qb (Z5 (V7 (toB (U7 (oI λa b => .bl (decide (a <= b))) oLt (mC (.int 0)) (Q2 1) (Qi Z0 (Q0 (Q2 0) Q5))))) (J9 (mC (.int 0))) Jf)
  (J9 (Qi (Vh λns=>zo (.int ns.sum)) (Q0 (Wu (Qy [zl,zo 2,zo 3] (Q4 0) (Yz (mOp oIx (Q2 0) (Q2 1))) qz jp)) Q5))))
def Kr:FN:=Qr Q5g 4
theorem Qah(F:Fun K "most_by" "most_by" Q0t f fd)(T:Txt mg): FnOk P w K mg base (CXD P w) 1 f fd ["roads", "number", "i", "j"] (spF mg 4 Kr):=by
 have:FnScope ["roads", "number", "i", "j"] ["roads", "number", "i", "j"] (Qe Q0t):=by fail "c"
 delta Kr Q5g qz jp
 fail "k"
def Yy:ME:=(mOp oLt (mOp oIx (Q2 0) (mC (.int 3))) (mC (.int 1)))
def Vf:ME:=(mOp (oI λa b=>.bl (decide (a<=b))) (Q2 1) (Qd 4 Kr (Q0 (Q2 2) (Q0 (mOp oIx (Q2 0) (mC (.int 0))) (Q0 (mOp oIx (Q2 0) (mC (.int 1))) (Q0 (mOp oIx (Q2 0) (mC (.int 2))) Q5))))))
def qr : MS := (Qb (Z5 (toB (Qi (qw λns => .bl (ns.any id)) (Q0 (Wu (Qy [zl] (Q4 0) (Yz (Q2 1)) Js Yy)) Q5))) (J9 (mC (.bl zb))) Jf)
  (J9 (Qi (qw λns=>.bl (ns.all id)) (Q0 (Wu (Qy [zl,zl,zo 0] (Qv (Q6 (Q4 0) (Q6 (Q4 1) Qw))) (qg (Qd 1 U8 (Q0 (Q2 1) Q5))) Js Vf)) Q5))))
def Ys:FN:=Qr qr 2
theorem Q0y(F:Fun K "do_roads_bear" "do_roads_bear" Ur f fd)(T:Txt mg)(B:DefS P w K mg base 1 "loads_of" 1 U8)(I:DefS P w K mg base 1 "most_by" 4 Kr):FnOk P w K mg base (CXD P w) 2 f fd ["roads", "moves"] (spF mg 2 Ys):=by
 have:FnScope ["roads", "moves"] ["roads", "moves"] (Qe Ur):=by fail "c"
 delta Ys qr Vf Yy
 fail "k"
def Xg:ME:=(U7 (oI λa b=>.bl (decide (a<=b))) (oI λa b=>.bl (decide (a<=b))) (mC (.int 0)) (Q2 1) (mOp oIx (Q2 0) (mC (.int 2))))
def Q04 : MS := (Qb (Z5 (toB (mOp oNe (Qi Z0 (Q0 (Q2 1) Q5)) (Qi Z0 (Q0 (Q2 0) Q5)))) (J9 (mC (.bl zb))) Jf)
  (J9 (Qi (qw λns=>.bl (ns.all id)) (Q0 (Wu (Qy [zl,zl] (Qv (Q6 (Q4 0) (Q6 (Q4 1) Qw))) (zn (Q0 (Q2 0) (Q0 (Q2 1) Q5))) Js Xg)) Q5))))
def Vn:FN:=Qr Q04 2
theorem Q4p(F:Fun K "are_served" "are_served" Kx f fd)(T:Txt mg): FnOk P w K mg base (CXD P w) 1 f fd ["takings", "served"] (spF mg 2 Vn):=by
 have:FnScope ["takings", "served"] ["takings", "served"] (Qe Kx):=by fail "c"
 delta Vn Q04 Xg
 fail "k"
def V6:MS:=(Z5 (toB (mOp oEq (mOp oIx (Q2 5) (mC (.int 0))) (Q2 3))) (Q1h (Q2 4) (mOp oIx (Q2 5) (mC (.int 1))) (λi j=>i - j) (Q2 6)) Jf)
def U4 : MS := (Qb (Qm 4 (Y4 (W3 (Q2 2))))
  (Qb (Yu (Qv (Q6 (Q4 5) (Q6 (Q4 6) Qw))) (zn (Q0 (Q2 0) (Q0 (Q2 1) Q5))) V6)
  (J9 (Q2 4))))
def Z6:FN:=Qr U4 7
theorem Q00(F:Fun K "behind_takings" "behind_takings" Vx f fd)(T:Txt mg): FnOk P w K mg base (CXD P w) 1 f fd ["takings", "served", "has", "moment"] (spF mg 4 Z6):=by
 have:FnScope ["takings", "served", "has", "moment", "left", "taking", "amount"] ["takings", "served", "has", "moment"] (Qe Vx):=by fail "c"
 delta Z6 U4 V6
 fail "k"
def Ym:ME:=(Q2 0)
def Yi:MT:=(toB (mOp oEq (mOp oIx (Q2 0) (mC (.int 0))) (Q2 1)))
def Yq : MS := (Qb (Qm 5 (Qd 4 Z6 (Q0 (mOp oIx (Q2 0) (mC (.int 2))) (Q0 (Q2 2) (Q0 (Q2 3) (Q0 (Q2 4) Q5))))))
  (Qb (Qm 3 (Qd 2 Yd (Q0 (Q2 5) (Q0 (Wu (Qy [zl,zo 4] (Q4 0) (Yz (Q2 1)) Yi Ym)) Q5))))
  (Z5 (toB (mOp oIs (Q2 3) (mC .non))) (J9 (mC (.bl zb))) Jf)))
def Kk : MS := (Qb (Qm 3 (Qi Xi (Q0 (mOp oIx (Q2 0) (mC (.int 0))) Q5)))
  (Qb (Yu (Q4 4) (Z2 (Q0 (mOp Jj (Qi Z0 (Q0 (mOp oIx (Q2 0) (mC (.int 1))) Q5)) (mC (.int 1))) Q5)) Yq)
  (J9 (mC (.bl zi)))))
def Yc:FN:=Qr Kk 6
theorem xz(F:Fun K "do_houses_have" "do_houses_have" Vw f fd)(T:Txt mg)(B:DefS P w K mg base 1 "behind_takings" 4 Z6)(I:DefS P w K mg base 1 "behind_round" 2 Yd):FnOk P w K mg base (CXD P w) 2 f fd ["question", "moves", "served"] (spF mg 3 Yc):=by
 have:FnScope ["question", "moves", "served", "has", "moment", "left"] ["question", "moves", "served"] (Qe Vw):=by fail "c"
 delta Yc Kk Yq Yi Ym
 fail "k"
def Q5h : MS := (Qb (Yx (Qd 1 Jq (Q0 (Q2 0) Q5)))
  (Qb (Z5 (xg (V7 (toB (Qd 2 Vn (Q0 (mOp oIx (Q2 0) (mC (.int 2))) (Q0 (mOp oIx (Q2 1) (mC (.int 1))) Q5))))) (V7 (toB (Qd 2 Ys (Q0 (mOp oIx (Q2 0) (mC (.int 1))) (Q0 (mOp oIx (Q2 1) (mC (.int 0))) Q5)))))) (J9 (mC (.bl zb))) Jf)
  (J9 (Qd 3 Yc (Q0 (Q2 0) (Q0 (mOp oIx (Q2 1) (mC (.int 0))) (Q0 (mOp oIx (Q2 1) (mC (.int 1))) Q5)))))))
def X8:FN:=Qr Q5h 2
theorem Qaj(F:Fun K "is_plan" "is_plan" Q0v f fd)(T:Txt mg)(J:DefS P w K mg base 8 "need_question" 1 Jq)(O:DefS P w K mg base 1 "are_served" 2 Vn)(I:DefS P w K mg base 2 "do_roads_bear" 2 Ys)(B:DefS P w K mg base 2 "do_houses_have" 3 Yc):FnOk P w K mg base (CXD P w) 9 f fd ["question", "plan"] (spF mg 2 X8):=by
 have:FnScope ["question", "plan"] ["question", "plan"] (Qe Q0v):=by fail "c"
 delta X8 Q5h
 fail "k"
def jn:ME:=(Je (Q0 (mC (.str "spring")) (Q0 (Je (Q0 (Q2 0) (Q0 (mC (.int 0)) Q5))) (Q0 (Q2 1) Q5))))
def jm:ME:=(Je (Q0 (Je (Q0 (Q2 0) (Q0 (Q2 1) Q5))) (Q0 (Je (Q0 (Q2 0) (Q0 (mOp Jj (Q2 1) (mC (.int 1))) Q5))) (Q0 (Qi (Vh λns=>zo (.int ns.sum)) (Q0 (Q2 2) Q5)) Q5))))
def jk:ME:=(Je (Q0 (Je (Q0 (Q2 0) (Q0 (Q2 3) Q5))) (Q0 (Je (Q0 (Q2 1) (Q0 (mOp Jj (Q2 3) (mC (.int 1))) Q5))) (Q0 (Q2 2) Q5))))
def ju : MS := (Qb (Yx (mBM Kj (Q2 2) (Q0 (Wu (Qy [zl, zo 3, zo 1] (Q4 0) (Z2 (Q0 (Qi Z0 (Q0 (Q2 1) Q5)) Q5)) Js jm)) Q5)))
  (Yx (mBM Kj (Q2 2) (Q0 (Wu (Qy [zl,zl,zl,zo 3] (Qv (Q6 (Q4 0) (Q6 (Q4 1) (Q6 (Q4 2) Qw)))) (Yz (Q2 4)) Js jk)) Q5))))
def Q11 : MS := (Qb (Qm 1 (mOp oIx (Q2 0) (mC (.int 0))))
  (Qb (Qm 2 (Y4 (Qy [zl,zl] (Qv (Q6 (Q4 0) (Q6 (Q4 1) Qw))) (zu (Q0 (Q2 1) Q5)) Js jn)))
  (Qb (Yu (Qv (Q6 (Q4 3) (Q6 (Q4 4) Qw))) (zu (Q0 (mOp oIx (Q2 0) (mC (.int 1))) Q5)) ju)
  (J9 (Q2 2)))))
def Kp:FN:=Qr Q11 5
theorem Qae(F:Fun K "ways_of" "ways_of" Q0q f fd)(T:Txt mg): FnOk P w K mg base (CXD P w) 1 f fd ["question"] (spF mg 1 Kp):=by
 have:FnScope ["question", "starts", "ways", "number", "roads"] ["question"] (Qe Q0q):=by fail "c"
 delta Kp Q11 ju jk jm jn
 fail "k"
def Uu : MS := (Qb (Yx (mBM Jb (Q5i (Q2 1) (mOp oIx (Q2 3) (mC (.int 0))) (Y4 (Uv Q5))) (Q0 (Q2 2) Q5)))
  (Yx (mBM Jb (Q5i (Q2 1) (mOp oIx (Q2 3) (mC (.int 1))) (Y4 (Uv Q5))) (Q0 (Q2 2) Q5))))
def zt : MS := (Qb (Qm 1 Q3q)
  (Qb (Yu (Qv (Q6 (Q4 2) (Q6 (Q4 3) Qw))) (zu (Q0 (Q2 0) Q5)) Uu)
  (J9 (Q2 1))))
def Ww:FN:=Xs zt 4
theorem Q3c(F:Fun K "ways_by_end" "ways_by_end" Xw f fd)(T:Txt mg): FnOk P w K mg base (CXD P w) 1 f fd ["ways"] (spF mg 1 Ww):=by
 have:FnScope ["ways", "numbers", "number", "way"] ["ways"] (Qe Xw):=by fail "c"
 delta Ww zt Uu
 fail "K"
def Q1g : MS := (Qb (Z5 (Uf (toB (mOp oEq (mOp oIx (Q2 0) (mC (.int 0))) (Q2 2))) (toB (mOp oLt (Q2 1) (mOp oIx (Q2 0) (mC (.int 2)))))) (J9 (mOp oIx (Q2 0) (mC (.int 1)))) Jf)
  (Qb (Z5 (Uf (toB (mOp oEq (mOp oIx (Q2 0) (mC (.int 1))) (Q2 2))) (toB (mOp (oI λa b=>.bl (decide (b < a))) (Q2 1) (mC (.int 0))))) (J9 (mOp oIx (Q2 0) (mC (.int 0)))) Jf)
  (J9 (mC .non))))
def V9:FN:=Qr Q1g 3
theorem Q6s(F:Fun K "other_end" "other_end" j6 f fd)(T:Txt mg): FnOk P w K mg base (CXD P w) 1 f fd ["way", "load", "end"] (spF mg 3 V9):=by
 have:FnScope ["way", "load", "end"] ["way", "load", "end"] (Qe j6):=by fail "c"
 delta V9 Q1g
 fail "k"
def Ui : MS := (Qb (Qm 8 (Qd 3 V9 (Q0 (mOp oIx (Q2 0) (Q2 7)) (Q0 (mOp oIx (Q2 1) (Q2 7)) (Q0 (Q2 6) Q5)))))
  (Z5 (Uf (toB (mOp yf (Q2 8) (mC .non))) (toB (mOp (Q8i zi) (Q2 8) (Q2 3)))) (Qb (Q13 (Q2 3) (Q2 8) (Je (Q0 (Q2 7) (Q0 (Q2 6) Q5))))
  (Yx (mBM Jb (Q2 5) (Q0 (Q2 8) Q5)))) Jf))
def Xu:MS:=(Yu (Q4 7) (Yz (U6 (Q2 2) (Q2 6))) Ui)
def Uj : MS := (Qb (Qm 5 (Y4 (Uv Q5)))
  (Qb (Yu (Q4 6) (Yz (Q2 4)) Xu)
  (Qm 4 (Q2 5))))
def W0:MT:=(toB (mOp (oI λa b=>.bl (decide (b < a))) (Qi Z0 (Q0 (Q2 4) Q5)) (mC (.int 0))))
def Q5f : MS := (Qb (Qm 2 (Qd 1 Ww (Q0 (Q2 0) Q5)))
  (Qb (Qm 3 (Q25 (mC (.str "spring")) (mC .non)))
  (Qb (Qm 4 (Z1 (Q0 (mC (.str "spring")) Q5)))
  (Qb (Zx W0 Uj 100000)
  (J9 (Q2 3))))))
def Wg:FN:=Xs Q5f 9
theorem Qag(F:Fun K "reached" "reached" Q0s f fd)(T:Txt mg)(B:DefS P w K mg base 1 "ways_by_end" 1 Ww)(I:DefS P w K mg base 1 "other_end" 3 V9):FnOk P w K mg base (CXD P w) 2 f fd ["ways", "loads"] (spF mg 2 Wg):=by
 have:FnScope ["ways", "loads", "by_end", "found", "fresh", "further", "end", "number", "other"] ["ways", "loads"] (Qe Q0s):=by fail "c"
 delta Wg Q5f W0 Uj Xu Ui
 fail "K"
def Xj : MS := (Qb (Qm 5 (U6 (Q2 1) (Q2 4)))
  (Qb (Yx (mBM Jb (Q2 3) (Q0 (Je (Q0 (mOp oIx (Q2 5) (mC (.int 0))) (Q0 (mOp oEq (mOp oIx (mOp oIx (Q2 0) (mOp oIx (Q2 5) (mC (.int 0)))) (mC (.int 1))) (Q2 4)) Q5))) Q5)))
  (Qm 4 (mOp oIx (Q2 5) (mC (.int 1))))))
def X9:MT:=(toB (mOp yf (U6 (Q2 1) (Q2 4)) (mC .non)))
def qd : MS := (Qb (Qm 3 (Y4 (Uv Q5)))
  (Qb (Qm 4 (Q2 2))
  (Qb (Zx X9 Xj 100000)
  (J9 (Q2 3)))))
def Vk:FN:=Qr qd 6
theorem Q4m(F:Fun K "steps_back" "steps_back" Kv f fd)(T:Txt mg): FnOk P w K mg base (CXD P w) 1 f fd ["ways", "found", "place"] (spF mg 3 Vk):=by
 have:FnScope ["ways", "found", "place", "steps", "at", "step"] ["ways", "found", "place"] (Qe Kv):=by fail "c"
 delta Vk qd X9 Xj
 fail "k"
def Xr:ME:=(mIf (toB (Q2 1)) (mOp (oI λa b=>.int (a - b)) (mOp oIx (mOp oIx (Q2 3) (Q2 0)) (mC (.int 2))) (mOp oIx (Q2 2) (Q2 0))) (mOp oIx (Q2 2) (Q2 0)))
def Q5e:MS:=(J9 (Qi jt (Q0 (Wu (Qy [zl,zl,zo 1,zo 0] (Qv (Q6 (Q4 0) (Q6 (Q4 1) Qw))) (Yz (Q2 2)) Js Xr)) Q5)))
def Kq:FN:=Qr Q5e 3
theorem Qaf(F:Fun K "room_by" "room_by" Q0r f fd)(T:Txt mg): FnOk P w K mg base (CXD P w) 1 f fd ["ways", "loads", "steps"] (spF mg 3 Kq):=by
 have:FnScope ["ways", "loads", "steps"] ["ways", "loads", "steps"] (Qe Q0r):=by fail "c"
 delta Kq Q5e Xr
 fail "k"
def zg:MS:=(Q1h (Q2 1) (Q2 8) (λi j=>i + j) (mIf (toB (Q2 9)) (Q2 7) (Q8t (Q2 7))))
def zh : MS := (Qb (Qm 6 (Qd 3 Vk (Q0 (Q2 0) (Q0 (Q2 5) (Q0 (Q2 3) Q5)))))
  (Qb (Qm 7 (Qi jt (Q0 (Qd 3 Kq (Q0 (Q2 0) (Q0 (Q2 1) (Q0 (Q2 6) Q5)))) (Q0 (mOp (oI λa b=>.int (a - b)) (mOp oIx (Q2 2) (mC (.int 2))) (Q2 4)) Q5))))
  (Qb (Yu (Qv (Q6 (Q4 8) (Q6 (Q4 9) Qw))) (Yz (Q2 6)) zg)
  (Qb (Qhs 4 (λi j=>i + j) (Q2 7))
  (Qm 5 (Qd 2 Wg (Q0 (Q2 0) (Q0 (Q2 1) Q5))))))))
def K9:MT:=(Uf (toB (mOp oLt (Q2 4) (mOp oIx (Q2 2) (mC (.int 2))))) (toB (mOp (Q8i zb) (Q2 3) (Q2 5))))
def Qce : MS := (Qb (Qm 3 (Je (Q0 (mOp oIx (Q2 2) (mC (.int 1))) (Q0 (mOp oIx (Q2 2) (mC (.int 0))) Q5))))
  (Qb (Qm 4 (mC (.int 0)))
  (Qb (Qm 5 (Qd 2 Wg (Q0 (Q2 0) (Q0 (Q2 1) Q5))))
  (Qb (Zx K9 zh 2000000)
  (J9 (Q2 4))))))
def Q0p:FN:=Xs Qce 10
theorem Qhf(F:Fun K "serve" "serve" Q6k f fd)(T:Txt mg)(I:DefS P w K mg base 2 "reached" 2 Wg)(B:DefS P w K mg base 1 "steps_back" 3 Vk)(J:DefS P w K mg base 1 "room_by" 3 Kq):FnOk P w K mg base (CXD P w) 3 f fd ["ways", "loads", "taking"] (spF mg 3 Q0p):=by
 have:FnScope ["ways", "loads", "taking", "place", "served", "found", "steps", "amount", "number", "onward"] ["ways", "loads", "taking"] (Qe Q6k):=by fail "c"
 delta Q0p Qce K9 zh zg
 fail "K"
def qk:MS:=(Z5 (Uf (toB (mOp oNe (mOp oIx (Q2 3) (mC (.int 0))) (mC (.str "spring")))) (Uf (toB (mOp oNe (mOp oIx (mOp oIx (Q2 3) (mC (.int 0))) (mC (.int 0))) (mOp oIx (mOp oIx (Q2 3) (mC (.int 1))) (mC (.int 0))))) (toB (mOp (oI λa b=>.bl (decide (b < a))) (Q2 4) (mC (.int 0)))))) (Yx (mBM Jb (Q2 2) (Q0 (Je (Q0 (mOp oIx (mOp oIx (Q2 3) (mC (.int 0))) (mC (.int 1))) (Q0 (mOp oIx (mOp oIx (Q2 3) (mC (.int 0))) (mC (.int 0))) (Q0 (mOp oIx (mOp oIx (Q2 3) (mC (.int 1))) (mC (.int 0))) (Q0 (Q2 4) Q5))))) Q5))) Jf)
def yg : MS := (Qb (Qm 2 (Y4 (Uv Q5)))
  (Qb (Yu (Qv (Q6 (Q4 3) (Q6 (Q4 4) Qw))) (zn (Q0 (Q2 0) (Q0 (Q2 1) Q5))) qk)
  (J9 (Q2 2))))
def Xk:FN:=Qr yg 5
theorem Q8c(F:Fun K "moves_by" "moves_by" y6 f fd)(T:Txt mg): FnOk P w K mg base (CXD P w) 1 f fd ["ways", "loads"] (spF mg 2 Xk):=by
 have:FnScope ["ways", "loads", "moves", "way", "load"] ["ways", "loads"] (Qe y6):=by fail "c"
 delta Xk yg qk
 fail "k"
def js:ME:=(mC (.int 0))
def jr:ME:=(Qd 3 Q0p (Q0 (Q2 1) (Q0 (Q2 2) (Q0 (Q2 0) Q5))))
def jq:ME:=(Q2 0)
def j0:MT:=(toB (mOp oNe (Q2 0) (mC (.str "spring"))))
def qf : MS := (Qb (Qm 1 (Qd 1 Kp (Q0 (Q2 0) Q5)))
  (Qb (Qm 2 (Y4 (Qy [zl] (Q4 0) (Yz (Q2 1)) Js js)))
  (Qb (Qm 3 (Wu (Qy [zl,zo 1,zo 2] (Q4 0) (Yz (mOp oIx (Q2 0) (mC (.int 2)))) Js jr)))
  (Qb (Qm 4 (Qi Q4a (Q0 (Wu (Qy [zl] (Q4 0) (V5 (Qd 2 Wg (Q0 (Q2 1) (Q0 (Q2 2) Q5)))) j0 jq)) Q5)))
  (J9 (Je (Q0 (Q2 3) (Q0 (Qd 2 Xk (Q0 (Q2 1) (Q0 (Q2 2) Q5))) (Q0 (Q2 4) Q5)))))))))
def X1:FN:=Qr qf 5
theorem sc_all_served:FnScope ["question", "ways", "loads", "served", "cut"] ["question"] (Qe Ky):=⟨rfl,rfl,rfl,by decide +kernel,rfl,by decide +kernel,by decide +kernel⟩
theorem Q4q(F:Fun K "all_served" "all_served" Ky f fd)(T:Txt mg)(J:DefS P w K mg base 1 "ways_of" 1 Kp)(B:DefS P w K mg base 3 "serve" 3 Q0p)(O:DefS P w K mg base 2 "reached" 2 Wg)(I:DefS P w K mg base 1 "moves_by" 2 Xk):FnOk P w K mg base (CXD P w) 4 f fd ["question"] (spF mg 1 X1):=by
 refine Qcw (k:=3) (m:=qf) F sc_all_served rfl rfl rfl λY A outer s H E U=>?_
 exact(Zh (Wi 1 sc_all_served.nd (Y5 J (U.mono (by decide)) Zj rfl (Qa (Qf 0) Qu)))
  (Zh (by first | exact Q7y [zl] ["way"] 2 sc_all_served.nd rfl (Q2x (Qf 1)) (λ_ _ _ _ _=>(Ub (i:=0) (show(["way"]:List Str).Nodup by decide +kernel))) (λ_ _ _ _ _=>Jd) (λ_ _ _ _ _=>xk) X5 | exact Wi 2 sc_all_served.nd (Q2y (Q21 [zl] ["way"] rfl (Q2x (Qf 1)) (λ_ _ _ _ _=>(Ub (i:=0) (show(["way"]:List Str).Nodup by decide +kernel))) (λ_ _ _ _ _=>Jd) (λ_ _ _ _ _=>xk) X5)))
  (Zh (by first | exact Q7x [zl,zo 1,zo 2] ["taking", "ways", "loads"] 3 sc_all_served.nd rfl (Q2x (Xn (Qf 0) Jd)) (λ_ _ _ _ _=>(Ub (i:=0) (show(["taking", "ways", "loads"]:List Str).Nodup by decide +kernel))) (λ_ _ _ _ _=>(Y5 B (U.mono (by decide)) Q6p rfl (Qa (Qf 1) (Qa (Qf 2) (Qa (Qf 0) Qu))))) (λ_ _ _ _ _=>xk) X5 | exact Wi 3 sc_all_served.nd (Qa1 (Q21 [zl,zo 1,zo 2] ["taking", "ways", "loads"] rfl (Q2x (Xn (Qf 0) Jd)) (λ_ _ _ _ _=>(Ub (i:=0) (show(["taking", "ways", "loads"]:List Str).Nodup by decide +kernel))) (λ_ _ _ _ _=>(Y5 B (U.mono (by decide)) Q6p rfl (Qa (Qf 1) (Qa (Qf 2) (Qa (Qf 0) Qu))))) (λ_ _ _ _ _=>xk) X5)))
  (Zh (Wi 4 sc_all_served.nd (Kf Q9f rfl T.b_sorted Q1q (Qa (Qa1 (Q21 [zl] ["end"] rfl (Q80 (Y5 O (U.mono (by decide)) Zj rfl (Qa (Qf 1) (Qa (Qf 2) Qu)))) (λ_ _ _ _ _=>(Ub (i:=0) (show(["end"]:List Str).Nodup by decide +kernel))) (λ_ _ _ _ _=>(Qf 0)) (λ_ _ _ _ _=>(Qbr (j3 (Qc9 U.units) (Qf 0) (Qby rfl T.x_SPRING.choose_spec)))) X5)) Qu)))
  (Ku (Q9x (Xa (Qa (Qf 3) (Qa (Y5 I (U.mono (by decide)) Zj rfl (Qa (Qf 1) (Qa (Qf 2) Qu))) (Qa (Qf 4) Qu))))))))))
def Qar : MS := (Qb (Yx (Qd 1 Jq (Q0 (Q2 0) Q5)))
  (Qb (Qm 1 (Qd 1 X1 (Q0 (Q2 0) Q5)))
  (J9 (Je (Q0 (Qi (Vh λns=>zo (.int ns.sum)) (Q0 (mOp oIx (Q2 1) (mC (.int 0))) Q5)) (Q0 (Je (Q0 (mOp oIx (Q2 1) (mC (.int 1))) (Q0 (mOp oIx (Q2 1) (mC (.int 0))) Q5))) (Q0 (mOp oIx (Q2 1) (mC (.int 2))) Q5)))))))
def Q4g:FN:=Qr Qar 2
theorem Qmf(F:Fun K "best" "best" Qa3 f fd)(T:Txt mg)(B:DefS P w K mg base 8 "need_question" 1 Jq)(I:DefS P w K mg base 4 "all_served" 1 X1):FnOk P w K mg base (CXD P w) 9 f fd ["question"] (spF mg 1 Q4g):=by
 have:FnScope ["question", "told"] ["question"] (Qe Qa3):=by fail "c"
 delta Q4g Qar
 fail "k"
def Uz : MS := (Qb (Z5 (toB (mOp oLt (Q2 1) (Qi Z0 (Q0 (Q2 0) Q5)))) (J9 (mOp oIx (Q2 0) (Q2 1))) Jf)
  (J9 (mC (.int 0))))
def Yr:FN:=Qr Uz 2
theorem Q4s(F:Fun K "_law_acell" "_law_acell" q9 f fd)(T:Txt mg): FnOk P w K mg base (CXD P w) 1 f fd ["script", "k"] (spF mg 2 Yr):=by
 have:FnScope ["script", "k"] ["script", "k"] (Qe q9):=by fail "c"
 delta Yr Uz
 fail "k"
def Vi : MS := (Qb (Qm 4 (mOp Jj (mOp Q6w (Q2 4) (Q2 3)) (Q2 5)))
  (Qm 5 (mOp Q8h (mOp Jj (mOp Jj (mOp Q6w (Q2 5) (Q2 5)) (mOp Q6w (mC (.int 40692)) (Q2 1))) (Q2 6)) (Q2 3))))
def Uy : MS := (Qb (Qm 2 (Qd 2 Yr (Q0 (Q2 0) (Q0 (Q2 1) Q5))))
  (Qb (Z5 (toB (mOp oEq (mOp Q8h (Q2 2) (mC (.int 2))) (mC (.int 0)))) (J9 (Y4 (Uv (Q0 (mOp Qhh (Q2 2) (mC (.int 2))) Q5)))) Jf)
  (Qb (Qm 3 (mC (.int 2305843009213693951)))
  (Qb (Qm 4 (mC (.int 0)))
  (Qb (Qm 5 (mOp Q8h (mOp Jj (mOp Jj (mOp Q6w (mOp Q8h (Q2 2) (Q2 3)) (mC (.int 48271))) (mOp Q6w (mC (.int 69621)) (Q2 1))) (mC (.int 11))) (Q2 3)))
  (Qb (Yu (Q4 6) (Z2 (Q0 (mC (.int 5)) Q5)) Vi)
  (J9 (Y4 (Uv (Q0 (Q2 4) Q5))))))))))
def Zw:FN:=Xs Uy 7
theorem Q4r(F:Fun K "_law_atape" "_law_atape" Kz f fd)(T:Txt mg)(B:DefS P w K mg base 1 "_law_acell" 2 Yr):FnOk P w K mg base (CXD P w) 2 f fd ["script", "k"] (spF mg 2 Zw):=by
 have:FnScope ["script", "k", "cell", "p", "number", "last", "turn"] ["script", "k"] (Qe Kz):=by fail "c"
 delta Zw Uy Vi
 fail "K"
def Ws : MS := (Qb (Qm 2 (mOp Q8h (mOp oIx (Q2 0) (mC (.int 0))) (Q2 1)))
  (Qb (U5 (Q2 0) (mC (.int 0)) (mOp Qhh (mOp oIx (Q2 0) (mC (.int 0))) (Q2 1)))
  (J9 (Q2 2))))
def Q9:FN:=Qr Ws 3
theorem Q3f(F:Fun K "_law_adigit" "_law_adigit" Xz f fd)(T:Txt mg): FnOk P w K mg base (CXD P w) 1 f fd ["tape", "many"] (spF mg 2 Q9):=by
 have:FnScope ["tape", "many", "found"] ["tape", "many"] (Qe Xz):=by fail "c"
 delta Q9 Ws
 fail "k"
def Yg : MS := (Qb (Z5 (toB (mOp oEq (Qd 2 Q9 (Q0 (Q2 0) (Q0 (mC (.int 8)) Q5))) (mC (.int 7)))) (J9 (mOp (oI λa b => .int (a - b)) (mOp Qmh (mC (.int 10)) (mC (.int 6))) (Qd 2 Q9 (Q0 (Q2 0) (Q0 (mC (.int 9)) Q5))))) Jf)
  (J9 (mOp Jj (mC (.int 1)) (Qd 2 Q9 (Q0 (Q2 0) (Q0 (Q2 1) Q5))))))
def We:FN:=Qr Yg 2
theorem Q6v(F:Fun K "_law_ahow" "_law_ahow" j9 f fd)(T:Txt mg)(B:DefS P w K mg base 1 "_law_adigit" 2 Q9):FnOk P w K mg base (CXD P w) 2 f fd ["tape", "few"] (spF mg 2 We):=by
 have:FnScope ["tape", "few"] ["tape", "few"] (Qe j9):=by fail "c"
 delta We Yg
 fail "k"
def Yn:ME:=(mOp (oI λa b=>.int (a - b)) (Qd 2 We (Q0 (Q2 1) (Q0 (mC (.int 10)) Q5))) (mC (.int 1)))
def Jh:MS:=(Z5 (Uf (toB (mOp oNe (Q2 9) (Q2 10))) (toB (mOp oLt (Qd 2 Q9 (Q0 (Q2 0) (Q0 (mC (.int 4)) Q5))) (Q2 5)))) (Yx (mBM Jb (Q2 8) (Q0 (Je (Q0 (Q2 9) (Q0 (Q2 10) (Q0 (Qd 2 We (Q0 (Q2 0) (Q0 (mC (.int 5)) Q5))) Q5)))) Q5))) Jf)
def Za:MS:=(Yu (Q4 10) (Z2 (Q0 (Q2 2) Q5)) Jh)
def Zb : MS := (Qb (Qm 8 (Y4 (Uv Q5)))
  (Qb (Yu (Q4 9) (Z2 (Q0 (Q2 2) Q5)) Za)
  (Yx (mBM Jb (Q2 6) (Q0 (Qi Xh (Q0 (Q2 8) Q5)) Q5)))))
def Z9:MS:=(Yx (mBM Jb (Q2 11) (Q0 (Je (Q0 (Qd 2 Q9 (Q0 (Q2 0) (Q0 (mOp Jj (Q2 4) (mC (.int 1))) Q5))) (Q0 (Qd 2 Q9 (Q0 (Q2 0) (Q0 (Q2 2) Q5))) (Q0 (Qd 2 We (Q0 (Q2 0) (Q0 (mC (.int 7)) Q5))) Q5)))) Q5)))
def Y9 : MS := (Qb (Qm 2 (mOp Jj (mC (.int 1)) (Qd 2 Q9 (Q0 (Q2 0) (Q0 (Q2 1) Q5)))))
  (Qb (Qm 3 (Qi Xh (Q0 (Wu (Qy [zl,zo 0] (Q4 0) (Z2 (Q0 (Q2 2) Q5)) Js Yn)) Q5)))
  (Qb (Qm 4 (Qd 2 Q9 (Q0 (Q2 0) (Q0 (mOp Jj (Q2 1) (mC (.int 1))) Q5))))
  (Qb (Qm 5 (mOp Jj (mC (.int 1)) (Qd 2 Q9 (Q0 (Q2 0) (Q0 (mC (.int 3)) Q5)))))
  (Qb (Qm 6 (Y4 (Uv Q5)))
  (Qb (Yu (Q4 7) (Z2 (Q0 (Q2 4) Q5)) Zb)
  (Qb (Qm 11 (Y4 (Uv Q5)))
  (Qb (Yu (Q4 12) (Z2 (Q0 (Qd 2 Q9 (Q0 (Q2 0) (Q0 (mC (.int 6)) Q5))) Q5)) Z9)
  (J9 (Je (Q0 (Q2 3) (Q0 (Qi Xh (Q0 (Q2 6) Q5)) (Q0 (Qi Xh (Q0 (Q2 11) Q5)) Q5)))))))))))))
def Z7:FN:=Qr Y9 13
theorem Q01(F:Fun K "_law_aquestion" "_law_aquestion" Vy f fd)(T:Txt mg)(B:DefS P w K mg base 1 "_law_adigit" 2 Q9)(I:DefS P w K mg base 2 "_law_ahow" 2 We):FnOk P w K mg base (CXD P w) 3 f fd ["tape", "most"] (spF mg 2 Z7):=by
 have:FnScope ["tape", "most", "size", "start", "rounds", "often", "roads", "turn", "told", "i", "j", "takings", "k"] ["tape", "most"] (Qe Vy):=by fail "c"
 delta Z7 Y9 Z9 Zb Za Jh Yn
 fail "k"
def Zn:ME:=(U7 (oI λa b=>.bl (decide (a<=b))) (oI λa b=>.bl (decide (a<=b))) (mC (.int 0)) (Q2 0) (mOp oIx (Q2 1) (mC (.int 2))))
def Jw : MS := (Qb (Z5 (xg (V7 (toB (U7 (oI λa b => .bl (decide (a <= b))) oLt (mC (.int 0)) (Q2 7) (Qi Z0 (Q0 (Q2 4) Q5))))) (toB (mOp oLt (Q2 10) (mC (.int 1))))) (J9 (mC (.bl zb))) Jf)
  (Q13 (Q2 6) (Je (Q0 (Q2 7) (Q0 (Q2 8) (Q0 (Q2 9) Q5)))) (mOp Jj (Q07 (Q2 6) (Je (Q0 (Q2 7) (Q0 (Q2 8) (Q0 (Q2 9) Q5)))) (mC (.int 0))) (Q2 10))))
def Zm:ME:=(mOp oIx (Q2 0) (mC (.int 2)))
def Zg:MT:=(toB (mOp oEq (mSl (Q2 0) Jy (W2 (mC (.int 2)))) (Je (Q0 (Q2 1) (Q0 (Q2 2) Q5)))))
def Jv : MS := (Qb (Qm 11 (Wu (Qy [zl, zo 8, zo 9] (Q4 0) (Yz (mOp oIx (Q2 4) (Q2 7))) Zg Zm)))
  (Z5 (xg (toB (mOp oEq (Q2 11) (Z1 Q5))) (toB (mOp (oI λa b=>.bl (decide (b < a))) (U6 (Q2 6) (Je (Q0 (Q2 7) (Q0 (Q2 8) (Q0 (Q2 9) Q5))))) (mOp oIx (Q2 11) (mC (.int 0)))))) (J9 (mC (.bl zb))) Jf))
def Zs:MS:=(Z5 (toB (mOp oEq (mOp oIx (Q2 15) (mC (.int 0))) (Q2 13))) (U5 (Q2 12) (mOp oIx (Q2 15) (mC (.int 1))) (mOp (oI λa b=>.int (a - b)) (mOp oIx (Q2 12) (mOp oIx (Q2 15) (mC (.int 1)))) (Q2 14))) Jf)
def Wc:MS:=(Z5 (toB (mOp oEq (Q2 7) (Q2 13))) (U5 (Q2 12) (Q2 8) (mOp (oI λa b=>.int (a - b)) (mOp oIx (Q2 12) (Q2 8)) (U6 (Q2 6) (Je (Q0 (Q2 7) (Q0 (Q2 8) (Q0 (Q2 9) Q5))))))) Jf)
def Wb:MS:=(Z5 (toB (mOp oEq (Q2 7) (Q2 13))) (U5 (Q2 12) (Q2 9) (mOp Jj (mOp oIx (Q2 12) (Q2 9)) (U6 (Q2 6) (Je (Q0 (Q2 7) (Q0 (Q2 8) (Q0 (Q2 9) Q5))))))) Jf)
def Zt : MS := (Qb (Yu (Qv (Q6 (Q4 14) (Q6 (Q4 15) Qw))) (zn (Q0 (Q2 2) (Q0 (Q2 5) Q5))) Zs)
  (Qb (Ut (Yu (Qv (Q6 (Q4 7) (Q6 (Q4 8) (Q6 (Q4 9) Qw)))) (V5 (Q2 6)) Wc))
  (Qb (Z5 (toB (mOp oLt (Qi jt (Q0 (Q2 12) Q5)) (mC (.int 0)))) (J9 (mC (.bl zb))) Jf)
  (Ut (Yu (Qv (Q6 (Q4 7) (Q6 (Q4 8) (Q6 (Q4 9) Qw)))) (V5 (Q2 6)) Wb)))))
def Yj : MS := (Qb (Q8v (Qv (Q6 (Q4 3) (Q6 (Q4 4) (Q6 (Q4 5) Qw)))) (Q2 0))
  (Qb (Z5 (toB (mOp oNe (Qi Z0 (Q0 (Q2 2) Q5)) (Qi Z0 (Q0 (Q2 5) Q5)))) (J9 (mC (.bl zb))) Jf)
  (Qb (Z5 (toB (mOp (oIn zb) (mC (.bl zb)) (Wu (Qy [zl,zl] (Qv (Q6 (Q4 0) (Q6 (Q4 1) Qw))) (zn (Q0 (Q2 2) (Q0 (Q2 5) Q5))) Js Zn)))) (J9 (mC (.bl zb))) Jf)
  (Qb (Qm 6 Q3q)
  (Qb (Yu (Qv (Q6 (Q4 7) (Q6 (Q4 8) (Q6 (Q4 9) (Q6 (Q4 10) Qw))))) (Yz (Q2 1)) Jw)
  (Qb (Ut (Yu (Qv (Q6 (Q4 7) (Q6 (Q4 8) (Q6 (Q4 9) Qw)))) (V5 (Q2 6)) Jv))
  (Qb (Qm 12 (Y4 (W3 (Q2 3))))
  (Qb (Yu (Q4 13) (Z2 (Q0 (mOp Jj (Qi Z0 (Q0 (Q2 4) Q5)) (mC (.int 1))) Q5)) Zt)
  (J9 (mC (.bl zi)))))))))))
def Jc:FN:=Qr Yj 16
theorem zk(F:Fun K "_law_aplan_holds" "_law_aplan_holds" V0 f fd)(T:Txt mg): FnOk P w K mg base (CXD P w) 1 f fd ["question", "moves", "served"] (spF mg 3 Jc):=by
 have:FnScope ["question", "moves", "served", "start", "roads", "takings", "taken", "turn", "i", "j", "k", "rooms", "have", "moment", "many", "taking"] ["question", "moves", "served"] (Qe V0):=by fail "c"
 delta Jc Yj Zt Wb Wc Zs Jv Zg Zm Jw Zn
 fail "k"
def Zp:ME:=(mC (.int 0))
def Zu : MS := (Z5 (toB (mOp oEq (mOp oIx (mOp oIx (Q2 4) (Q2 9)) (mC (.int 0))) (Q2 8))) (Qb (U5 (Q2 7) (Q2 9) (Qd 2 Q9 (Q0 (Q2 0) (Q0 (mOp Jj (Qi jt (Q0 (mOp oIx (mOp oIx (Q2 4) (Q2 9)) (mC (.int 2))) (Q0 (mOp oIx (Q2 5) (mOp oIx (mOp oIx (Q2 4) (Q2 9)) (mC (.int 1)))) Q5))) (mC (.int 1))) Q5))))
  (U5 (Q2 5) (mOp oIx (mOp oIx (Q2 4) (Q2 9)) (mC (.int 1))) (mOp (oI λa b=>.int (a - b)) (mOp oIx (Q2 5) (mOp oIx (mOp oIx (Q2 4) (Q2 9)) (mC (.int 1)))) (mOp oIx (Q2 7) (Q2 9))))) Jf)
def W8:ME:=(mC (.int 0))
def Jx : MS := (Qb (Qm 14 (Qd 2 Q9 (Q0 (Q2 0) (Q0 (mOp Jj (Qi jt (Q0 (Q2 13) (Q0 (mOp oIx (Q2 5) (Q2 11)) Q5))) (mC (.int 1))) Q5))))
  (Z5 (toB (mOp (oI λa b=>.bl (decide (b < a))) (Q2 14) (mC (.int 0)))) (Qb (Yx (mBM Jb (Q2 6) (Q0 (Je (Q0 (Q2 8) (Q0 (Q2 11) (Q0 (Q2 12) (Q0 (Q2 14) Q5))))) Q5)))
  (Qb (U5 (Q2 5) (Q2 11) (mOp (oI λa b=>.int (a - b)) (mOp oIx (Q2 5) (Q2 11)) (Q2 14)))
  (U5 (Q2 10) (Q2 12) (mOp Jj (mOp oIx (Q2 10) (Q2 12)) (Q2 14))))) Jf))
def W7:ME:=(mOp Jj (Q2 0) (Q2 1))
def Zv : MS := (Qb (Yu (Q4 9) (Z2 (Q0 (Qi Z0 (Q0 (Q2 4) Q5)) Q5)) Zu)
  (Qb (Qm 10 (Y4 (Qy [zl] (Q4 0) (Yz (Q2 2)) Js W8)))
  (Qb (Z5 (toB (mOp oLt (Q2 8) (Qi Z0 (Q0 (Q2 3) Q5)))) (Yu (Qv (Q6 (Q4 11) (Q6 (Q4 12) (Q6 (Q4 13) Qw)))) (Yz (mOp oIx (Q2 3) (Q2 8))) Jx) Jf)
  (Qm 5 (Y4 (Qy [zl,zl] (Qv (Q6 (Q4 0) (Q6 (Q4 1) Qw))) (zn (Q0 (Q2 5) (Q0 (Q2 10) Q5))) Js W7))))))
def V4 : MS := (Qb (Q8v (Qv (Q6 (Q4 2) (Q6 (Q4 3) (Q6 (Q4 4) Qw)))) (Q2 1))
  (Qb (Qm 5 (Y4 (W3 (Q2 2))))
  (Qb (Qm 6 (Y4 (Uv Q5)))
  (Qb (Qm 7 (Y4 (Qy [zl] (Q4 0) (Yz (Q2 4)) Js Zp)))
  (Qb (Yu (Q4 8) (Z2 (Q0 (mOp Jj (Qi Z0 (Q0 (Q2 3) Q5)) (mC (.int 1))) Q5)) Zv)
  (J9 (Je (Q0 (Q2 6) (Q0 (Q2 7) Q5)))))))))
def Zc:FN:=Xs V4 15
theorem zm(F:Fun K "_law_adrawn_plan" "_law_adrawn_plan" V2 f fd)(T:Txt mg)(B:DefS P w K mg base 1 "_law_adigit" 2 Q9):FnOk P w K mg base (CXD P w) 2 f fd ["tape", "question"] (spF mg 2 Zc):=by
 have:FnScope ["tape", "question", "start", "roads", "takings", "have", "moves", "served", "moment", "k", "coming", "i", "j", "most", "many"] ["tape", "question"] (Qe V2):=by fail "c"
 delta Zc V4 Zv W7 Jx W8 Zu Zp
 fail "K"
def Q05 : MS := (Qb (Qm 3 (Y4 (W3 (mOp oIx (Q2 2) (mC (.int 0))))))
  (Qb (Qm 4 (Y4 (W3 (mOp oIx (Q2 2) (mC (.int 1))))))
  (Qb (Qm 5 (Qd 2 Q9 (Q0 (Q2 0) (Q0 (mC (.int 8)) Q5))))
  (Qb (Qm 6 (Qi Z0 (Q0 (mOp oIx (Q2 1) (mC (.int 0))) Q5)))
  (Qb (Z5 (Uf (toB (mOp oLt (Q2 5) (mC (.int 3)))) (toB (mOp oNe (Q2 3) (Z1 Q5)))) (Qb (Qm 7 (Qd 2 Q9 (Q0 (Q2 0) (Q0 (Qi Z0 (Q0 (Q2 3) Q5)) Q5))))
  (Qb (Q8v (Qv (Q6 (Q4 8) (Q6 (Q4 9) (Q6 (Q4 10) (Q6 (Q4 11) Qw))))) (mOp oIx (Q2 3) (Q2 7)))
  (Qb (Qm 12 (Z1 (Q0 (Z1 (Q0 (Je (Q0 (Q2 8) (Q0 (Q2 9) (Q0 (Q2 10) (Q0 (mOp Jj (Q2 11) (mC (.int 1))) Q5))))) Q5)) (Q0 (Z1 (Q0 (Je (Q0 (Q2 8) (Q0 (Q2 9) (Q0 (Q2 10) (Q0 (mOp (oI λa b=>.int (a - b)) (Q2 11) (mC (.int 1))) Q5))))) Q5)) (Q0 (Z1 Q5) (Q0 (Z1 (Q0 (mOp oIx (Q2 3) (Q2 7)) (Q0 (mOp oIx (Q2 3) (Q2 7)) Q5))) (Q0 (Z1 (Q0 (Je (Q0 (Q2 8) (Q0 (Q2 10) (Q0 (Q2 9) (Q0 (Q2 11) Q5))))) Q5)) Q5)))))))
  (Qb (Qm 12 (mOp Jj (Q2 12) (Z1 (Q0 (Z1 (Q0 (Je (Q0 (mOp Jj (Q2 8) (mC (.int 1))) (Q0 (Q2 9) (Q0 (Q2 10) (Q0 (Q2 11) Q5))))) Q5)) (Q0 (Z1 (Q0 (Je (Q0 (mOp (oI λa b=>.int (a - b)) (Q2 8) (mC (.int 1))) (Q0 (Q2 9) (Q0 (Q2 10) (Q0 (Q2 11) Q5))))) Q5)) (Q0 (Z1 (Q0 (Je (Q0 (Q2 8) (Q0 (Q2 9) (Q0 (Q2 10) (Q0 (mC (.int 1)) Q5))))) (Q0 (Je (Q0 (Q2 8) (Q0 (Q2 9) (Q0 (Q2 10) (Q0 (mOp (oI λa b=>.int (a - b)) (Q2 11) (mC (.int 1))) Q5))))) Q5))) Q5))))))
  (Qm 3 (Y4 (Q1i (mOp Jj (mSl (Q2 3) Jy (W2 (Q2 7))) (mOp oIx (Q2 12) (Qd 2 Q9 (Q0 (Q2 0) (Q0 (mC (.int 8)) Q5))))) (mSl (Q2 3) (W2 (mOp Jj (Q2 7) (mC (.int 1)))) Jy)))))))) (Z5 (xg (toB (mOp oEq (Q2 5) (mC (.int 3)))) (toB (mOp oLt (Q2 5) (mC (.int 3))))) (Qb (Qm 8 (mOp (oI λa b=>.int (a - b)) (Qd 2 Q9 (Q0 (Q2 0) (Q0 (mOp Jj (Qi Z0 (Q0 (mOp oIx (Q2 1) (mC (.int 1))) Q5)) (mC (.int 2))) Q5))) (mC (.int 1))))
  (Yx (mBM Jb (Q2 3) (Q0 (Je (Q0 (Q2 8) (Q0 (Qd 2 Q9 (Q0 (Q2 0) (Q0 (Q2 6) Q5))) (Q0 (Qd 2 Q9 (Q0 (Q2 0) (Q0 (Q2 6) Q5))) (Q0 (Qd 2 Q9 (Q0 (Q2 0) (Q0 (mC (.int 3)) Q5))) Q5))))) Q5)))) (Z5 (Uf (toB (mOp oLt (Q2 5) (mC (.int 7)))) (toB (mOp oNe (Q2 4) (Z1 Q5)))) (Qb (Qm 7 (Qd 2 Q9 (Q0 (Q2 0) (Q0 (Qi Z0 (Q0 (Q2 4) Q5)) Q5))))
  (U5 (Q2 4) (Q2 7) (mOp Jj (mOp oIx (Q2 4) (Q2 7)) (mOp oIx (Z1 (Q0 (mC (.int 1)) (Q0 (Q8t (mC (.int 1))) (Q0 (mC (.int 2)) (Q0 (Q8t (mC (.int 3))) Q5))))) (Qd 2 Q9 (Q0 (Q2 0) (Q0 (mC (.int 4)) Q5))))))) (Qb (Qm 4 (mOp oIx (Z1 (Q0 (mOp Jj (Q2 4) (Z1 (Q0 (mC (.int 0)) Q5))) (Q0 (mSl (Q2 4) (W2 (mC (.int 1))) Jy) (Q0 (Q2 4) Q5)))) (Qd 2 Q9 (Q0 (Q2 0) (Q0 (mC (.int 3)) Q5)))))
  (Yx (mBM X4 (Q2 3) Q5))))))
  (J9 (Je (Q0 (Q2 3) (Q0 (Q2 4) Q5)))))))))
def X2:FN:=Xs Q05 13
theorem sc__law_abent:FnScope ["tape", "question", "plan", "moves", "served", "way", "size", "k", "turn", "i", "j", "many", "some"] ["tape", "question", "plan"] (Qe qa):=⟨rfl,rfl,rfl,by decide +kernel,rfl,by decide +kernel,by decide +kernel⟩
theorem Q4t(F:Fun K "_law_abent" "_law_abent" qa f fd)(T:Txt mg)(B:DefS P w K mg base 1 "_law_adigit" 2 Q9):FnOk P w K mg base (CXD P w) 2 f fd ["tape", "question", "plan"] (spF mg 3 X2):=by
 refine Q98 (k:=1) (m:=Q05) F sc__law_abent rfl rfl rfl λJ A outer s H E I=>?_
 exact(Zh (Wi 3 sc__law_abent.nd (Q2y (Q6i (Xn (Qf 2) Jd) rfl T.b_list)))
  (Zh (Wi 4 sc__law_abent.nd (Q2y (Q6i (Xn (Qf 2) Jd) rfl T.b_list)))
  (Zh (Wi 5 sc__law_abent.nd (Y5 B (I.mono (by decide)) Zj rfl (Qa (Qf 0) (Qa Jd Qu))))
  (Zh (Wi 6 sc__law_abent.nd (Kf Q46 rfl T.b_len dU (Qa (Xn (Qf 1) Jd) Qu)))
  (Zh (Qbs (SimW.t (Q9w (j3 (Qca I.units) (Qf 5) Jd) (Q6e (j3 (Qc9 I.units) (Qf 3) (Wj Qu))))) (Zh (Wi 7 sc__law_abent.nd (Y5 B (I.mono (by decide)) Zj rfl (Qa (Qf 0) (Qa (Kf Q46 rfl T.b_len dU (Qa (Qf 3) Qu)) Qu))))
  (Zh (Qg0 (Xn (Qf 3) (Qf 7)) (Qg4 rfl (j5 (Ub (i:=8) sc__law_abent.nd) (j5 (Ub (i:=9) sc__law_abent.nd) (j5 (Ub (i:=10) sc__law_abent.nd) (j5 (Ub (i:=11) sc__law_abent.nd) Qbv))))))
  (Zh (Wi 12 sc__law_abent.nd (Wj (Qa (Wj (Qa (Xa (Qa (Qf 8) (Qa (Qf 9) (Qa (Qf 10) (Qa (Ke qb (Qf 11) Jd) Qu))))) Qu)) (Qa (Wj (Qa (Xa (Qa (Qf 8) (Qa (Qf 9) (Qa (Qf 10) (Qa (Ke Q3a (Qf 11) Jd) Qu))))) Qu)) (Qa (Wj Qu) (Qa (Wj (Qa (Xn (Qf 3) (Qf 7)) (Qa (Xn (Qf 3) (Qf 7)) Qu))) (Qa (Wj (Qa (Xa (Qa (Qf 8) (Qa (Qf 10) (Qa (Qf 9) (Qa (Qf 11) Qu))))) Qu)) Qu)))))))
  (Zh (Wi 12 sc__law_abent.nd (Ke qb (Qf 12) (Wj (Qa (Wj (Qa (Xa (Qa (Ke qb (Qf 8) Jd) (Qa (Qf 9) (Qa (Qf 10) (Qa (Qf 11) Qu))))) Qu)) (Qa (Wj (Qa (Xa (Qa (Ke Q3a (Qf 8) Jd) (Qa (Qf 9) (Qa (Qf 10) (Qa (Qf 11) Qu))))) Qu)) (Qa (Wj (Qa (Xa (Qa (Qf 8) (Qa (Qf 9) (Qa (Qf 10) (Qa Jd Qu))))) (Qa (Xa (Qa (Qf 8) (Qa (Qf 9) (Qa (Qf 10) (Qa (Ke Q3a (Qf 11) Jd) Qu))))) Qu))) Qu))))))
  (Ku (Wi 3 sc__law_abent.nd (Q2y (Qg3 (Ke qb (xq (Qf 3) Q20 (Q1z (Qf 7))) (Xn (Qf 12) (Y5 B (I.mono (by decide)) Zj rfl (Qa (Qf 0) (Qa Jd Qu))))) (xq (Qf 3) (Q1z (Ke qb (Qf 7) Jd)) Q20))))))))) (Ku (Qbs (SimW.t (Qns (j3 (Qnz I.units) (Qf 5) Jd) (Qfq (j3 (Qca I.units) (Qf 5) Jd)))) (Zh (Wi 8 sc__law_abent.nd (Ke Q3a (Y5 B (I.mono (by decide)) Zj rfl (Qa (Qf 0) (Qa (Ke qb (Kf Q46 rfl T.b_len dU (Qa (Xn (Qf 1) Jd) Qu)) Jd) Qu))) Jd))
  (Ku (Q6g (Q55 (Qf 3) (Qa (Xa (Qa (Qf 8) (Qa (Y5 B (I.mono (by decide)) Zj rfl (Qa (Qf 0) (Qa (Qf 6) Qu))) (Qa (Y5 B (I.mono (by decide)) Zj rfl (Qa (Qf 0) (Qa (Qf 6) Qu))) (Qa (Y5 B (I.mono (by decide)) Zj rfl (Qa (Qf 0) (Qa Jd Qu))) Qu))))) Qu))))) (Ku (Qbs (SimW.t (Q9w (j3 (Qca I.units) (Qf 5) Jd) (Q6e (j3 (Qc9 I.units) (Qf 4) (Wj Qu))))) (Zh (Wi 7 sc__law_abent.nd (Y5 B (I.mono (by decide)) Zj rfl (Qa (Qf 0) (Qa (Kf Q46 rfl T.b_len dU (Qa (Qf 4) Qu)) Qu))))
  (Ku (Qfx (Ke qb (Xn (Qf 4) (Qf 7)) (Xn (Wj (Qa Jd (Qa (Qa2 Jd) (Qa Jd (Qa (Qa2 Jd) Qu))))) (Y5 B (I.mono (by decide)) Zj rfl (Qa (Qf 0) (Qa Jd Qu))))) (Qf 4) (Qf 7)))) (Zh (Wi 4 sc__law_abent.nd (Xn (Wj (Qa (Ke qb (Qf 4) (Wj (Qa Jd Qu))) (Qa (xq (Qf 4) (Q1z Jd) Q20) (Qa (Qf 4) Qu)))) (Y5 B (I.mono (by decide)) Zj rfl (Qa (Qf 0) (Qa Jd Qu)))))
  (Ku (Q6g (Qg9 fK PySem.F.slot_list_reverse PySem.F.type_list_reverse Q3k (Qf 3))))))))))
  (Ku (Q9x (Xa (Qa (Qf 3) (Qa (Qf 4) Qu))))))))))
def Q2f : MS := (Qb (Qm 7 (Q2 5))
  (Qb (Z5 (toB (mOp (oI λa b=>.bl (decide (b < a))) (Q2 6) (mC (.int 0)))) (Qm 7 (Qd 3 X2 (Q0 (Q2 2) (Q0 (Q2 3) (Q0 (Q2 5) Q5))))) Jf)
  (Qb (Qm 8 (Je (Q0 (Qi Xi (Q0 (mOp oIx (Q2 7) (mC (.int 0))) Q5)) (Q0 (Qi Xi (Q0 (mOp oIx (Q2 7) (mC (.int 1))) Q5)) Q5))))
  (Qb (Qm 9 (Qd 2 X8 (Q0 (Q2 3) (Q0 (Q2 8) Q5))))
  (Qb (Z5 (xg (V7 (toB (Q4v "bool" (Q2 9)))) (toB (mOp Qea (Q2 8) (Je (Q0 (mOp oIx (Q2 7) (mC (.int 0))) (Q0 (mOp oIx (Q2 7) (mC (.int 1))) Q5)))))) (J9 (mC (.bl zb))) Jf)
  (Z5 (toB (mOp oNe (Q2 9) (Qd 3 Jc (Q0 (Q2 3) (Q0 (mOp oIx (Q2 7) (mC (.int 0))) (Q0 (mOp oIx (Q2 7) (mC (.int 1))) Q5)))))) (J9 (mC (.bl zb))) Jf))))))
def Q2g:MS:=(Yu (Q4 6) (Z2 (Q0 (mC (.int 4)) Q5)) Q2f)
def Q2h : MS := (Qb (Qm 2 (Qd 2 Zw (Q0 (Q2 0) (Q0 (Q2 1) Q5))))
  (Qb (Qm 3 (Qd 2 Z7 (Q0 (Q2 2) (Q0 (mC (.int 4)) Q5))))
  (Qb (Qm 4 (mOp oIx (Qd 1 Q4g (Q0 (Q2 3) Q5)) (mC (.int 1))))
  (Yu (Q4 5) (Yz (Z1 (Q0 (Q2 4) (Q0 (Qd 2 Zc (Q0 (Qd 2 Zw (Q0 (Q2 0) (Q0 (mOp Jj (Q2 1) (mC (.int 1))) Q5))) (Q0 (Q2 3) Q5))) Q5)))) Q2g))))
def Qcf : MS := (Qb (Yu (Q4 1) (Q06 (Q0 (mC (.int 0)) (Q0 (Qi Qf4 (Q0 (mC (.int 1)) (Q0 (Qi jt (Q0 (mC (.int 12)) (Q0 (Qi Z0 (Q0 (Q2 0) Q5)) Q5))) Q5))) (Q0 (mC (.int 2)) Q5)))) Q2h)
  (J9 (mC (.bl zi))))
def Qd8:FN:=Qr Qcf 10
theorem Qrr(F:Fun K "law" "law" xr f fd)(T:Txt mg)(O:DefS P w K mg base 2 "_law_atape" 2 Zw)(J:DefS P w K mg base 3 "_law_aquestion" 2 Z7)(Z:DefS P w K mg base 9 "best" 1 Q4g)(B:DefS P w K mg base 2 "_law_adrawn_plan" 2 Zc)(U:DefS P w K mg base 2 "_law_abent" 3 X2)(Y:DefS P w K mg base 9 "is_plan" 2 X8)(I:DefS P w K mg base 1 "_law_aplan_holds" 3 Jc):FnOk P w K mg base (CXD P w) 10 f fd ["script"] (spF mg 1 Qd8):=by
 have:FnScope ["script", "start", "tape", "question", "told", "plan", "turn", "some", "handed", "found"] ["script"] (Qe xr):=by fail "c"
 delta Qd8 Qcf Q2h Q2g Q2f
 fail "k"
end
theorem Q7a(a:Int){b:Int}(h:0 < b):0<=a % b/\a % b < b:=⟨Int.emod_nonneg a (by omega),Int.emod_lt_of_pos a h⟩
theorem Qbd(xs:List α)(p:α->Bool):(xs.map p).all id=xs.all p:=by
 rw[cA];rfl
theorem Qyr(x:Int)(h:1<=n):∃ k:Nat,k < n/\x % (n:Int)=(k:Int):=by
 have:=Q7a x (b:=(n:Int)) (by omega);exact⟨(x % (n:Int)).toNat,by omega,by omega⟩
theorem Qb3{st':Q1}(h:st'.length=st.length)(d:Int):fin st (.int d) st'=.ok (.int d) st':=by
 unfold fin
 by_cases q:st <+: st'
 ·rw[bO q];have:st=st':=q.eq_of_length h.symm;rw[<- this,fz];rfl
 ·rw[bP q]
structure Mv(L:Nat)(S S':Q1):Prop where
 len:S'.length=S.length
 keep:∀ t,t≠L->S'[t]?=S[t]?
theorem Mv.refl(L:Nat)(S:Q1):Mv L S S:=⟨rfl,λ_ _=>rfl⟩
theorem Mv.trans(a:Mv L S S1)(b:Mv L S1 S2):Mv L S S2:=⟨b.len.trans a.len,λt B=>(b.keep t B).trans (a.keep t B)⟩
def Tp(S:Q1)(L:Nat):Prop:=∃ c:Int,S[L]?=zo (.lst [.int c])
theorem Tp.lt(h:Tp S L):L < S.length:=let ⟨_,e⟩:=h;(O1.mp e).1
theorem Tp.of{B:Q1}(h:Tp S L)(e:B[L]?=S[L]?):Tp B L:=let ⟨c,q⟩:=h;⟨c,by rw[e];exact q⟩
theorem Zf(T:Tp S L)(m:Nat)(h1:1<=m)(hm:m < 1000000000):∃ (d:Nat) (U:Q1),d < m/\Tp U L/\Mv L S U/\Q9 [.ref L,.int m] S=.ok (.int d) U:=by
 obtain⟨c,O⟩:=T;have hL:=(O1.mp O).1;have Z:ListAt S (.ref L) [.int c]:=.inr (.inr ⟨L,rfl,O⟩);have i0:oIx S (.ref L) (.int 0)=.ok (.int c) S:=by rw[Z.ix];rfl
 obtain⟨d,hd,ed⟩:=Qyr c h1;have Y:Wh S (.ref L) (.int 0) (.int (c / (m:Int)))=zo (S.set L (.lst [.int (c / (m:Int))])):=by
  unfold Wh;simp only[O];rfl
 obtain⟨S1,B⟩:∃ S1,S.set L (.lst [.int (c / (m:Int))])=S1:=⟨_,rfl⟩;rw[B]at Y;have M:Mv L S S1:=⟨by rw[<- B,E9],λt ht=>by rw[<- B,O8 (λu=>ht u.symm)]⟩;refine⟨d,S1,hd,⟨_,by rw[<- B,D5 hL]⟩,M,?_⟩;have I:0 < m:=h1;have J:(m:Int) < 1073741824:=by omega
 have step:Ws [zo (.ref L),zo (.int m),zl] S=.rt (.int d) S1:=by
  simp![Ws,i0,I,J,ed,Y,-Q3g,-Kt]
 show Qr Ws 3 _ S=_;unfold Qr;rw[show(([PV.ref L,.int m]:List PV).map zo ++ bV (3 - [PV.ref L,.int m].length) zl)=[zo (.ref L),zo (.int m),zl]from rfl,step];exact Qb3 M.len d
theorem Qb2(T:Tp S L)(few:Nat)(h1:1<=few)(h2:few<=100):∃ (v:Int) (B:Q1),(1<=v/\v<=1000000)/\Tp B L/\Mv L S B/\We [.ref L,.int few] S=.ok (.int v) B:=by
 obtain⟨d,S1,hd,O,M1,e1⟩:=Zf T 8 (by decide) (by decide);rw[show((8:Nat):Int)=8 from rfl]at e1
 by_cases q:d=7
 ·obtain⟨x,S2,U,I,M2,e2⟩:=Zf O 9 (by decide) (by decide);rw[show((9:Nat):Int)=9 from rfl]at e2;have J:(d:Int)=7:=by omega
  have M:=M1.trans M2;refine⟨1000000 - (x:Int),S2,by omega,I,M,?_⟩;have step:Yg [zo (.ref L),zo (.int few)] S=.rt (.int (1000000 - (x:Int))) S2:=by
   simp![Yg,e1,J,e2]
  show Qr Yg 2 _ S=_;unfold Qr;rw[show(([PV.ref L,.int few]:List PV).map zo ++ bV (2 - [PV.ref L,.int few].length) zl)=[zo (.ref L),zo (.int few)]from rfl,step];exact Qb3 M.len _
 ·obtain⟨x,S2,U,I,M2,e2⟩:=Zf O few h1 (by omega);have J:¬ (d:Int)=7:=by omega
  have M:=M1.trans M2;refine⟨1 + (x:Int),S2,by omega,I,M,?_⟩;have step:Yg [zo (.ref L),zo (.int few)] S=.rt (.int (1 + (x:Int))) S2:=by
   simp![Yg,e1,q,J,e2]
  show Qr Yg 2 _ S=_;unfold Qr;rw[show(([PV.ref L,.int few]:List PV).map zo ++ bV (2 - [PV.ref L,.int few].length) zl)=[zo (.ref L),zo (.int few)]from rfl,step];exact Qb3 M.len _
theorem Q9j(ns:List Int)(k:Nat)(S:Q1):∃ c:Int,Zw [.fro (ns.map .int),.int k] S=.ok (.ref S.length) (S ++ [.lst [.int c]]):=by
 obtain⟨c,Z⟩:∃ c:Int,Yr [.fro (ns.map .int),.int k] S=.ok (.int c) S:=by
  by_cases q:k < ns.length
  ·have e:atI (ns.map PV.int) (k:Int)=zo (.int (ns.getD k 0)):=by rw[Q7g,Sm.atI_get (Q19 q 0)];rfl
   have Y:(ns.map PV.int).length=ns.length:=O0 _;refine⟨ns.getD k 0,?_⟩;generalize ns.getD k 0=x,ns.length=nl,ns.map PV.int=I at*;simp![Yr,Qr,Uz,Y,q,e]
  ·have Y:(ns.map PV.int).length=ns.length:=O0 _;have q':¬ (k:Int) < (ns.length:Int):=by omega
   refine⟨0,?_⟩;generalize ns.length=nl,ns.map PV.int=I at*;simp![Yr,Qr,Uz,Y,q,q']
 by_cases q:c % 2=0
 ·refine⟨c / 2,?_⟩;generalize ns.map PV.int=I at*;simp![Zw,Xs,Uy,Z,q,Jr]
 ·obtain⟨O,B⟩:∃ O:Int,(c % 2305843009213693951 * 48271 + 69621 * k + 11) % 2305843009213693951=O:=⟨_,rfl⟩;have U:=Q7a (c % 2305843009213693951 * 48271 + 69621 * k + 11) (b:=2305843009213693951) (by decide);rw[B]at U;obtain⟨a1,S1,e,x,y,z,rfl,rfl,_⟩:=W6 (g:=λk:Nat=>PV.int (k:Int)) (xs:=bT 5) (ga:=Q4 6) (body:=Vi) (w:=[]) (Γ:=[zo (.fro (ns.map .int)),zo (.int k),zo (.int c),zo (.int 2305843009213693951),zo (.int 0),zo (.int O),zl]) (st:=S)
   (λ_ Γ st'=>∃ (x y:Int) (z:Option PV),Γ=[zo (.fro (ns.map .int)),zo (.int k),zo (.int c),zo (.int 2305843009213693951),zo (.int x),zo (.int y),z]/\st'=S/\0<=y/\y < 2305843009213693951)
   (λ_ _ _ _=>by simp)
   (λi t Γ st' hx ⟨x,y,z,e1,e2,y1,y2⟩=>by
    subst e1;subst e2;obtain⟨w,hw⟩:∃ w:Int,(y * y + 40692 * k + t) % 2305843009213693951=w:=⟨_,rfl⟩;have J:=Q7a (y * y + 40692 * k + t) (b:=2305843009213693951) (by decide);rw[hw]at J;have yb:-18446744073709551616 < y/\y < 18446744073709551616:=by omega
    refine⟨_,rfl,[zo (.fro (ns.map .int)),zo (.int k),zo (.int c),zo (.int 2305843009213693951),zo (.int (x * 2305843009213693951 + y)),zo (.int w),zo (.int t)],st',?_,_,_,_,rfl,rfl,J.1,J.2⟩;generalize ns.map PV.int=I at*;simp![Vi,yb,hw])
   ⟨_,_,_,rfl,rfl,U.1,U.2⟩
  rw[<- Vc]at e;refine⟨x,?_⟩;generalize ns.map PV.int=I at*;simp![Zw,Xs,Uy,Z,q,Jr,B,e]
theorem Q74(i:Int)(st:Q1):U9 [.int i] st=.ok (.bl zi) st:=by
 simp[U9,Qr,yh,isI,tyN]
theorem qj(x a b:Int)(st:Q1):Qn [.int x,.int a,.int b] st=.ok (.bl (decide (a<=x) && decide (x<=b))) st:=by
 have:=Q74 x st
 by_cases q:a<=x <;> simp[Qn,Qr,qe,this,q]
theorem Qui{n:Int}{a b:PV}{u v:Bool}(O:Qn [a,.int 0,.int (n - 1)] st=.ok (.bl u) st)(J:Qn [b,.int 0,.int (n - 1)] st=.ok (.bl v) st):((u && v)=zb->Yt [.int n,.tup [a,b]] st=.ok (.bl zb) st)/\((u && v)=zi->∀ w,oNe st a b=.ok (.bl w) st->Yt [.int n,.tup [a,b]] st=.ok (.bl w) st):=by
 have I:Z3 (Q4 0) Js V8 [] (Y1 [zl,zo 0] [zo (.int n),zo (.tup [a,b])]) [a,b] st=.ok [.bl u,.bl v] st:=by
  have:=Jn (ga:=Q4 0) (me:=V8) (w:=[]) (Γ0:=Y1 [zl,zo 0] [zo (.int n),zo (.tup [a,b])]) (st:=st) (λz:PV × Bool=>z.1) (λz=>PV.bl z.2) (by simp) (ys:=[(a,u),(b,v)]) (λz hz=>⟨_,rfl,by
   rcases E2.mp hz with rfl | hz
   ·simp[Y1,V8,O]
   ·rw[bw.mp hz];simp[Y1,V8,J]⟩)
  exact this
 have B:qw (λns=>.bl (ns.all id)) st [.lst [.bl u,.bl v]]=.ok (.bl (u && v)) st:=by cases u <;> cases v <;> rfl
 refine⟨λq=>?_,λq w U=>?_⟩
 ·rw[q]at B;simp![Yt,Qr,z8,isI,tyN,I,B,Jr]
 ·rw[q]at B;simp![Yt,Qr,z8,isI,tyN,I,B,Jr,atI,ixN,U]
def rdV(r:Nat × Nat):PV:=.tup [.int r.1,.int r.2]
def Qwv(n:Nat)(r:Nat × Nat):Prop:=r.1 < n/\r.2 < n/\r.1≠r.2
theorem Qkd{r:Nat × Nat}(h:Qwv n r)(st:Q1):Yt [.int n,rdV r] st=.ok (.bl zi) st:=by
 obtain⟨h1,h2,I⟩:=h;have B:¬ ((r.1:Int)=r.2):=by omega
 refine(Qui (qj _ _ _ st) (qj _ _ _ st)).2 ?_ zi ?_
 ·simp;omega
 ·simp[B]
def lx(a b:Nat × Nat):Bool:=HT.lexLt [(a.1:Int),a.2] [(b.1:Int),b.2]
def LxP(a b:Nat × Nat):Prop:=a.1 < b.1\/(a.1=b.1/\a.2 < b.2)
theorem Qvx(a b:Nat × Nat)(st:Q1):oLt st (rdV a) (rdV b)=.ok (.bl (lx a b)) st:=rfl
def Q1f(rs:List (Nat × Nat)):Bool:=(rs.zip (rs.drop 1)).all λz=>lx z.1 z.2
theorem Qs3(a b:Nat × Nat):lx a b=zi <-> LxP a b:=by
 unfold lx LxP;rw[HT.lexLt_cons,HT.lexLt_cons,HT.lexLt_nil_nil]
 by_cases h1:(a.1:Int)=b.1
 ·rw[bO h1]
  by_cases h2:(a.2:Int)=b.2
  ·rw[bO h2];constructor
   ·intro z;cases z
   ·intro z;omega
  ·rw[bP h2,decide_eq_true_iff];omega
 ·rw[bP h1,decide_eq_true_iff];omega
theorem Qdu(x y:Nat × Nat)(t:List (Nat × Nat)):Q1f (x :: y :: t)=(lx x y && Q1f (y :: t)):=rfl
theorem Qbz:∀ {rs:List (Nat × Nat)},rs.Pairwise LxP->Q1f rs=zi
 | [],_=>rfl
 | [_],_=>rfl
 | x :: y :: t,h=>by
  rw[Qdu,Qbz (cF.mp h).2,(Qs3 x y).mpr ((cF.mp h).1 y (by simp))];rfl
theorem X3(xs:List PV)(a b:Int)(st:Q1):Qh [.tup xs,.int a,.int b] st=.ok (.bl (decide (a<=(xs.length:Int)) && decide ((xs.length:Int)<=b))) st:=by
 by_cases q:a<=(xs.length:Int) <;> simp![Qh,Qr,U0,isI,tyN,q]
theorem Qft(h1:1<=zs.length)(U:zs.length<=6)(h:∀ z∈zs,Qn [z.1,.int 0,.int 1000000] st=.ok (.bl z.2) st):Wd [.tup (zs.map bU)] st=.ok (.bl ((zs.map bi).all id)) st:=by
 have hs:=X3 (zs.map bU) 1 6 st;rw[O0]at hs;have J:(decide ((1:Int)<=zs.length) && decide ((zs.length:Int)<=6))=zi:=by simp;omega
 rw[J]at hs;have O:Z3 (Q4 0) Js X0 [] (Y1 [zl] [zo (.tup (zs.map bU))]) (zs.map bU) st=.ok ((zs.map bi).map .bl) st:=by
  rw[F3];refine Jn _ _ (by simp) λz hz=>⟨_,rfl,?_⟩
  have:=h z hz;show _=Res.ok (PV.bl z.2) st;generalize zs.map bU=I at*;simp[Y1,X0,this]
 have B:(zs.map bU).length<=1000000:=by rw[O0];omega
 generalize zs.map bU=I,zs.map bi=bs at*;simp![Wd,Qr,yi,hs,B,Jr,O]
theorem Qyd{a b c:PV}{u w:Bool}(h1:Yt [.int n,.tup [a,b]] st=.ok (.bl u) st)(h2:Qn [c,.int 1,.int 1000000] st=.ok (.bl w) st):J5 [.int n,.tup [a,b,c]] st=.ok (.bl (u && w)) st:=by
 have hs:=X3 [a,b,c] 3 3 st;have hs:Qh [.tup [a,b,c],.int 3,.int 3] st=.ok (.bl zi) st:=hs;have B:cut [a,b,c] zl (zo 2)=[a,b]:=Q1e [a,b,c] 2;cases u
 ·simp![J5,Qr,Y6,hs,B,h1]
 ·simp![J5,Qr,Y6,hs,B,h1,atI,ixN,h2]
abbrev Tr:=(Nat × Nat) × Int
variable{ts ks:List Tr}{rs:List (List Tr)}
def trV(t:Tr):PV:=.tup [.int t.1.1,.int t.1.2,.int t.2]
def Qbf(n:Nat)(t:Tr):Prop:=Qwv n t.1/\1<=t.2/\t.2<=1000000
theorem Qqf{t:Tr}(h:Qbf n t)(st:Q1):J5 [.int n,trV t] st=.ok (.bl zi) st:=by
 have h1:=Qkd h.1 st;have h2:=qj t.2 1 1000000 st;have B:(decide ((1:Int)<=t.2) && decide (t.2<=1000000))=zi:=by have:=h.2;simp;omega
 rw[B]at h2;exact Qyd h1 h2
theorem Qgc(rs:List (Nat × Nat))(hl:rs.length<=1000)(st:Q1):Va [.lst (rs.map rdV)] st=.ok (.bl (Q1f rs)) st:=by
 have B:cut (rs.map rdV) (zo 1) zl=(rs.drop 1).map rdV:=by
  rw[Qn7];exact congrArg _ (Q9d rs 1)
 have J:Z3 (Qv (Q6 (Q4 0) (Q6 (Q4 1) Qw))) Js Ud [] (Y1 [zl,zl] [zo (.lst (rs.map rdV))]) ((rs.zip (rs.drop 1)).map λz=>.tup [rdV z.1,rdV z.2]) st=.ok (((rs.zip (rs.drop 1)).map λz=>lx z.1 z.2).map .bl) st:=by
  rw[F3];refine Jn _ _ (by simp) λz hz=>⟨_,rfl,?_⟩
  have:=Qvx z.1 z.2 st;show _=Res.ok (PV.bl (lx z.1 z.2)) st;generalize rdV z.1=Z,rdV z.2=U at*;simp[Y1,Ud,this]
 have O:Q1f rs=((rs.zip (rs.drop 1)).map λz=>lx z.1 z.2).all id:=by unfold Q1f;rw[cA];rfl
 have I:(rs.map rdV).length<=1000000:=by rw[O0];omega
 rw[O];rw[<- Qfc]at J;generalize ((rs.zip (rs.drop 1)).map λz=>lx z.1 z.2)=bs at*
 generalize (rs.drop 1).map rdV=ds,rs.map rdV=Y at*;simp![Va,Qr,je,B,I,Jr,J]
theorem Qrq(h:∀ t∈ts,Qbf n t)(hl:ts.length<=900)(st:Q1):Qt [.int n,.tup (ts.map trV)] st=.ok (.bl (Q1f (ts.map bU))) st:=by
 have hc:Z3 (Q4 0) Js Jm [] (Y1 [zl,zo 0] [zo (.int n),zo (.tup (ts.map trV))]) (ts.map trV) st=.ok ((ts.map λ_=>zi).map .bl) st:=by
  rw[F3];refine Jn _ _ (by simp) λt U=>⟨_,rfl,?_⟩
  have:=Qqf (h t U) st;show _=Res.ok (PV.bl zi) st;generalize ts.map trV=O,trV t=x at*;simp[Y1,Jm,this]
 have I:Z3 (Q4 0) Js Jk [] (Y1 [zl] [zo (.int n),zo (.tup (ts.map trV))]) (ts.map trV) st=.ok ((ts.map bU).map rdV) st:=by
  rw[F3];refine Jn _ _ (by simp) λt U=>⟨_,rfl,?_⟩
  have B:cut [PV.int t.1.1,.int t.1.2,.int t.2] zl (zo 2)=[.int t.1.1,.int t.1.2]:=Q1e [PV.int t.1.1,.int t.1.2,.int t.2] 2;show _=Res.ok (PV.tup [.int t.1.1,.int t.1.2]) st;generalize ts.map trV=O at*;unfold trV;simp[Y1,Jk,B]
 have Y:(ts.map λ_=>zi).all id=zi:=by rw[cA,G8];intro r _;rfl
 have Z:=Qgc (ts.map bU) (by rw[O0];omega) st;have J:(ts.map trV).length<=1000000:=by rw[O0];omega
 generalize Q1f (ts.map bU)=b,(ts.map bU).map rdV=pv,(ts.map λ_=>zi)=bs,ts.map trV=O at*;simp![Qt,Qr,Zz,isI,tyN,J,Jr,hc,Y,I,Z]
theorem Qky(U:zs.length<=10)(h:∀ z∈zs,Qt [.int n,z.1] st=.ok (.bl z.2) st):J6 [.int n,.tup (zs.map bU)] st=.ok (.bl ((zs.map bi).all id)) st:=by
 have hs:=X3 (zs.map bU) 0 10 st;rw[O0]at hs;have J:(decide ((0:Int)<=zs.length) && decide ((zs.length:Int)<=10))=zi:=by simp;omega
 rw[J]at hs;have O:Z3 (Q4 0) Js Zd [] (Y1 [zl,zo 0] [zo (.int n),zo (.tup (zs.map bU))]) (zs.map bU) st=.ok ((zs.map bi).map .bl) st:=by
  rw[F3];refine Jn _ _ (by simp) λz hz=>⟨_,rfl,?_⟩
  have:=h z hz;show _=Res.ok (PV.bl z.2) st;generalize zs.map bU=I at*;simp[Y1,Zd,this]
 have B:(zs.map bU).length<=1000000:=by rw[O0];omega
 generalize zs.map bU=I,zs.map bi=bs at*;simp![J6,Qr,Wp,hs,B,Jr,O]
theorem Qjy{r:Nat}{a b c:PV}{u v w:Bool}(h1:Qn [b,.int 0,.int ((n:Int) - 1)] st=.ok (.bl u) st)(h2:Qn [a,.int 0,.int r] st=.ok (.bl v) st)(B:Qn [c,.int 1,.int 1000000] st=.ok (.bl w) st):Yh [.int n,.int r,.tup [a,b,c]] st=.ok (.bl (u && v && w)) st:=by
 have hs:Qh [.tup [a,b,c],.int 3,.int 3] st=.ok (.bl zi) st:=X3 [a,b,c] 3 3 st;have J:Ua [.int n,.int r,b,a] st=.ok (.bl (u && v)) st:=by
  cases u <;> simp![Ua,Qr,yj,h1,h2]
 generalize (u && v)=I at*;cases I <;> simp![Yh,Qr,jd,hs,atI,ixN,J,B]
theorem Q9t{r:Nat}(U:zs.length<=20)(h:∀ z∈zs,Yh [.int n,.int r,z.1] st=.ok (.bl z.2) st):Z4 [.int n,.int r,.tup (zs.map bU)] st=.ok (.bl ((zs.map bi).all id)) st:=by
 have hs:=X3 (zs.map bU) 0 20 st;rw[O0]at hs;have J:(decide ((0:Int)<=zs.length) && decide ((zs.length:Int)<=20))=zi:=by simp;omega
 rw[J]at hs;have O:Z3 (Q4 0) Js Wx [] (Y1 [zl,zo 0,zo 1] [zo (.int n),zo (.int r),zo (.tup (zs.map bU))]) (zs.map bU) st=.ok ((zs.map bi).map .bl) st:=by
  rw[F3];refine Jn _ _ (by simp) λz hz=>⟨_,rfl,?_⟩
  have:=h z hz;show _=Res.ok (PV.bl z.2) st;generalize zs.map bU=I at*;simp[Y1,Wx,this]
 have B:(zs.map bU).length<=1000000:=by rw[O0];omega
 generalize zs.map bU=I,zs.map bi=bs at*;simp![Z4,Qr,K2,hs,B,Jr,O]
theorem Qqj{xs ys:List PV}{C:PV}(h:Wd [.tup xs] st=.ok (.bl zi) st)(h2:J6 [.int xs.length,.tup ys] st=.ok (.bl zi) st)(B:Z4 [.int xs.length,.int ys.length,C] st=.ok (.bl b) st):Y3 [.tup [.tup xs,.tup ys,C]] st=.ok (.bl b) st:=by
 have hs:Qh [.tup [.tup xs,.tup ys,C],.int 3,.int 3] st=.ok (.bl zi) st:=X3 [.tup xs,.tup ys,C] 3 3 st;simp![Y3,Qr,K1,hs,atI,ixN,h,h2,B]
structure Mv2(L M:Nat)(S S':Q1):Prop where
 len:S'.length=S.length
 keep:∀ t,t≠L->t≠M->S'[t]?=S[t]?
abbrev qΓ(L n:Nat)(st:PV)(r:Nat)(often:Int)(R:Nat)(a7 a8 a9 a10 a11 a12:Option PV):Gam:=[zo (.ref L),zo (.int 4),zo (.int n),zo st,zo (.int r),zo (.int often),zo (.ref R),a7,a8,a9,a10,a11,a12]
theorem Qt2 (T:Tp S L) (J:L≠M) {i j:Nat} (hi:i < n) (hj:j < n) (hl:ts.length<=500) (hM:S[M]?=zo (.lst (ts.map trV))) (V:PV) (r:Nat) (B:Int) (R:Nat) (a7 U Z:Option PV) :
  ∃ (I:List Tr) (S':Q1),(I=ts\/∃ v,I=ts ++ [((i,j),v)]/\i≠j/\1<=v/\v<=1000000)/\Tp S' L/\S'[M]?=zo (.lst (I.map trV))/\Mv2 L M S S'/\Jh (qΓ L n V r B R a7 (zo (.ref M)) (zo (.int i)) (zo (.int j)) U Z) S=.nx (qΓ L n V r B R a7 (zo (.ref M)) (zo (.int i)) (zo (.int j)) U Z) S':=by
 by_cases q:i=j
 ·refine⟨ts,S,.inl rfl,T,hM,⟨rfl,λ_ _ _=>rfl⟩,?_⟩;unfold qΓ;simp![Jh,q]
 ·have q':¬ ((i:Int)=j):=by omega
  obtain⟨d,S1,hd,T1,M1,e1⟩:=Zf T 4 (by decide) (by decide);rw[show((4:Nat):Int)=4 from rfl]at e1;have O:S1[M]?=zo (.lst (ts.map trV)):=by rw[M1.keep M (λz=>J z.symm)];exact hM
  by_cases q2:(d:Int) < B
  ·obtain⟨v,S2,hv,T2,M2,e2⟩:=Qb2 T1 5 (by decide) (by decide);rw[show((5:Nat):Int)=5 from rfl]at e2;have Y:S2[M]?=zo (.lst (ts.map trV)):=by rw[M2.keep M (λz=>J z.symm)];exact O
   have a4:M < S2.length:=(O1.mp Y).1;refine⟨ts ++ [((i,j),v)],S2.set M (.lst ((ts ++ [((i,j),v)]).map trV)),.inr ⟨v,rfl,q,hv⟩,T2.of (by rw[O8 (λz=>J z.symm)]),by rw[D5 a4],⟨by rw[E9,M2.len,M1.len],λt h1 h2=>by rw[O8 (λz=>h2 z.symm),M2.keep t h1,M1.keep t h1]⟩,?_⟩;have a2:(ts ++ [((i,j),v)]).map trV=ts.map trV ++ [.tup [.int i,.int j,.int v]]:=by rw[E7];rfl
   have a1:Yk S1 (.ref M)=zo (ts.map trV):=by simp[O]
   have a3:(ts.map trV).length < 1000000:=by rw[O0];omega
   rw[a2];unfold qΓ;generalize ts.map trV=tv at*;simp![Jh,q,q',e1,q2,a1,e2,Jr,Jb,chg,Y,a3,-Q0a]
  ·refine⟨ts,S1,.inl rfl,T1,O,⟨M1.len,λt h1 _=>M1.keep t h1⟩,?_⟩;unfold qΓ;simp![Jh,q,q',e1,q2]
theorem Quh (T:Tp S L) (b0:L≠M) {i:Nat} (hn:n<=8) (hi:i < n) (a3:∀ t∈ts,Qbf n t/\t.1.1 < i) (hp:(ts.map bU).Pairwise LxP) (hl:ts.length<=100) (hM:S[M]?=zo (.lst (ts.map trV))) (V:PV) (r:Nat) (I:Int) (R:Nat) (a7 a2 U Y:Option PV) :
  ∃ (O:Option PV) (B:List Tr) (S':Q1),(∀ t∈B,Qbf n t/\t.1.1 < i + 1)/\(B.map bU).Pairwise LxP/\B.length<=ts.length + n/\Tp S' L/\S'[M]?=zo (.lst (B.map trV))/\Mv2 L M S S'/\Za (qΓ L n V r I R a7 (zo (.ref M)) (zo (.int i)) a2 U Y) S=.nx (qΓ L n V r I R a7 (zo (.ref M)) (zo (.int i)) O U Y) S':=by
 have a5:-1000000<=(n:Int)/\(n:Int)<=1000000:=by omega
 obtain⟨b1,S',e,O,B,rfl,h1,h2,h3,T',a1,m⟩:=W6 (g:=λk:Nat=>PV.int (k:Int)) (xs:=bT n) (ga:=Q4 10) (body:=Jh) (w:=[]) (Γ:=qΓ L n V r I R a7 (zo (.ref M)) (zo (.int i)) a2 U Y) (st:=S)
  (λj Γ st'=>∃ (O:Option PV) (B:List Tr),Γ=qΓ L n V r I R a7 (zo (.ref M)) (zo (.int i)) O U Y/\(∀ t∈B,Qbf n t/\(t.1.1 < i\/(t.1.1=i/\t.1.2 < j)))/\(B.map bU).Pairwise LxP/\B.length<=ts.length + j/\Tp st' L/\st'[M]?=zo (.lst (B.map trV))/\Mv2 L M S st')
  (λ_ _ _ _=>by simp)
  (λj k Γ st' hx ⟨O,B,e1,h1,h2,h3,T',a1,m⟩=>by
   subst e1;have Z:j < n:=by simpa using(O1.mp hx).1
   have a9:k=j:=by
    rw[cr Z]at hx;exact(bY hx).symm
   subst a9;obtain⟨a6,S2,hc,T2,a8,m2,e2⟩:=Qt2 T' b0 hi Z (by omega) a1 V r I R a7 U Y;refine⟨_,rfl,_,S2,e2,_,a6,rfl,?_,?_,?_,T2,a8,⟨m2.len.trans m.len,λt u1 u2=>(m2.keep t u1 u2).trans (m.keep t u1 u2)⟩⟩
   ·rcases hc with rfl | ⟨v,rfl,a4,hv⟩
    ·intro t J;have:=h1 t J;exact⟨this.1,by omega⟩
    ·intro t J;rcases D4.mp J with J | J
     ·have:=h1 t J;exact⟨this.1,by omega⟩
     ·rw[bw.mp J];exact⟨⟨⟨hi,Z,a4⟩,hv⟩,.inr ⟨rfl,by simp⟩⟩
   ·rcases hc with rfl | ⟨v,rfl,a4,hv⟩
    ·exact h2
    ·rw[E7,List.pairwise_append];refine⟨h2,by simp,λa ha b hb=>?_⟩;obtain⟨t,J,rfl⟩:=E8.mp ha;have hb:b=(i,k):=by simpa using hb
     rw[hb];exact(h1 t J).2
   ·rcases hc with rfl | ⟨v,rfl,_⟩
    ·omega
    ·rw[O5];simp;omega)
  ⟨_,ts,rfl,λt J=>⟨(a3 t J).1,.inl (a3 t J).2⟩,hp,by omega,T,hM,⟨rfl,λ_ _ _=>rfl⟩⟩
 rw[<- Vc]at e;rw[F6]at h1 h3;refine⟨O,B,S',λt J=>⟨(h1 t J).1,by have:=(h1 t J).2;omega⟩,h2,h3,T',a1,m,?_⟩
 unfold qΓ at e ⊢;simp![Za,Jr,a5,e]
structure TsOk(n:Nat)(ts:List Tr):Prop where
 ok:∀ t∈ts,Qbf n t
 inc:(ts.map bU).Pairwise LxP
 len:ts.length<=100
def tsV(ts:List Tr):PV:=.tup (ts.map trV)
theorem Qka (T:Tp S L) (b7:L < R) (hn:n<=8) (b6:rs.length<=50) (hR:S[R]?=zo (.lst (rs.map tsV))) (V:PV) (r:Nat) (B:Int) (a7 a8 a9 Y J O:Option PV) :
  ∃ b8 U I ts S',TsOk n ts/\Tp S' L/\S'[R]?=zo (.lst ((rs ++ [ts]).map tsV))/\Zb (qΓ L n V r B R a7 a8 a9 Y J O) S=.nx (qΓ L n V r B R a7 b8 U I J O) S':=by
 have a4:-1000000<=(n:Int)/\(n:Int)<=1000000:=by omega
 have b3:R < S.length:=(O1.mp hR).1;have T1:Tp (S ++ [.lst []]) L:=T.of (by rw[O3 (by omega)]);obtain⟨b4,S2,e,U,I,ts,rfl,h1,h2,h3,T2,hM,m⟩:=W6 (g:=λk:Nat=>PV.int (k:Int)) (xs:=bT n) (ga:=Q4 9) (body:=Za) (w:=[]) (Γ:=qΓ L n V r B R a7 (zo (.ref S.length)) a9 Y J O) (st:=S ++ [.lst []])
  (λi Γ st'=>∃ (U I:Option PV) (ts:List Tr),Γ=qΓ L n V r B R a7 (zo (.ref S.length)) U I J O/\(∀ t∈ts,Qbf n t/\t.1.1 < i)/\(ts.map bU).Pairwise LxP/\ts.length<=i * n/\Tp st' L/\st'[S.length]?=zo (.lst (ts.map trV))/\Mv2 L S.length (S ++ [.lst []]) st')
  (λ_ _ _ _=>by simp)
  (λi k Γ st' hx ⟨U,I,ts,g1,h1,h2,h3,T',hM,m⟩=>by
   subst g1;have a1:i < n:=by simpa using(O1.mp hx).1
   have a6:k=i:=by
    rw[cr a1]at hx;exact(bY hx).symm
   subst a6;have b0:k * n<=64:=F8 (hG (show k<=8 by omega) hn) (by decide);obtain⟨b5,a5,S3,g2,g3,g4,T3,b2,m3,e3⟩:=Quh T' (by omega) hn a1 h1 h2 (by omega) hM V r B R a7 I J O;exact⟨_,rfl,_,S3,e3,_,_,a5,rfl,g2,g3,by rw[gH];omega,T3,b2,⟨m3.len.trans m.len,λt u1 u2=>(m3.keep t u1 u2).trans (m.keep t u1 u2)⟩⟩)
  ⟨_,_,[],rfl,λt ht=>(by cases ht),dm,by simp,T1,by simp,⟨rfl,λ_ _ _=>rfl⟩⟩
 rw[<- Vc]at e;rw[F6]at h3;have b0:n * n<=64:=F8 (hG hn hn) (by decide);have a2:S2[R]?=zo (.lst (rs.map tsV)):=by rw[m.keep R (by omega) (by omega),O3 b3];exact hR
 have Z:R < S2.length:=(O1.mp a2).1;refine⟨zo (.ref S.length),U,I,ts,S2.set R (.lst ((rs ++ [ts]).map tsV)),⟨λt ht=>(h1 t ht).1,h2,by omega⟩,T2.of (by rw[O8 (by omega)]),by rw[D5 Z],?_⟩;have a3:(rs ++ [ts]).map tsV=rs.map tsV ++ [tsV ts]:=by rw[E7];rfl
 have hT:PV.tup (ts.map trV)=tsV ts:=rfl;have b1:(rs.map tsV).length < 1000000:=by rw[O0];omega
 rw[a3];unfold qΓ at e ⊢;generalize rs.map tsV=rv,ts.map trV=ov,tsV ts=o at*;simp![Zb,Jr,a4,e,a2,hM,hT,Jb,chg,b1]
def Qnk(n r:Nat)(t:Tr):Prop:=t.1.1<=r/\t.1.2 < n/\1<=t.2/\t.2<=1000000
structure Qok(xs:List Int)(rs:List (List Tr))(ks:List Tr):Prop where
 x1:1<=xs.length
 x4:xs.length<=4
 xb:∀ x∈xs,0<=x/\x<=1000000
 r4:rs.length<=4
 rb:∀ ts∈rs,TsOk xs.length ts
 k5:ks.length<=5
 kb:∀ t∈ks,Qnk xs.length rs.length t
def qV(xs:List Int)(rs:List (List Tr))(ks:List Tr):PV:=.tup [.tup (xs.map .int),.tup (rs.map tsV),.tup (ks.map trV)]
theorem Qsj(xs:List Int)(rs:List (List Tr))(ks:List Tr):J0 12 (qV xs rs ks)=zi:=by simp[J0,qV,tsV,trV]
theorem Qgk(T:Tp S L):∃ xs rs ks S',Qok xs rs ks/\Tp S' L/\Z7 [.ref L,.int 4] S=.ok (qV xs rs ks) S':=by
 obtain⟨d1,S1,d8,T1,M1,e1⟩:=Zf T 4 (by decide) (by decide);rw[show((4:Nat):Int)=4 from rfl]at e1;obtain⟨n,hn⟩:∃ n:Nat,1 + (d1:Int)=n:=⟨1 + d1,by push_cast;rfl⟩;have d6:1<=n/\n<=4:=by omega
 have a8:-1000000<=(n:Int)/\(n:Int)<=1000000:=by omega
 obtain⟨a1,S2,e2,xs,rfl,U,a9,T2,M2⟩:=Q5v (g:=λk:Nat=>PV.int (k:Int)) (xs:=bT n) (ga:=Q4 0) (me:=Yn) (w:=[]) (Γ0:=Y1 [zl,zo 0] [zo (.ref L),zo (.int 4),zo (.int n),zl,zl,zl,zl,zl,zl,zl,zl,zl,zl]) (st:=S1)
  (λi a1 st'=>∃ xs:List Int,a1=xs.map .int/\xs.length=i/\(∀ x∈xs,0<=x/\x<=1000000)/\Tp st' L/\Mv L S1 st')
  (λ_ _ _ _=>by simp)
  (λi k a1 st' J ⟨xs,g1,g2,g3,T',M'⟩=>by
   subst g1;obtain⟨v,S3,hv,T3,M3,e3⟩:=Qb2 T' 10 (by decide) (by decide);rw[show((10:Nat):Int)=10 from rfl]at e3;refine⟨_,rfl,.int (v - 1),S3,?_,xs ++ [v - 1],by rw[E7];rfl,by rw[O5,g2];rfl,λx J=>?_,T3,M'.trans M3⟩
   ·simp![Y1,Yn,e3]
   ·rcases D4.mp J with J | J
    ·exact g3 x J
    ·rw[bw.mp J];omega)
  ⟨[],rfl,rfl,λx J=>(by cases J),T1,Mv.refl L S1⟩
 rw[F6]at U;rw[<- Vc]at e2;obtain⟨r,S3,hr,T3,M3,e3⟩:=Zf T2 5 (by decide) (by decide);rw[show((5:Nat):Int)=5 from rfl]at e3;obtain⟨d4,I,d7,T4,M4,e4⟩:=Zf T3 3 (by decide) (by decide);rw[show((3:Nat):Int)=3 from rfl]at e4;have T5:Tp (I ++ [.lst []]) L:=T4.of (by rw[O3 T4.lt]);have c3:-1000000<=(r:Int)/\(r:Int)<=1000000:=by omega
 obtain⟨b1,O,e6,b7,Z,b9,B,rs,rfl,h1,h2,T6,a6⟩:=W6 (g:=λk:Nat=>PV.int (k:Int)) (xs:=bT r) (ga:=Q4 7) (body:=Zb) (w:=[]) (Γ:=qΓ L n (.tup (xs.map .int)) r (1 + (d4:Int)) I.length zl zl zl zl zl zl) (st:=I ++ [.lst []])
  (λi Γ st'=>∃ (b7 Z b9 B:Option PV) (rs:List (List Tr)),Γ=qΓ L n (.tup (xs.map .int)) r (1 + (d4:Int)) I.length b7 Z b9 B zl zl/\(∀ ts∈rs,TsOk n ts)/\rs.length=i/\Tp st' L/\st'[I.length]?=zo (.lst (rs.map tsV)))
  (λ_ _ _ _=>by simp)
  (λi k Γ st' J ⟨b7,Z,b9,B,rs,g1,h1,h2,T',hR⟩=>by
   subst g1;have hi:i < r:=by simpa using(O1.mp J).1
   obtain⟨c8,c9,d5,ts,S',ok,T8,a2,e8⟩:=Qka (n:=n) T' T4.lt (by omega) (by omega) hR (.tup (xs.map .int)) r (1 + (d4:Int)) (zo (.int k)) Z b9 B zl zl;refine⟨_,rfl,_,S',e8,_,_,_,_,rs ++ [ts],rfl,λu hu=>?_,by rw[O5,h2];rfl,T8,a2⟩;rcases D4.mp hu with hu | hu
   ·exact h1 u hu
   ·rw[bw.mp hu];exact ok)
  ⟨_,_,_,_,[],rfl,λu hu=>(by cases hu),rfl,T5,by simp⟩
 rw[<- Vc]at e6;rw[F6]at h2;have a5:I.length < O.length:=(O1.mp a6).1;have T7:Tp (O ++ [.lst []]) L:=T6.of (by rw[O3 T6.lt]);obtain⟨c,S8,hc,T8,M8,e8⟩:=Zf T7 6 (by decide) (by decide);rw[show((6:Nat):Int)=6 from rfl]at e8;have c5:S8[O.length]?=zo (.lst []):=by rw[M8.keep _ (by have:=T6.lt;omega)];simp
 have a2:S8[I.length]?=zo (.lst (rs.map tsV)):=by rw[M8.keep _ (by have:=T4.lt;omega),O3 a5];exact a6
 have c7:-1000000<=(c:Int)/\(c:Int)<=1000000:=by omega
 obtain⟨b1,S9,e9,a3,ks,rfl,g1,g2,T9,b5,c4⟩:=W6 (g:=λk:Nat=>PV.int (k:Int)) (xs:=bT c) (ga:=Q4 12) (body:=Z9) (w:=[]) (Γ:=qΓ L n (.tup (xs.map .int)) r (1 + (d4:Int)) I.length b7 Z b9 B (zo (.ref O.length)) zl) (st:=S8)
  (λi Γ st'=>∃ (a3:Option PV) (ks:List Tr),Γ=qΓ L n (.tup (xs.map .int)) r (1 + (d4:Int)) I.length b7 Z b9 B (zo (.ref O.length)) a3/\(∀ t∈ks,Qnk n r t)/\ks.length=i/\Tp st' L/\st'[O.length]?=zo (.lst (ks.map trV))/\st'[I.length]?=zo (.lst (rs.map tsV)))
  (λ_ _ _ _=>by simp)
  (λi k Γ st' J ⟨a3,ks,u1,g1,g2,T',hK,hR⟩=>by
   subst u1;have hi:i < c:=by simpa using(O1.mp J).1
   obtain⟨t1,U1,e0,d0,N1,f1⟩:=Zf T' (r + 1) (by omega) (by omega);rw[show((r + 1:Nat):Int)=(r:Int) + 1 by push_cast;rfl]at f1;obtain⟨t2,U2,b2,c6,N2,f2⟩:=Zf d0 n (by omega) (by omega);obtain⟨v,U3,hv,b4,N3,f3⟩:=Qb2 c6 7 (by decide) (by decide);rw[show((7:Nat):Int)=7 from rfl]at f3;have N:=(N1.trans N2).trans N3;have d9:=T6.lt;have d3:=T4.lt;have a4:U3[O.length]?=zo (.lst (ks.map trV)):=by rw[N.keep _ (by omega)];exact hK
   have b0:U3[I.length]?=zo (.lst (rs.map tsV)):=by rw[N.keep _ (by omega)];exact hR
   have b3:O.length < U3.length:=(O1.mp a4).1;refine⟨_,rfl,qΓ L n (.tup (xs.map .int)) r (1 + (d4:Int)) I.length b7 Z b9 B (zo (.ref O.length)) (zo (.int k)),U3.set O.length (.lst ((ks ++ [((t1,t2),v)]).map trV)),?_,_,ks ++ [((t1,t2),v)],rfl,λt Y=>?_,by rw[O5,g2];rfl,b4.of (by rw[O8 (by omega)]),by rw[D5 b3],by rw[O8 (by omega)];exact b0⟩
   ·have b6:(ks ++ [((t1,t2),v)]).map trV=ks.map trV ++ [.tup [.int t1,.int t2,.int v]]:=by rw[E7];rfl
    have a7:Yk st' (.ref O.length)=zo (ks.map trV):=by simp[hK]
    have c1:(ks.map trV).length < 1000000:=by rw[O0];omega
    rw[b6];unfold qΓ;generalize ks.map trV=kv,xs.map PV.int=xv at*;show Z9 [zo (.ref L),zo (.int 4),zo (.int n),zo (.tup xv),zo (.int r),zo (.int (1 + (d4:Int))),zo (.ref I.length),b7,Z,b9,B,zo (.ref O.length),zo (.int k)] st'=_;simp![Z9,a7,f1,f2,f3,Jr,Jb,chg,a4,c1,-Q0a]
   ·rcases D4.mp Y with Y | Y
    ·exact g1 t Y
    ·rw[bw.mp Y];exact⟨by show t1<=r;omega,b2,hv⟩)
  ⟨_,[],rfl,λt Y=>(by cases Y),rfl,T8,c5,a2⟩
 rw[<- Vc]at e9;rw[F6]at g2;have Q:Qok xs rs ks:=⟨by omega,by omega,a9,by omega,λts c2=>by rw[U];exact h1 ts c2,by omega,λt Y=>by rw[U,h2];exact g1 t Y⟩;have step:Y9 [zo (.ref L),zo (.int 4),zl,zl,zl,zl,zl,zl,zl,zl,zl,zl,zl] S=.rt (qV xs rs ks) S9:=by
  have d2:(xs.map PV.int).length=n:=by rw[O0,U]
  unfold qV;unfold qΓ at e6 e9;generalize xs.map PV.int=xv,rs.map tsV=rv,ks.map trV=kv at*;simp![Y9,e1,hn,a8,Jr,e2,e3,e4,c3,e6,e8,c7,e9,c4,b5]
 have hF:Z7 [.ref L,.int 4] S=fin S (qV xs rs ks) S9:=by
  show Qr Y9 13 _ S=_;unfold Qr;rw[show(([PV.ref L,.int 4]:List PV).map zo ++ bV (13 - [PV.ref L,.int 4].length) zl)=[zo (.ref L),zo (.int 4),zl,zl,zl,zl,zl,zl,zl,zl,zl,zl,zl]from rfl,step]
 by_cases hp:S <+: S9
 ·refine⟨xs,rs,ks,S,Q,T,?_⟩;rw[hF];unfold fin;rw[bO hp,Uc (Qsj xs rs ks) (by decide)];rfl
 ·refine⟨xs,rs,ks,S9,Q,T9,?_⟩;rw[hF];unfold fin;rw[bP hp]
theorem Q8{a b:MS}{B:Gam}(h1:a Γ S=.nx B S1)(h2:b B S1=r):Qb a b Γ S=r:=by rw[Q8s,h1];exact h2
theorem Qk{i:Nat}(h:m Γ S=.ok v S1):Qm i m Γ S=.nx (Γ.set i (zo v)) S1:=by rw[Qmp,h];rfl
theorem Qq{F:FN}(h1:mr Γ S=.ok ps S1)(h2:ps.length=n)(B:F ps S1=.ok v S2):Qd n F mr Γ S=.ok v S2:=by rw[Qej,h1,Qp,bO h2,B]
theorem Q7{o:OP}{a b:ME}{y:PV}(h1:a Γ S=.ok x S1)(h2:b Γ S1=.ok y S2)(B:o S2 x y=.ok v S3):mOp o a b Γ S=.ok v S3:=by rw[Qry,h1,Qp,h2,Qp,B]
theorem Q3(h1:m Γ S=.ok p S1)(h2:mr Γ S1=.ok ps S2):Q0 m mr Γ S=.ok (p :: ps) S2:=by rw[Qhq,h1,Qp,h2,Qp]
theorem Jz{o:CF}(h1:mr Γ S=.ok ps S1)(h2:o S1 ps=.ok v S2):Qi o mr Γ S=.ok v S2:=by rw[Qhr,h1,Qp,h2]
theorem Ju{b:MS}{xs:List PV}{w:Wt}(h1:mi Γ S=.ok (xs,w) S1)(h2:Jt ga b w xs Γ S1=r):Yu ga mi b Γ S=r:=by rw[Qms,h1];exact h2
theorem Vr{c:MT}{a b:MS}(h1:c Γ S=.ok zi S1)(h2:a Γ S1=r):Z5 c a b Γ S=r:=by rw[Qch,h1];exact h2
theorem Y0{c:MT}{a b:MS}(h1:c Γ S=.ok zb S1)(h2:b Γ S1=r):Z5 c a b Γ S=r:=by rw[Qch,h1];exact h2
theorem Qbb{B:Gam}(h1:m Γ S=.ok p S1)(h2:ga p Γ=zo B):Q8v ga m Γ S=.nx B S1:=by rw[Qmt,h1];show(match ga p Γ with | some B=>SR.nx B S1 | none=>.stuck)=_;rw[h2]
theorem Ug{xs:List PV}{w:Wt}(h1:m Γ S=.ok p S1)(h2:Y8 S1 p=zo (xs,w))(B:xs.length<=1000000):Yz m Γ S=.ok (xs,w) S1:=by rw[Qmq,h1,Qp,h2];exact bO B
theorem Um{m:ML}(h:m Γ S=.ok ps S1):Wu m Γ S=.ok (.lst ps) S1:=by rw[Qmk,h,Qp]
theorem Zq{cap:zAB}{me:ME}{xs ys:List PV}{w:Wt}(h1:mi Γ S=.ok (xs,w) S1)(h2:Z3 ga mt me w (Y1 cap Γ) xs S1=.ok ys S2):Qy cap ga mi mt me Γ S=.ok ys S2:=by rw[Qeh,h1,Qp,h2];rfl
theorem W1{m:ML}(h:m Γ S=.ok ps S1):Y4 m Γ S=.ok (.ref S1.length) (S1 ++ [.lst ps]):=by rw[Qmn,h,Qp]
theorem Q3h{t:MT}(h:t Γ S=.ok b S1):V7 t Γ S=.ok (!b) S1:=by rw[Qfp,h,Qp]
theorem Qz(h:m Γ S=.ok (.bl b) S1):toB m Γ S=.ok b S1:=by rw[Qpk,h];rfl
theorem j4{mi:ME}{B:Q1}{o i:PV}(h1:m Γ S=.ok p S1)(h2:mo Γ S1=.ok o S2)(I:mi Γ S2=.ok i S3)(J:Wh S3 o i p=zo B):U5 mo mi m Γ S=.nx Γ B:=by
 rw[Qeg,h1,Xb,h2,Xb,I,Xb,J]
theorem K7{f:MF}{xs:List PV}(h1:mo Γ S=.ok p S1)(h2:Yk S1 p=zo xs)(B:mr Γ S1=.ok ps S2)(I:f S2 p ps=.ok v S3):Yx (mBM f mo mr) Γ S=.nx Γ S3:=by
 rw[Q8u,Qs2,h1,Qp];simp only[h2];rw[B,Qp,I,Xb]
theorem Qii(h:m Γ S=.ok v S1):Yx m Γ S=.nx Γ S1:=by rw[Q8u,h];rfl
theorem Qma{a b:MT}(h:a Γ S=.ok zi S1):xg a b Γ S=.ok zi S1:=by rw[Qbq,h];rfl
theorem Q3b{a b:MT}{r:Res Bool}(h:a Γ S=.ok zb S1)(h2:b Γ S1=r):xg a b Γ S=r:=by rw[Qbq,h];exact h2
theorem Wz{a b:MS}(h:a Γ S=.rt v S1):Qb a b Γ S=.rt v S1:=by rw[Q8s,h]
theorem J8(h1:mr Γ S=.ok ps S1)(h2:ps.length<=1000000):Je mr Γ S=.ok (.tup ps) S1:=by rw[Qmm,h1,Qp];exact bO h2
theorem W9{m:MS}{B:Q1}(h:m (ps.map zo ++ bV (nl - ps.length) zl) S=.rt v B):Xs m nl ps S=.ok v B:=by unfold Xs;rw[h]
theorem J7{m:MS}{B:Q1}(h:m (ps.map zo ++ bV (nl - ps.length) zl) S=.rt v B):Qr m nl ps S=fin S v B:=by unfold Qr;rw[h]
theorem qp{xs:List PV}(h:S[L]?=zo (.lst xs))(B:xs.length < 1000000)(y:PV):Jb S (.ref L) [y]=.ok .non (S.set L (.lst (xs ++ [y]))):=by
 simp only[Jb,chg,h];rw[bO (show xs.length < lim from B)]
theorem Q0n{a b:MT}{r:Res Bool}(h:a Γ S=.ok zi S1)(h2:b Γ S1=r):Uf a b Γ S=r:=by rw[Q7w,h];exact h2
theorem Q1s{a b:MT}(h:a Γ S=.ok zb S1):Uf a b Γ S=.ok zb S1:=by rw[Q7w,h];rfl
theorem Ja(h:m Γ S=.ok v S1):J9 m Γ S=.rt v S1:=by rw[Qmr,h];rfl
theorem Qvv(S:Q1){b:Int}(h:a < b):oLt S (.int a) (.int b)=.ok (.bl zi) S:=by simp[h]
theorem Qvw(S:Q1){b:Int}(h:¬ a < b):oLt S (.int a) (.int b)=.ok (.bl zb) S:=by
 have:oLt S (.int a) (.int b)=.ok (.bl (decide (a < b))) S:=by simp
 rw[this,bQ h]
theorem Qp7(S:Q1){b:Int}(h:b < a):(oI λa b=>.bl (decide (b < a))) S (.int a) (.int b)=.ok (.bl zi) S:=by
 show Res.ok (PV.bl (decide (b < a))) S=_;rw[bR h]
theorem Qp8(S:Q1){b:Int}(h:¬ b < a):(oI λa b=>.bl (decide (b < a))) S (.int a) (.int b)=.ok (.bl zb) S:=by
 show Res.ok (PV.bl (decide (b < a))) S=_;rw[bQ h]
theorem qx(S:Q1)(a b:Int):Jj S (.int a) (.int b)=.ok (.int (a + b)) S:=by simp
theorem Qk0(S:Q1)(a b:Int):(oI λa b=>.int (a - b)) S (.int a) (.int b)=.ok (.int (a - b)) S:=rfl
theorem Yv(h:mr Γ S=.ok ps S1)(B:ps.length<=1000000:=by decide):Z1 mr Γ S=.ok (.lst ps) S1:=by
 unfold Z1;rw[h,Qp];exact bO B
theorem Q56(hn:n<=1000)(h:m Γ S=.ok (.int n) S):Z2 (Q0 m Q5) Γ S=.ok (Wn 0 n,[]) S:=by
 rw[Qat,Q3 h (show Q5 Γ S=.ok [] S from rfl),Qp];show(if -(lim:Int)<=(n:Int)/\(n:Int)<=lim then _ else _)=_;rw[bO (by rw[Jr];omega),bh]
def LA(S:Q1)(V:PV)(xs:List PV):Prop:=V=.lst xs\/∃ i,V=.ref i/\S[i]?=zo (.lst xs)
theorem Qtb{V W:PV}{xs ys:List PV}(h:LA S V xs)(k:LA S W ys)(B:xs.length + ys.length<=1000000):Jj S V W=.ok (.lst (xs ++ ys)) S:=by
 have B:xs.length + ys.length<=lim:=B;rcases h with rfl | ⟨i,rfl,e⟩ <;> rcases k with rfl | ⟨j,rfl,f⟩
 ·exact bO B
 ·show(match W4 S (.lst xs),W4 S (.ref j)with | some xs,zo ys=>if xs.length + ys.length<=lim then Res.ok (PV.lst (xs ++ ys)) S else .stuck | _,_=>.stuck)=_
  rw[z9 f];exact bO B
 ·show(match W4 S (.ref i),W4 S (.lst ys)with | some xs,zo ys=>if xs.length + ys.length<=lim then Res.ok (PV.lst (xs ++ ys)) S else .stuck | _,_=>.stuck)=_
  rw[z9 e];exact bO B
 ·show(match W4 S (.ref i),W4 S (.ref j)with | some xs,zo ys=>if xs.length + ys.length<=lim then Res.ok (PV.lst (xs ++ ys)) S else .stuck | _,_=>.stuck)=_
  rw[z9 e,z9 f];exact bO B
theorem Qcy{xs ys:List PV}(h:S[L]?=zo (.lst xs))(B:xs.length + ys.length<=1000000):Kj S (.ref L) [.lst ys]=.ok .non (S.set L (.lst (xs ++ ys))):=by
 show(match W4 S (.lst ys)with | some ys=>chg S (.ref L) λxs=>if xs.length + ys.length<=lim then zo (PV.non,xs ++ ys)else zl | none=>.stuck)=_
 rw[show W4 S (.lst ys)=zo ys from rfl];simp only[chg,h];rw[bO (show xs.length + ys.length<=lim from B)]
structure Gw(P:Nat->Prop)(S A:Q1):Prop where
 len:S.length<=A.length
 keep:∀ t,t < S.length->¬ P t->A[t]?=S[t]?
theorem Gw.refl(P:Nat->Prop)(S:Q1):Gw P S S:=⟨O9 _,λ_ _ _=>rfl⟩
theorem Gw.trans{P:Nat->Prop}{B:Q1}(a:Gw P S A)(b:Gw P A B):Gw P S B:=⟨F8 a.len b.len,λt h1 h2=>(b.keep t (E4 h1 a.len) h2).trans (a.keep t h1 h2)⟩
theorem Gw.add(P:Nat->Prop)(S T:Q1):Gw P S (S ++ T):=⟨by rw[O5];omega,λt h _=>O3 h⟩
theorem Gw.put{P:Nat->Prop}(S:Q1)(h:P n)(c:Cell):Gw P S (S.set n c):=⟨by rw[E9];exact O9 _,λt _ h2=>O8 λe=>h2 (by rw[<- e];exact h)⟩
theorem Gw.mono{P Q:Nat->Prop}(a:Gw P S A)(h:∀ t,t < S.length->P t->Q t):Gw Q S A:=⟨a.len,λt h1 h2=>a.keep t h1 λz=>h2 (h t h1 z)⟩
theorem Gw.at{P:Nat->Prop}(a:Gw P S A){t:Nat}(h:S[t]?=zo c)(B:¬ P t):A[t]?=zo c:=by rw[a.keep t (O1.mp h).1 B];exact h
theorem Gw.w{P:Nat->Prop}{S A:Q1}(a:Gw P S A){w:Wt}(h:wOk w S)(I:∀ x∈w,¬ P x.1):wOk w A:=λx B=>a.at (h x B) (I x B)
theorem yu{mi:ME}{r:Res PV}(h1:mo Γ S=.ok p S1)(h2:mi Γ S1=.ok q S2)(B:Q1m S2 p q=r):U6 mo mi Γ S=r:=by
 unfold U6;rw[h1,Qp,h2,Qp,B]
theorem Ux{xs:List PV}(h:S[D]?=zo (.lst xs)):Y8 S (.ref D)=zo (xs,[(D,.lst xs)]):=by
 show(match S[D]? with | some (.lst xs)=>zo (xs,[(D,Cell.lst xs)]) | _=>zl)=_
 rw[h]
theorem Q69{xs:List PV}(h:S[D]?=zo (.lst xs)):wOk [(D,.lst xs)] S:=λx B=>by
 have:x=(D,.lst xs):=by simpa using B
 rw[this];exact h
theorem Jg{xs:List PV}(h:S[D]?=zo (.lst xs)):Yk S (.ref D)=zo xs:=by
 show(match S[D]? with | some (.lst xs)=>zo xs | _=>zl)=_;rw[h]
theorem Y7{body:MS}{w:Wt}{xs:List PV}{J I:Gam}(U:wOk w S)(h1:ga x Γ=zo J)(h2:body J S=.nx I S2)(O:Jt ga body w xs I S2=r):Jt ga body w (x :: xs) Γ S=r:=by
 rw[Jt,bO U,h1];show(match body J S with | .nx I B=>Jt ga body w xs I B | .ct I B=>Jt ga body w xs I B | .bk I B=>.nx I B | .rt v B=>.rt v B | .exc x B=>.exc x B | .stuck=>.stuck)=_;rw[h2];exact O
theorem Q2b{body:MS}{w:Wt}{xs:List PV}{J:Gam}(O:wOk w S)(h1:ga x Γ=zo J)(h2:body J S=.rt v S2):Jt ga body w (x :: xs) Γ S=.rt v S2:=by
 rw[Jt,bO O,h1];show(match body J S with | .nx I B=>Jt ga body w xs I B | .ct I B=>Jt ga body w xs I B | .bk I B=>.nx I B | .rt v B=>.rt v B | .exc x B=>.exc x B | .stuck=>.stuck)=_;rw[h2]
theorem Wv{body:MS}{w:Wt}(B:wOk w S):Jt ga body w [] Γ S=.nx Γ S:=by rw[Jt,bO B]
theorem K8{body:MS}{I:Gam}(h1:mt Γ S=.ok zi S1)(h2:body Γ S1=.nx I S2)(J:Zx mt body n I S2=r):Zx mt body (n + 1) Γ S=r:=by
 unfold Zx;rw[h1];show(match body Γ S1 with | .nx I B=>Zx mt body n I B | .ct I B=>Zx mt body n I B | .bk I B=>.nx I B | .rt v B=>.rt v B | .exc x B=>.exc x B | .stuck=>.stuck)=_;rw[h2];exact J
theorem y3{body:MS}(h1:mt Γ S=.ok zb S1):Zx mt body (n + 1) Γ S=.nx Γ S1:=by
 unfold Zx;rw[h1];rfl
abbrev Nd:=Option (Nat × Nat)
variable{fr ns:List Nd}
def ndV:Nd->PV
 | none=>.str "spring"
 | some z=>.tup [.int z.1,.int z.2]
def ndK:Nd->HK
 | none=>.str "spring"
 | some z=>.tup [.int z.1,.int z.2]
theorem Q3j(v:Nd):Q4w (ndV v)=zo (ndK v):=by cases v <;> rfl
theorem Q6x:∀ {a b:Nd},ndK a=ndK b->a=b
 | none,zl,_=>rfl
 | none,zo _,h=>by cases h
 | some _,zl,h=>by cases h
 | some (a,b),zo (c,d),h=>by
  unfold ndK at h;simp at h;rw[Int.ofNat.inj h.1,Int.ofNat.inj h.2]
theorem Qh0(a b:Nd):peq (ndV a) (ndV b)=decide (a=b):=by
 cases a with
 | none=>cases b with
  | none=>simp[ndV,peq]
  | some z=>simp[ndV,peq]
 | some y=>cases b with
  | none=>simp[ndV,peq]
  | some z=>
   have e:(zo y=zo z) <-> ((y.1:Int)=z.1/\(y.2:Int)=z.2):=by
    rw[iM,Prod.ext_iff];omega
   have e2:decide (zo y=zo z)=(decide ((y.1:Int)=z.1) && decide ((y.2:Int)=z.2)):=by rw[<- eE];exact decide_eq_decide.mpr e
   rw[e2];simp only[ndV,peq,peqL,gr];rfl
theorem Qij(S:Q1)(a b:Nd):oEq S (ndV a) (ndV b)=.ok (.bl (decide (a=b))) S:=by
 rw[<- Qh0];cases a <;> cases b <;> rfl
def Jp{α:Type}(f:α->PV)(G:List (Nd × α)):List (HK × PV):=G.map λe=>(ndK e.1,f e.2)
theorem Qbi(f:α->PV)(G:List (Nd × α))(t:Nd):(Up (Jp f G) (ndK t)).isSome=decide (t∈G.map (·.1)):=by
 unfold Up Jp;rw[dq]
 by_cases q:t∈G.map (·.1)
 ·rw[bR q,List.find?_isSome];obtain⟨e,J,rfl⟩:=E8.mp q;exact⟨_,E8.mpr ⟨e,J,rfl⟩,by simp⟩
 ·rw[bQ q];cases z:List.find? (λI=>decide (I.1=ndK t)) (G.map λe=>(ndK e.1,f e.2))with
  | none=>rfl
  | some x=>
   have h1:=List.mem_of_find?_eq_some z;have h2:=List.find?_some z;obtain⟨y,B,rfl⟩:=E8.mp h1;have h2:ndK y.1=ndK t:=by simpa using h2
   exact absurd (E8.mpr ⟨y,B,Q6x h2⟩) q
theorem Q9n{α:Type}(f:α->PV):∀ {G:List (Nd × α)} {t:Nd} {a:α},(G.map (·.1)).Nodup->(t,a)∈G->Up (Jp f G) (ndK t)=zo (f a)
 | e :: G,t,a,hn,B=>by
  unfold Up Jp;rw[D8,bv];rw[D8]at hn;obtain⟨h1,h2⟩:=L8.mp hn;rcases E2.mp B with rfl | B
  ·simp
  ·have I:¬ e.1=t:=λz=>h1 (by rw[z];exact E8.mpr ⟨_,B,rfl⟩)
   have:decide (ndK e.1=ndK t)=zb:=bQ λz=>I (Q6x z)
   simp only[this];exact Q9n f h2 B
theorem Qc2(f:α->PV){G:List (Nd × α)}{t:Nd}{a:α}(h:t∉G.map (·.1)):Sm.putT (Jp f G) (ndK t) (f a)=Jp f (G ++ [(t,a)]):=by
 unfold Sm.putT;rw[bP]
 ·unfold Jp;rw[E7];rfl
 ·unfold Jp;rw[cT,dZ];rintro ⟨x,B,e⟩;have e:ndK x.1=ndK t:=by simpa using e
  exact h (E8.mpr ⟨x,B,Q6x e⟩)
theorem Qip(f:α->PV){G:List (Nd × α)}(h:S[D]?=zo (.dtp (Jp f G))):Q44 S (.ref D)=zo (Jp f G):=by show(match S[D]? with | some (.dtp B)=>zo B | _=>zl)=_;rw[h]
theorem qt(f:α->PV){G:List (Nd × α)}(h:S[D]?=zo (.dtp (Jp f G))):Xp S (.ref D)=zo (Jp f G):=by show(match S[D]? with | some (.dtp B)=>zo B | some (.frt B)=>zo B | _=>zl)=_;rw[h]
theorem Qin(f:α->PV){G:List (Nd × α)}(h:S[D]?=zo (.dtp (Jp f G)))(t:Nd)(B:Bool):Q8i B S (ndV t) (.ref D)=.ok (.bl (decide (t∈G.map (·.1)) != B)) S:=by
 unfold Q8i;rw[qt f h,Q3j];show Res.ok (PV.bl ((Up (Jp f G) (ndK t)).isSome != B)) S=_;rw[Qbi]
theorem Qb5(f:α->PV){G:List (Nd × α)}(h:S[D]?=zo (.dtp (Jp f G)))(hn:(G.map (·.1)).Nodup){t:Nd}{a:α}(B:(t,a)∈G):Q1m S (.ref D) (ndV t)=.ok (f a) S:=by
 unfold Q1m;rw[qt f h,Q3j];show(match Up (Jp f G) (ndK t)with | some v=>Res.ok v S | none=>.stuck)=_
 rw[Q9n f hn B]
theorem Qss(f:α->PV){G:List (Nd × α)}(h:S[D]?=zo (.dtp (Jp f G)))(I:G.length < 1000000){t:Nd}(B:t∉G.map (·.1))(a:α):Q0g S (.ref D) (ndV t) (f a)=zo (S.set D (.dtp (Jp f (G ++ [(t,a)])))):=by
 unfold Q0g;simp only[Qip f h,Q3j];rw[bO (by unfold Jp;rw[O0];exact I),Qc2 f B]
abbrev Wy:=Nd × Nd × Int
variable{ws:List Wy}
def wyV(w:Wy):PV:=.tup [ndV w.1,ndV w.2.1,.int w.2.2]
def oth(w:Wy)(l:Int)(u:Nd):Option Nd:=if w.1=u/\l < w.2.2 then zo w.2.1 else if w.2.1=u/\0 < l then zo w.1 else zl
def otV:Option Nd->PV
 | none=>.non
 | some v=>ndV v
theorem Qct(v:Nd):J0 12 (ndV v)=zi:=by cases v <;> rfl
theorem Wr(g:J0 12 v=zi):fin S v S=.ok v S:=by
 unfold fin;rw[bO List.prefix_rfl,Uc g (by decide)];rfl
theorem Q08(S:Q1)(a b:Int):oLt S (.int a) (.int b)=.ok (.bl (decide (a < b))) S:=by
 by_cases h:a < b
 ·rw[Qvv S h,bR h]
 ·rw[Qvw S h,bQ h]
theorem Q7h{a b:MT}{x y:Bool}(h:a Γ S=.ok x S)(h2:b Γ S=.ok y S):Uf a b Γ S=.ok (x && y) S:=by
 cases x with
 | true=>exact Q0n h h2
 | false=>exact Q1s h
theorem Qha(w:Wy)(l:Int)(u:Nd)(S:Q1):V9 [wyV w,.int l,ndV u] S=.ok (otV (oth w l u)) S:=by
 have B:Uf (toB (mOp oEq (mOp oIx (Q2 0) (mC (.int 0))) (Q2 2))) (toB (mOp oLt (Q2 1) (mOp oIx (Q2 0) (mC (.int 2))))) [zo (wyV w),zo (.int l),zo (ndV u)] S=.ok (decide (w.1=u) && decide (l < w.2.2)) S:=
  Q7h (Qz (Q7 (Q7 rfl rfl rfl) rfl (Qij S w.1 u))) (Qz (Q7 rfl (Q7 rfl rfl rfl) (Q08 S l w.2.2)))
 have I:Uf (toB (mOp oEq (mOp oIx (Q2 0) (mC (.int 1))) (Q2 2))) (toB (mOp (oI λa b=>.bl (decide (b < a))) (Q2 1) (mC (.int 0)))) [zo (wyV w),zo (.int l),zo (ndV u)] S=.ok (decide (w.2.1=u) && decide (0 < l)) S:=
  Q7h (Qz (Q7 (Q7 rfl rfl rfl) rfl (Qij S w.2.1 u))) (Qz (Q7 rfl rfl rfl))
 unfold oth
 by_cases h:w.1=u/\l < w.2.2
 ·rw[bO h];rw[bR h.1,bR h.2]at B;exact(J7 (Wz (Vr B (Ja (Q7 rfl rfl rfl))))).trans (Wr (Qct _))
 ·rw[bP h];have h':(decide (w.1=u) && decide (l < w.2.2))=zb:=by rw[<- eE];exact bQ h
  rw[h']at B
  by_cases g:w.2.1=u/\0 < l
  ·rw[bO g];rw[bR g.1,bR g.2]at I;exact(J7 (Q8 (Y0 B rfl) (Wz (Vr I (Ja (Q7 rfl rfl rfl)))))).trans (Wr (Qct _))
  ·rw[bP g];have g':(decide (w.2.1=u) && decide (0 < l))=zb:=by rw[<- eE];exact bQ g
   rw[g']at I;exact(J7 (Q8 (Y0 B rfl) (Q8 (Y0 I rfl) (Ja rfl)))).trans (Wr rfl)
theorem Q79(g:α->PV)(d:α)(l:List α):Vt 0 (l.map g)=(bT l.length).map λi:Nat=>PV.tup [.int (i:Int),g (l.getD i d)]:=by
 refine dP λi=>?_
 by_cases h:i < l.length
 ·rw[F4,cr h];obtain⟨p,B⟩:∃ p,(Vt 0 (l.map g))[i]?=zo p:=⟨_,O2 (by rw[X7,O0];exact h)⟩;obtain⟨x,e1,e2⟩:=Q1d B;rw[F4,Q19 h d]at e2;cases e2;rw[B,e1];simp
 ·rw[L7 (by rw[X7,O0];omega),L7 (by rw[O0,F6];omega)]
abbrev Be:=Nd × Nat × List Nat
def beV(b:Nat × List Nat):PV:=.ref b.1
def nuV(n:Nat):PV:=.int (n:Int)
structure BE(S:Q1)(D:Nat)(bs:List Be):Prop where
 d:S[D]?=zo (.dtp (Jp beV bs))
 c:∀ b∈bs,S[b.2.1]?=zo (.lst (b.2.2.map nuV))
 n:(bs.map (·.2.1)).Nodup
 k:(bs.map (·.1)).Nodup
 g:∀ b∈bs,D<=b.2.1
def adB(v:Nd)(n i:Nat)(bs:List Be):List Be:=if v∈bs.map (·.1)then bs.map (λb=>if b.1=v then(b.1,b.2.1,b.2.2 ++ [n])else b)else bs ++ [(v,i,[n])]
theorem Qbx{mf:ME}{k z:PV}{B:List (HK × PV)}{r:Res PV}(h1:mo Γ S=.ok p S)(h2:Xp S p=zo B)(U:m Γ S=.ok k S)(Y:mf Γ S=.ok z S3)(O:sdT S3 p k z=r):Q5i mo m mf Γ S=r:=by
 rw[Qhp,h1,Qp,h2];show((m Γ S).bind λk I=>(mf Γ I).bind λz J=>sdT J p k z)=_
 rw[U,Qp,Y,Qp,O]
theorem Q24{α β:Type}(f:α->β):∀ {l:List α} {x y:α},(l.map f).Nodup->x∈l->y∈l->f x=f y->x=y
 | z :: l,x,y,hn,I,B,e=>by
  rw[D8]at hn;obtain⟨h1,h2⟩:=L8.mp hn;rcases E2.mp I with a | a
  ·rcases E2.mp B with b | b
   ·rw[a,b]
   ·exact absurd (E8.mpr ⟨y,b,by rw[<- e,a]⟩) h1
  ·rcases E2.mp B with b | b
   ·exact absurd (E8.mpr ⟨x,a,by rw[e,b]⟩) h1
   ·exact Q24 f h2 a b e
theorem Qjn {bs:List Be} (B:BE S D bs) (hl:bs.length<=1000) (hn:∀ b∈bs,b.2.2.length<=1000) {mk:ME} {v:Nd} (h1:Q2 1 Γ S=.ok (.ref D) S) (h2:∀ A,Q2 2 Γ A=.ok (nuV n) A) (h3:mk Γ S=.ok (ndV v) S) :
  ∃ S',Yx (mBM Jb (Q5i (Q2 1) mk (Y4 (Uv Q5))) (Q0 (Q2 2) Q5)) Γ S=.nx Γ S'/\BE S' D (adB v n S.length bs)/\Gw (λt=>D<=t) S S':=by
 have hD:D < S.length:=(O1.mp B.d).1;have lt:∀ b∈bs,b.2.1 < S.length:=λb O=>(O1.mp (B.c b O)).1
 have nD:∀ b∈bs,b.2.1≠D:=λb O e=>by have:=B.c b O;rw[e,B.d]at this;cases this
 have d1:(S ++ [.lst []])[D]?=zo (.dtp (Jp beV bs)):=by rw[O3 hD];exact B.d
 have len:(Jp beV bs).length < lim:=by unfold Jp;rw[O0,Jr];omega
 unfold adB
 by_cases q:v∈bs.map (·.1)
 ·rw[bO q];obtain⟨b,O,rfl⟩:=E8.mp q;have Z:(S ++ [.lst []])[b.2.1]?=zo (.lst (b.2.2.map nuV)):=by rw[O3 (lt b O)];exact B.c b O
  have sd:sdT (S ++ [.lst []]) (.ref D) (ndV b.1) (.ref S.length)=.ok (.ref b.2.1) (S ++ [.lst []]):=by
   unfold sdT;simp only[Qip beV d1,Q3j,Q9n beV B.k O,len,if_true];rfl
  have ap:=qp Z (by rw[O0];have:=hn b O;omega) (nuV n);refine⟨_,K7 (Qbx h1 (qt beV B.d) h3 (W1 rfl) sd) (Jg Z) (Q3 (h2 _) rfl) ap,⟨?_,λU I=>?_,?_,?_,λU I=>?_⟩,?_⟩
  ·rw[O8 (nD b O),d1];congr 2;unfold Jp;rw[F3];refine L5 λx _=>?_
   show(ndK x.1,beV x.2)=(ndK (if x.1=b.1 then(x.1,x.2.1,x.2.2 ++ [n])else x).1,beV (if x.1=b.1 then(x.1,x.2.1,x.2.2 ++ [n])else x).2)
   by_cases e:x.1=b.1
   ·rw[bO e];rfl
   ·rw[bP e]
  ·obtain⟨x,Y,rfl⟩:=E8.mp I
   by_cases e:x.1=b.1
   ·have:x=b:=Q24 (·.1) B.k Y O e;subst this;rw[bO rfl];show((S ++ [Cell.lst []]).set x.2.1 _)[x.2.1]?=_;rw[D5 (by rw[O5];have:=lt x Y;omega)];show _=zo (Cell.lst ((x.2.2 ++ [n]).map nuV));rw[E7];rfl
   ·rw[bP e];have ne:b.2.1≠x.2.1:=λz=>by
     exact e (by rw[Q24 (·.2.1) B.n Y O z.symm])
    rw[O8 ne,O3 (lt x Y)];exact B.c x Y
  ·rw[F3,show((λx:Be=>x.2.1) ∘ λJ=>if J.1=b.1 then(J.1,J.2.1,J.2.2 ++ [n])else J)=λx:Be=>x.2.1 from funext λx=>by show(if x.1=b.1 then(x.1,x.2.1,x.2.2 ++ [n])else x).2.1=_;split <;> rfl]
   exact B.n
  ·rw[F3,show((λx:Be=>x.1) ∘ λJ=>if J.1=b.1 then(J.1,J.2.1,J.2.2 ++ [n])else J)=λx:Be=>x.1 from funext λx=>by show(if x.1=b.1 then(x.1,x.2.1,x.2.2 ++ [n])else x).1=_;split <;> rfl]
   exact B.k
  ·obtain⟨x,Y,rfl⟩:=E8.mp I;have:=B.g x Y
   by_cases e:x.1=b.1
   ·rw[bO e];exact this
   ·rw[bP e];exact this
  ·exact(Gw.add _ S _).trans (Gw.put _ (B.g b O) _)
 ·rw[bP q];have vn:Up (Jp beV bs) (ndK v)=zl:=by
   have:=Qbi beV bs v;rw[bQ q]at this;exact Option.isSome_eq_false_iff.mp this |> Option.isNone_iff_eq_none.mp
  have sd:sdT (S ++ [.lst []]) (.ref D) (ndV v) (.ref S.length)=.ok (.ref S.length) ((S ++ [Cell.lst []]).set D (.dtp (Jp beV (bs ++ [(v,S.length,[n])])))):=by
   unfold sdT;simp only[Qip beV d1,Q3j,vn,len,if_true];rw[<- Qc2 beV (a:=(S.length,[n])) q];rfl
  have Z:((S ++ [Cell.lst []]).set D (.dtp (Jp beV (bs ++ [(v,S.length,[n])]))))[S.length]?=zo (.lst []):=by
   rw[O8 (by omega),D7 (O9 _),L6];rfl
  have ap:=qp Z (by decide) (nuV n);refine⟨_,K7 (Qbx h1 (qt beV B.d) h3 (W1 rfl) sd) (Jg Z) (Q3 (h2 _) rfl) ap,⟨?_,λU I=>?_,?_,?_,λU I=>?_⟩,?_⟩
  ·rw[O8 (by omega),D5 (by rw[O5];omega)]
  ·rcases D4.mp I with I | I
   ·rw[O8 (by have:=lt U I;omega),O8 (λz=>nD U I z.symm),O3 (lt U I)];exact B.c U I
   ·have:U=(v,S.length,[n]):=by simpa using I
    subst this;rw[D5 (by rw[E9,O5];show S.length < S.length + 1;omega)];rfl
  ·rw[E7];refine bx.mpr ⟨B.n,by simp,λa ha c hc e=>?_⟩;obtain⟨x,Y,rfl⟩:=E8.mp ha;have:c=S.length:=by simpa using hc
   have:=lt x Y;omega
  ·rw[E7];refine bx.mpr ⟨B.k,by simp,λa ha c hc e=>?_⟩;have:c=v:=by simpa using hc
   exact q (by rw[<- this,<- e];exact ha)
  ·rcases D4.mp I with I | I
   ·exact B.g U I
   ·have:U=(v,S.length,[n]):=by simpa using I
    subst this;exact cZ hD
  ·exact(Gw.add _ S _).trans ((Gw.put _ (O9 D) _).trans (Gw.put _ (cZ hD) _))
theorem Q7j(v:Nd)(n i:Nat)(bs:List Be):(adB v n i bs).length<=bs.length + 1:=by
 unfold adB
 split
 ·rw[O0];omega
 ·rw[O5];exact O9 _
theorem Q4d(v:Nd)(n i:Nat)(bs:List Be)(I:Be)(h:I∈adB v n i bs):(∀ k∈I.2.2,k=n\/∃ b∈bs,k∈b.2.2)/\(I.2.2.length<=1\/∃ b∈bs,I.2.2.length<=b.2.2.length + 1):=by
 unfold adB at h
 split at h
 ·obtain⟨b,J,rfl⟩:=E8.mp h
  split
  ·refine⟨λk B=>?_,.inr ⟨b,J,by show(b.2.2 ++ [n]).length<=_;rw[O5];exact O9 _⟩⟩
   rcases D4.mp (show k∈b.2.2 ++ [n]from B)with B | B
   ·exact .inr ⟨b,J,B⟩
   ·exact .inl (by simpa using B)
  ·exact⟨λk B=>.inr ⟨b,J,B⟩,.inr ⟨b,J,by omega⟩⟩
 ·rcases D4.mp h with h | h
  ·exact⟨λk B=>.inr ⟨I,h,B⟩,.inr ⟨I,h,by omega⟩⟩
  ·have:I=(v,i,[n]):=by simpa using h
   subst this;exact⟨λk B=>.inl (by simpa using B),.inl (O9 _)⟩
theorem Q7i(v:Nd)(n i:Nat)(bs:List Be)(b:Be)(I:b∈bs):∃ J∈adB v n i bs,J.1=b.1/\∀ k∈b.2.2,k∈J.2.2:=by
 unfold adB
 split
 ·refine⟨_,E8.mpr ⟨b,I,rfl⟩,?_⟩
  split
  ·exact⟨rfl,λk B=>D4.mpr (.inl B)⟩
  ·exact⟨rfl,λk B=>B⟩
 ·exact⟨b,D4.mpr (.inl I),rfl,λk B=>B⟩
theorem Qd4(v:Nd)(n i:Nat)(bs:List Be):∃ B∈adB v n i bs,B.1=v/\n∈B.2.2:=by
 unfold adB
 split
 ·rename_i h;obtain⟨b,I,rfl⟩:=E8.mp h;exact⟨_,E8.mpr ⟨b,I,rfl⟩,by rw[bO rfl],by rw[bO rfl];exact D4.mpr (.inr (by simp))⟩
 ·exact⟨(v,i,[n]),D4.mpr (.inr (by simp)),rfl,by simp⟩
def wy0:Wy:=(zl,zl,0)
structure BeI(ws:List Wy)(m:Nat)(bs:List Be):Prop where
 l:bs.length<=2 * m
 e:∀ b∈bs,b.2.2.length<=2 * m
 n:∀ b∈bs,∀ k∈b.2.2,k < m
 c:∀ k,k < m->∀ v,((ws.getD k wy0).1=v\/(ws.getD k wy0).2.1=v)->∃ b∈bs,b.1=v/\k∈b.2.2
theorem BeI.step{m:Nat}{bs:List Be}(B:BeI ws m bs)(i j:Nat):BeI ws (m + 1) (adB (ws.getD m wy0).2.1 m j (adB (ws.getD m wy0).1 m i bs)):=by
 refine⟨?_,λb O=>?_,λb O k hk=>?_,λk hk v J=>?_⟩
 ·have:=B.l;have:=Q7j (ws.getD m wy0).1 m i bs;have:=Q7j (ws.getD m wy0).2.1 m j (adB (ws.getD m wy0).1 m i bs);omega
 ·rcases(Q4d _ _ _ _ b O).2 with h | ⟨c,I,h⟩
  ·omega
  ·rcases(Q4d _ _ _ _ c I).2 with g | ⟨d,hd,g⟩
   ·omega
   ·have:=B.e d hd;omega
 ·rcases(Q4d _ _ _ _ b O).1 k hk with h | ⟨c,I,h⟩
  ·omega
  ·rcases(Q4d _ _ _ _ c I).1 k h with g | ⟨d,hd,g⟩
   ·omega
   ·have:=B.n d hd k g;omega
 ·by_cases e:k=m
  ·subst e;rcases J with J | J
   ·obtain⟨c,I,Y,U⟩:=Qd4 (ws.getD k wy0).1 k i bs;obtain⟨d,hd,d1,Z⟩:=Q7i (ws.getD k wy0).2.1 k j _ c I;exact⟨d,hd,d1.trans (Y.trans J),Z k U⟩
   ·obtain⟨c,I,Y,U⟩:=Qd4 (ws.getD k wy0).2.1 k j (adB (ws.getD k wy0).1 k i bs);exact⟨c,I,Y.trans J,U⟩
  ·obtain⟨b,O,b1,b2⟩:=B.c k (by omega) v J;obtain⟨c,I,Y,U⟩:=Q7i (ws.getD m wy0).1 m i bs b O;obtain⟨d,hd,d1,Z⟩:=Q7i (ws.getD m wy0).2.1 m j _ c I;exact⟨d,hd,d1.trans (Y.trans b1),Z k (U k b2)⟩
theorem Qj7(hl:ws.length<=500)(S:Q1):∃ O bs,Ww [.lst (ws.map wyV)] S=.ok (.ref S.length) O/\BE O S.length bs/\BeI ws ws.length bs/\Gw (λ_=>False) S O:=by
 obtain⟨a1,O,e,bs,a2,U,rfl,B,J,G⟩:=W6 (g:=λi:Nat=>PV.tup [.int (i:Int),wyV (ws.getD i wy0)]) (xs:=bT ws.length) (ga:=Qv (Q6 (Q4 2) (Q6 (Q4 3) Qw))) (body:=Uu) (w:=[]) (Γ:=[zo (.lst (ws.map wyV)),zo (.ref S.length),zl,zl]) (st:=S ++ [.dtp []])
  (λm Γ st=>∃ bs a2 U,Γ=[zo (.lst (ws.map wyV)),zo (.ref S.length),a2,U]/\BE st S.length bs/\BeI ws m bs/\Gw (λt=>S.length<=t) (S ++ [.dtp []]) st)
  (λ_ _ _ _ x Y=>by cases Y)
  (λm x Γ st Y ⟨bs,a2,U,Z,B,J,G⟩=>by
   obtain⟨hm,rfl⟩:m < ws.length/\x=m:=by
    have:=O1.mp Y;obtain⟨h1,h2⟩:=this;rw[F6]at h1;rw[fN]at h2;exact⟨h1,h2.symm⟩
   subst Z;have l1:=J.l;have l2:=Q7j (ws.getD x wy0).1 x st.length bs;obtain⟨S1,e1,B1,G1⟩:=Qjn B (by omega) (λb I=>by have:=J.e b I;omega) (Γ:=[zo (.lst (ws.map wyV)),zo (.ref S.length),zo (.int (x:Int)),zo (wyV (ws.getD x wy0))]) (mk:=mOp oIx (Q2 3) (mC (.int 0))) (v:=(ws.getD x wy0).1) (n:=x) rfl (λ_=>rfl) (Q7 rfl rfl rfl);obtain⟨S2,e2,B2,G2⟩:=Qjn B1 (by omega) (λb I=>by
    rcases(Q4d _ _ _ _ b I).2 with h | ⟨c,hc,h⟩
    ·omega
    ·have:=J.e c hc;omega) (Γ:=[zo (.lst (ws.map wyV)),zo (.ref S.length),zo (.int (x:Int)),zo (wyV (ws.getD x wy0))]) (mk:=mOp oIx (Q2 3) (mC (.int 1))) (v:=(ws.getD x wy0).2.1) (n:=x) rfl (λ_=>rfl) (Q7 rfl rfl rfl)
   exact⟨_,rfl,_,S2,Q8 e1 e2,_,_,_,rfl,B2,J.step _ _,(G.trans G1).trans G2⟩)
  ⟨[],_,_,rfl,⟨by rw[D7 (O9 _),L6];rfl,λb I=>(by cases I),cm,cm,λb I=>(by cases I)⟩,⟨O9 _,λb I=>(by cases I),λb I=>(by cases I),λk hk=>(by omega)⟩,Gw.refl _ _⟩
 rw[<- Q79 wyV wy0 ws]at e;rw[F6]at J;have en:zu (Q0 (Q2 0) Q5) [zo (.lst (ws.map wyV)),zo (.ref S.length),zl,zl] (S ++ [.dtp []])=.ok (Vt 0 (ws.map wyV),[]) (S ++ [.dtp []]):=by
  unfold zu;show(if(ws.map wyV).length<=lim then Res.ok (Vt 0 (ws.map wyV),[]) (S ++ [Cell.dtp []])else .stuck)=_;rw[bO (by rw[O0,Jr];omega)]
 exact⟨O,bs,W9 (Q8 (Qk rfl) (Q8 (Ju en e) (Ja rfl))),B,J,⟨F8 (by rw[O5];omega) G.len,λt ht _=>(G.keep t (by rw[O5];omega) (by omega)).trans (O3 ht)⟩⟩
theorem Q12{mi:ME}{I:Q1}(h1:m Γ S=.ok v S1)(h2:mo Γ S1=.ok p S2)(J:mi Γ S2=.ok q S3)(O:Q0g S3 p q v=zo I):Q13 mo mi m Γ S=.nx Γ I:=by
 unfold Q13;rw[h1];show(mo Γ S1).sbind _=_;rw[h2];show(mi Γ S2).sbind _=_;rw[J];show(match Q0g S3 p q v with | some B=>SR.nx Γ B | none=>.stuck)=_;rw[O]
theorem jx{α:Type}[DecidableEq α]:∀ {l m:List α},l.Nodup->(∀ x∈l,x∈m)->l.length<=m.length
 | [],_,_,_=>bb _
 | a :: l,m,h,hs=>by
  obtain⟨h1,h2⟩:=L8.mp h;have B:=hs a (by simp);have:=jx (m:=m.erase a) h2 λx I=>(List.mem_erase_of_ne (show x≠a from λe=>h1 (by rw[<- e];exact I))).mpr (hs x (O6 _ I))
  rw[List.length_erase_of_mem B]at this;have:=List.length_pos_of_mem B;rw[E5];omega
def stV:Option (Nat × Nd)->PV
 | none=>.non
 | some (n,s)=>.tup [.int (n:Int),ndV s]
abbrev Fd:=List (Nd × Option (Nat × Nd))
variable{F:Fd}
abbrev kys(F:Fd):List Nd:=F.map (·.1)
inductive FT(ws:List Wy)(ls:List Int):Fd->Prop where
 | base:FT ws ls [(zl,zl)]
 | snoc {F:Fd} {v u:Nd} {k:Nat}:FT ws ls F->v∉kys F->u∈kys F->k < ws.length->oth (ws.getD k wy0) (ls.getD k 0) u=zo v->FT ws ls (F ++ [(v,zo (k,u))])
theorem Q6r{w:Wy}{l:Int}{u v:Nd}(h:oth w l u=zo v):(w.1=u/\w.2.1=v/\l < w.2.2)\/(w.2.1=u/\w.1=v/\0 < l):=by
 unfold oth at h
 split at h
 ·rename_i q;exact .inl ⟨q.1,bY h,q.2⟩
 ·split at h
  ·rename_i q;exact .inr ⟨q.1,bY h,q.2⟩
  ·cases h
theorem FT.nd(t:FT ws ls F):(kys F).Nodup:=by
 induction t with
 | base=>simp
 | @snoc F v u k _ h1 _ _ _ J=>
  unfold kys at*;rw[E7];refine bx.mpr ⟨J,by simp,λa B c I e=>?_⟩;have:c=v:=by simpa using I
  exact h1 (by rw[<- this,<- e];exact B)
theorem FT.ends(t:FT ws ls F):∀ v∈kys F,v=zl\/∃ k,k < ws.length/\((ws.getD k wy0).1=v\/(ws.getD k wy0).2.1=v):=by
 induction t with
 | base=>intro v B;left;simpa using B
 | @snoc F x u k _ _ _ J I O=>
  intro v B;unfold kys at*;rw[E7]at B;rcases D4.mp B with B | B
  ·exact O v B
  ·have:v=x:=by simpa using B
   subst this;refine .inr ⟨_,J,?_⟩;rcases Q6r I with h | h
   ·exact .inr h.2.1
   ·exact .inl h.2.1
theorem FT.few(t:FT ws ls F):F.length<=2 * ws.length + 1:=by
 have h:=jx (m:=zl :: (ws.map (·.1) ++ ws.map (·.2.1))) t.nd λv J=>by
  rcases t.ends v J with rfl | ⟨k,B,h⟩
  ·exact D3
  ·have I:ws.getD k wy0∈ws:=by rw[O7,O2 B];exact F9 B
   refine O6 _ (D4.mpr ?_);rcases h with rfl | rfl
   ·exact .inl (E8.mpr ⟨_,I,rfl⟩)
   ·exact .inr (E8.mpr ⟨_,I,rfl⟩)
 rw[O0,E5,O5,O0,O0]at h;omega
theorem Qrt(v:Nd):Q5p (ndV v)=zb:=by cases v <;> rfl
theorem Wq(f:α->PV)(d:α)(l:List α)(h:k < l.length):atI (l.map f) (k:Int)=zo (f (l.getD k d)):=by
 rw[Q7g,atI_get (O2 h),O7,O2 h];rfl
abbrev rG(ws:List Wy)(Ld B D:Nat)(V:PV)(U:Nat)(u:PV)(a7 a8:Option PV):Gam:=[zo (.lst (ws.map wyV)),zo (.ref Ld),zo (.ref B),zo (.ref D),zo V,zo (.ref U),zo u,a7,a8]
theorem Quj {ws:List Wy} {ls:List Int} (hl:ws.length<=500) (b3:ls.length=ws.length) {Ld B D U:Nat} (a4:D≠U) (a6:Ld≠D) (b1:Ld≠U) {w:Wt} {u:Nd} {V:PV}:∀ (ns:List Nat) (F:Fd) (Y:List Nd) (A:Q1) (a7 a8:Option PV),(∀ k∈ns,k < ws.length)->FT ws ls F->u∈kys F->Y.length<=F.length ->
  A[D]?=zo (.dtp (Jp stV F))->A[U]?=zo (.lst (Y.map ndV))->A[Ld]?=zo (.lst (ls.map .int))->wOk w A->(∀ x∈w,x.1≠D/\x.1≠U) ->
  ∃ O I new b7 b8,Jt (Q4 7) Ui w (ns.map nuV) (rG ws Ld B D V U (ndV u) a7 a8) A=.nx (rG ws Ld B D V U (ndV u) b7 b8) O/\FT ws ls I/\kys I=kys F ++ new/\O[D]?=zo (.dtp (Jp stV I))/\O[U]?=zo (.lst ((Y ++ new).map ndV))/\Gw (λt=>t=D\/t=U) A O /\
   ∀ k∈ns,∀ v,oth (ws.getD k wy0) (ls.getD k 0) u=zo v->v∈kys I
 | [],F,Y,A,a7,a8,_,t,_,_,Z,hU,_,hw,_=>⟨A,F,[],a7,a8,Wv hw,t,by rw[G6],Z,by rw[G6];exact hU,Gw.refl _ _,λk hk=>by cases hk⟩
 | n :: ns,F,Y,A,a7,a8,hk,t,hu,b9,Z,hU,hL,hw,a3=>by
  have hn:n < ws.length:=hk n D3;have b2:∀ k∈ns,k < ws.length:=λk h=>hk k (O6 _ h)
  have few:=t.few;have s1:Qm 8 (Qd 3 V9 (Q0 (mOp oIx (Q2 0) (Q2 7)) (Q0 (mOp oIx (Q2 1) (Q2 7)) (Q0 (Q2 6) Q5)))) (rG ws Ld B D V U (ndV u) (zo (nuV n)) a8) A=.nx (rG ws Ld B D V U (ndV u) (zo (nuV n)) (zo (otV (oth (ws.getD n wy0) (ls.getD n 0) u)))) A:=by
   refine Qk (Qq (n:=3) (Q3 (Q7 rfl rfl (v:=wyV (ws.getD n wy0)) (S3:=A) ?_) (Q3 (Q7 rfl rfl (v:=.int (ls.getD n 0)) (S3:=A) ?_) (Q3 rfl rfl))) rfl (Qha _ _ _ _))
   ·show okO A (atI (ws.map wyV) (n:Int))=_;rw[Wq wyV wy0 ws hn];rfl
   ·show oIx A (.ref Ld) (.int (n:Int))=_;rw[Q3g,hL];show okO A (atI (ls.map PV.int) (n:Int))=_;rw[Wq PV.int 0 ls (by omega)];rfl
  have rest:∀ {A1:Q1} {F1:Fd} {a2 new1:List Nd} {c8:Option PV},Ui (rG ws Ld B D V U (ndV u) (zo (nuV n)) a8) A=.nx (rG ws Ld B D V U (ndV u) (zo (nuV n)) c8) A1->FT ws ls F1->kys F1=kys F ++ new1->a2=Y ++ new1->A1[D]?=zo (.dtp (Jp stV F1))->A1[U]?=zo (.lst (a2.map ndV))->Gw (λt=>t=D\/t=U) A A1 ->
    (∀ v,oth (ws.getD n wy0) (ls.getD n 0) u=zo v->v∈kys F1) ->
    ∃ O I new b7 b8,Jt (Q4 7) Ui w ((n :: ns).map nuV) (rG ws Ld B D V U (ndV u) a7 a8) A=.nx (rG ws Ld B D V U (ndV u) b7 b8) O/\FT ws ls I/\kys I=kys F ++ new/\O[D]?=zo (.dtp (Jp stV I))/\O[U]?=zo (.lst ((Y ++ new).map ndV))/\Gw (λt=>t=D\/t=U) A O /\
     ∀ k∈n :: ns,∀ v,oth (ws.getD k wy0) (ls.getD k 0) u=zo v->v∈kys I:=by
   intro A1 F1 a2 new1 c8 e1 t1 k1 f1 d1 u1 g1 c1;subst f1;have b6:F1.length=F.length + new1.length:=by
    have:=congrArg cO k1;rw[O5,O0,O0]at this;exact this
   obtain⟨O,I,new,b7,b8,e,t',k',d',u',g',c'⟩:=Quj hl b3 a4 a6 b1 ns F1 (Y ++ new1) A1 (zo (nuV n)) c8 b2 t1 (by rw[k1];exact D4.mpr (.inl hu)) (by rw[O5];omega) d1 u1 (g1.at hL (λz=>z.elim a6 b1)) (g1.w hw λx hx z=>z.elim (a3 x hx).1 (a3 x hx).2) a3
   refine⟨O,I,new1 ++ new,b7,b8,Y7 hw rfl e1 e,t',by rw[k',k1,M0],d',by rw[<- M0];exact u',g1.trans g',λk a1 v J=>?_⟩;rcases E2.mp a1 with rfl | a1
   ·rw[k'];exact D4.mpr (.inl (c1 v J))
   ·exact c' k a1 v J
  cases ho:oth (ws.getD n wy0) (ls.getD n 0) u with
  | none=>
   rw[ho]at s1;exact rest (Q8 s1 (Y0 (Q1s (Qz (Q7 rfl rfl rfl))) rfl)) t (new1:=[]) (by rw[G6]) rfl Z (by rw[G6];exact hU) (Gw.refl _ _) (λv J=>by rw[ho]at J;cases J)
  | some v=>
   rw[ho]at s1;have i1:toB (mOp yf (Q2 8) (mC .non)) (rG ws Ld B D V U (ndV u) (zo (nuV n)) (zo (ndV v))) A=.ok zi A:=Qz (Q7 rfl rfl (by rw[Qak,Qrt];rfl))
   by_cases q:v∈kys F
   ·exact rest (Q8 s1 (Y0 (Q0n i1 (Qz (Q7 rfl rfl ((Qin stV Z v zi).trans (by rw[bR q];rfl))))) rfl)) t (new1:=[]) (by rw[G6]) rfl Z (by rw[G6];exact hU) (Gw.refl _ _) (λv' J=>by rw[ho]at J;cases J;exact q)
   ·have a9:=Qss stV Z (by omega) q (zo (n,u));have a5:(A.set D (.dtp (Jp stV (F ++ [(v,zo (n,u))]))))[U]?=zo (.lst (Y.map ndV)):=by rw[O8 a4];exact hU
    have b0:=qp a5 (by rw[O0];omega) (ndV v);have b4:D < A.length:=(O1.mp Z).1;have b5:U < A.length:=(O1.mp hU).1;refine rest (new1:=[v]) (F1:=F ++ [(v,zo (n,u))]) (Q8 s1 (Vr (Q0n i1 (Qz (Q7 rfl rfl ((Qin stV Z v zi).trans (by rw[bQ q];rfl))))) (Q8 (Q12 (J8 (Q3 rfl (Q3 rfl rfl)) (show 2<=1000000 by decide)) rfl rfl a9) (K7 rfl (Jg a5) (Q3 rfl rfl) b0)))) (t.snoc q hu hn ho) (by unfold kys;rw[E7];rfl) rfl ?_ ?_ ?_ ?_
    ·rw[O8 (λz=>a4 z.symm),D5 b4]
    ·rw[D5 (by rw[E9];exact b5),E7];rfl
    ·exact(Gw.put _ (.inl rfl) _).trans (Gw.put _ (.inr rfl) _)
    ·intro v' J;rw[ho]at J;cases J;unfold kys;rw[E7];exact D4.mpr (.inr (by simp))
abbrev rH(ws:List Wy)(Ld B D:Nat)(V:PV)(U:Nat)(a6 a7 a8:Option PV):Gam:=[zo (.lst (ws.map wyV)),zo (.ref Ld),zo (.ref B),zo (.ref D),zo V,zo (.ref U),a6,a7,a8]
theorem Qwu(hl:ws.length<=500)(a4:ls.length=ws.length)(a1:∃ k,k < ws.length/\(ws.getD k wy0).1=zl){B U:Nat}(a2:D≠U)(a5:Ld≠D)(a3:Ld≠U)(Y:B≠D)(O:B≠U){bs:List Be}(I:∀ b∈bs,b.2.1≠D/\b.2.1≠U)(BI:BeI ws ws.length bs){Z:Q1}(E:BE A B bs)(g:Gw (λt=>t=D\/t=U) A Z):BE Z B bs:=⟨g.at E.d (λz=>z.elim Y O),λb J=>g.at (E.c b J) (λz=>z.elim (I b J).1 (I b J).2),E.n,E.k,E.g⟩
theorem Quk {ws:List Wy} {ls:List Int} (hl:ws.length<=500) (a3:ls.length=ws.length) (a1:∃ k,k < ws.length/\(ws.getD k wy0).1=zl) {Ld B D U:Nat} (a9:D≠U) (Y:Ld≠D) (Z:Ld≠U) (b1:B≠D) (b0:B≠U) {bs:List Be} (a4:∀ b∈bs,b.2.1≠D/\b.2.1≠U) (BI:BeI ws ws.length bs) {w:Wt} {V:PV}:∀ (fr:List Nd) (F:Fd) (fu:List Nd) (A:Q1) (a6 a7 a8:Option PV),(∀ u∈fr,u∈kys F)->FT ws ls F->fu.length<=F.length->BE A B bs ->
  A[D]?=zo (.dtp (Jp stV F))->A[U]?=zo (.lst (fu.map ndV))->A[Ld]?=zo (.lst (ls.map .int))->wOk w A->(∀ x∈w,x.1≠D/\x.1≠U) ->
  ∃ A' F' new b6 b7 b8,Jt (Q4 6) Xu w (fr.map ndV) (rH ws Ld B D V U a6 a7 a8) A=.nx (rH ws Ld B D V U b6 b7 b8) A'/\FT ws ls F'/\kys F'=kys F ++ new/\A'[D]?=zo (.dtp (Jp stV F'))/\A'[U]?=zo (.lst ((fu ++ new).map ndV))/\Gw (λt=>t=D\/t=U) A A' /\
   ∀ u∈fr,∀ k,k < ws.length->∀ v,oth (ws.getD k wy0) (ls.getD k 0) u=zo v->v∈kys F'
 | [],F,fu,A,a6,a7,a8,_,t,_,_,hD,hU,_,hw,_=>⟨A,F,[],a6,a7,a8,Wv hw,t,by rw[G6],hD,by rw[G6];exact hU,Gw.refl _ _,λk hk=>by cases hk⟩
 | u :: fr,F,fu,A,a6,a7,a8,hk,t,b2,E,hD,hU,hL,hw,a5=>by
  have hu:=hk u D3;obtain⟨b,O,b3⟩:∃ b∈bs,b.1=u:=by
   rcases t.ends u hu with rfl | ⟨k,I,h⟩
   ·obtain⟨k,I,h⟩:=a1;obtain⟨b,O,h1,_⟩:=BI.c k I zl (.inl h);exact⟨b,O,h1⟩
   ·obtain⟨b,O,h1,_⟩:=BI.c k I u h;exact⟨b,O,h1⟩
  subst b3;have hc:=E.c b O;obtain⟨A1,F1,new1,c7,c8,e1,t1,k1,d1,u1,g1,c1⟩:=Quj (B:=B) hl a3 a9 Y Z (w:=[(b.2.1,.lst (b.2.2.map nuV))]) (V:=V) b.2.2 F fu A a7 a8 (BI.n b O) t hu b2 hD hU hL (Q69 hc) (λx J=>by
   have:x=(b.2.1,.lst (b.2.2.map nuV)):=by simpa using J
   rw[this];exact a4 b O)
  have b5:F1.length=F.length + new1.length:=by
   have:=congrArg cO k1;rw[O5,O0,O0]at this;exact this
  have a2:Xu (rH ws Ld B D V U (zo (ndV b.1)) a7 a8) A=.nx (rH ws Ld B D V U (zo (ndV b.1)) c7 c8) A1:=
   Ju (Ug (yu rfl rfl (Qb5 beV E.d E.k O)) (Ux hc) (by rw[O0];have:=BI.e b O;omega)) e1
  obtain⟨A',F',new,b6,b7,b8,e,t',k',d',u',g',c'⟩:=Quk hl a3 a1 a9 Y Z b1 b0 a4 BI fr F1 (fu ++ new1) A1 (zo (ndV b.1)) c7 c8 (λx J=>by rw[k1];exact D4.mpr (.inl (hk x (O6 _ J)))) t1 (by rw[O5];omega) (Qwu hl a3 a1 a9 Y Z b1 b0 a4 BI E g1) d1 u1 (g1.at hL (λz=>z.elim Y Z)) (g1.w hw λx J z=>z.elim (a5 x J).1 (a5 x J).2) a5
  refine⟨A',F',new1 ++ new,b6,b7,b8,Y7 hw rfl a2 e,t',by rw[k',k1,M0],d',by rw[<- M0];exact u',g1.trans g',λx J k I v hv=>?_⟩;rcases E2.mp J with rfl | J
  ·rw[k'];refine D4.mpr (.inl (c1 k ?_ v hv));have inc:(ws.getD k wy0).1=b.1\/(ws.getD k wy0).2.1=b.1:=by
    rcases Q6r hv with h | h
    ·exact .inl h.1
    ·exact .inr h.1
   obtain⟨b',b4,h1,h2⟩:=BI.c k I b.1 inc;rw[<- Q24 (·.1) E.k b4 O h1];exact h2
  ·exact c' x J k I v hv
def Cld(ws:List Wy)(ls:List Int)(F:Fd)(u:Nd):Prop:=∀ k,k < ws.length->∀ v,oth (ws.getD k wy0) (ls.getD k 0) u=zo v->v∈kys F
theorem Q73{V:PV}{xs:List PV}(h:LA S V xs):∃ w,Y8 S V=zo (xs,w)/\wOk w S/\∀ x∈w,x.1 < S.length/\V=.ref x.1:=by
 rcases h with rfl | ⟨i,rfl,e⟩
 ·exact⟨[],rfl,Qs _,λx B=>by cases B⟩
 ·refine⟨_,Ux e,Q69 e,λx B=>?_⟩;have:x=(i,.lst xs):=by simpa using B
  rw[this];exact⟨(O1.mp e).1,rfl⟩
theorem Qhy{V:PV}{xs:List PV}(h:LA S V xs):Z0 S [V]=.ok (.int (xs.length:Nat)) S:=by
 rcases h with rfl | ⟨i,rfl,e⟩
 ·rfl
 ·rw[Qj4,e]
theorem Q8y{P:Nat->Prop}{V:PV}{xs:List PV}(h:LA S V xs)(g:Gw P S A)(B:∀ i,V=.ref i->¬ P i):LA A V xs:=by
 rcases h with rfl | ⟨i,rfl,e⟩
 ·exact .inl rfl
 ·exact .inr ⟨i,rfl,g.at e (B i rfl)⟩
abbrev rK(ws:List Wy)(Ld B D:Nat)(a4 a5 a6 a7 a8:Option PV):Gam:=[zo (.lst (ws.map wyV)),zo (.ref Ld),zo (.ref B),zo (.ref D),a4,a5,a6,a7,a8]
structure RS(ws:List Wy)(ls:List Int)(Ld B D:Nat)(bs:List Be)(F:Fd)(fr:List Nd)(A:Q1)(V:PV):Prop where
 fR:∀ u∈fr,u∈kys F
 fl:fr.length<=F.length
 cl:∀ u∈kys F,u∉fr->Cld ws ls F u
 t:FT ws ls F
 bE:BE A B bs
 dD:A[D]?=zo (.dtp (Jp stV F))
 lV:LA A V (fr.map ndV)
 VD:V≠.ref D
 lL:A[Ld]?=zo (.lst (ls.map .int))
theorem RS.w{B:Nat}{bs:List Be}{V:PV}(R:RS ws ls Ld B D bs F fr A V)(J I O U:Option PV):W0 (rK ws Ld B D (zo V) J I O U) A=.ok (decide ((0:Int) < (fr.length:Nat))) A:=by
 have Y:W0 (rK ws Ld B D (zo V) J I O U) A=.ok (decide ((0:Int) < ((fr.map ndV).length:Nat))) A:=Qz (Q7 (Jz (Q3 rfl rfl) (Qhy R.lV)) rfl rfl)
 rwa [O0]at Y
theorem RS.turn (hl:ws.length<=500) (b0:ls.length=ws.length) (a4:∃ k,k < ws.length/\(ws.getD k wy0).1=zl) {B:Nat} (a2:Ld≠D) (a3:B≠D) {bs:List Be} (BI:BeI ws ws.length bs) {V:PV} (R:RS ws ls Ld B D bs F fr A V) (a5 a6 a7 a8:Option PV) :
  ∃ O Y new c6 c7 c8,Uj (rK ws Ld B D (zo V) a5 a6 a7 a8) A=.nx (rK ws Ld B D (zo (.ref A.length)) (zo (.ref A.length)) c6 c7 c8) O/\RS ws ls Ld B D bs Y new O (.ref A.length)/\Y.length=F.length + new.length/\Gw (λt=>t=D) A O:=by
 obtain⟨b4,b7,b3,t,E,hD,hV,a9,hL⟩:=R;have b9:D < A.length:=(O1.mp hD).1;have c1:Ld < A.length:=(O1.mp hL).1;have b8:B < A.length:=(O1.mp E.d).1;have g0:Gw (λ_=>False) A (A ++ [.lst []]):=Gw.add _ _ _;have V1:=Q8y hV g0 λ_ _ z=>z
 obtain⟨w,es,hw,b1⟩:=Q73 V1;have E1:BE (A ++ [.lst []]) B bs:=⟨g0.at E.d id,λb J=>g0.at (E.c b J) id,E.n,E.k,E.g⟩;have few:=t.few;have a1:∀ b∈bs,b.2.1≠D/\b.2.1≠A.length:=λb J=>⟨λz=>(by have:=E.c b J;rw[z,hD]at this;cases this),λz=>(by have:=(O1.mp (E.c b J)).1;omega)⟩
 have b2:∀ x∈w,x.1≠D/\x.1≠A.length:=λx hx=>by
  obtain⟨_,e2⟩:=b1 x hx;refine⟨λz=>a9 (by rw[e2,z]),λz=>?_⟩;rcases hV with e | ⟨i,e,q⟩
  ·rw[e2]at e;cases e
  ·rw[e2]at e;cases e;have:=(O1.mp q).1;omega
 obtain⟨O,Y,new,c6,c7,c8,e,t2,k2,d2,u2,g2,b5⟩:=Quk hl b0 a4 (U:=A.length) (by omega) a2 (by omega) a3 (by omega) a1 BI (w:=w) (V:=V) fr F [] (A ++ [.lst []]) a6 a7 a8 b4 t (bb _) E1 (g0.at hD id) (by rw[D7 (O9 _),L6];rfl) (g0.at hL id) hw b2;have Z:Y.length=F.length + new.length:=by
  have:=congrArg cO k2;rw[O5,O0,O0]at this;exact this
 have b6:=t2.few;have g3:Gw (λt=>t=D) A O:=⟨F8 (by rw[O5];omega) g2.len,λx hx hn=>(g2.keep x (by rw[O5];omega) (λz=>z.elim hn (by omega))).trans (O3 hx)⟩;refine⟨O,Y,new,c6,c7,c8,Q8 (Qk (W1 rfl)) (Q8 (Ju (Ug rfl es (by rw[O0];omega)) e) (Qk rfl)),⟨λu I=>by rw[k2];exact D4.mpr (.inr I),by omega,λu I hn=>?_,t2,?_,d2,.inr ⟨_,rfl,by rw[dE]at u2;exact u2⟩,λz=>?_,g3.at hL a2⟩,Z,g3⟩
 ·rw[k2]at I;rcases D4.mp I with I | I
  ·by_cases q:u∈fr
   ·exact b5 u q
   ·intro k hk v hv;rw[k2];exact D4.mpr (.inl (b3 u I q k hk v hv))
  ·exact absurd I hn
 ·exact⟨g3.at E.d a3,λb J=>g3.at (E.c b J) (a1 b J).1,E.n,E.k,E.g⟩
 ·cases z;omega
theorem Qyf (hl:ws.length<=500) (a2:ls.length=ws.length) (a1:∃ k,k < ws.length/\(ws.getD k wy0).1=zl) {B:Nat} (a3:Ld≠D) (a4:B≠D) {bs:List Be} (BI:BeI ws ws.length bs):∀ (d m:Nat) (F:Fd) (fr:List Nd) (A:Q1) (V:PV) (J I U Y:Option PV),2 * ws.length + 1 - F.length<=d->RS ws ls Ld B D bs F fr A V ->
  ∃ Z O b4 b5 b6 b7 b8,Zx W0 Uj (m + d + 2) (rK ws Ld B D (zo V) J I U Y) A=.nx (rK ws Ld B D b4 b5 b6 b7 b8) Z/\FT ws ls O/\(∀ u∈kys O,Cld ws ls O u)/\Z[D]?=zo (.dtp (Jp stV O))/\Gw (λt=>t=D) A Z:=by
 have fin:∀ {F:Fd} {A:Q1} {V:PV} (n:Nat) (J I U Y:Option PV),RS ws ls Ld B D bs F [] A V->∃ Z O b4 b5 b6 b7 b8,Zx W0 Uj (n + 1) (rK ws Ld B D (zo V) J I U Y) A=.nx (rK ws Ld B D b4 b5 b6 b7 b8) Z/\FT ws ls O/\(∀ u∈kys O,Cld ws ls O u)/\Z[D]?=zo (.dtp (Jp stV O))/\Gw (λt=>t=D) A Z:=
  λn J I U Y R=>⟨_,_,_,J,I,U,Y,y3 (R.w J I U Y),R.t,λu hu=>R.cl u hu (by simp),R.dD,Gw.refl _ _⟩
 intro d
 induction d with
 | zero=>
  intro m F fr A V J I U Y hd R;cases fr with
  | nil=>exact fin (m + 1) J I U Y R
  | cons u0 fr=>
   obtain⟨A2,F2,new,c6,c7,c8,e,R2,len,g⟩:=R.turn hl a2 a1 a3 a4 BI J I U Y;have:=R2.t.few;have hn:new=[]:=List.eq_nil_of_length_eq_zero (by omega);subst hn;obtain⟨Z,O,b4,b5,b6,b7,b8,e',h1,h2,h3,h4⟩:=fin m (zo (.ref A.length)) c6 c7 c8 R2;exact⟨Z,O,b4,b5,b6,b7,b8,K8 ((R.w J I U Y).trans (by rw[bR (by rw[E5];omega)])) e e',h1,h2,h3,g.trans h4⟩
 | succ d ih=>
  intro m F fr A V J I U Y hd R;cases fr with
  | nil=>exact fin (m + d + 2) J I U Y R
  | cons u0 fr=>
   obtain⟨A2,F2,new,c6,c7,c8,e,R2,len,g⟩:=R.turn hl a2 a1 a3 a4 BI J I U Y;have hw:W0 (rK ws Ld B D (zo V) J I U Y) A=.ok zi A:=(R.w J I U Y).trans (by rw[bR (by rw[E5];omega)]);cases new with
   | nil=>
    obtain⟨Z,O,b4,b5,b6,b7,b8,e',h1,h2,h3,h4⟩:=fin (m + d + 1) (zo (.ref A.length)) c6 c7 c8 R2;exact⟨Z,O,b4,b5,b6,b7,b8,K8 hw e e',h1,h2,h3,g.trans h4⟩
   | cons u1 new=>
    rw[E5]at len;obtain⟨Z,O,b4,b5,b6,b7,b8,e',h1,h2,h3,h4⟩:=ih m F2 (u1 :: new) A2 (.ref A.length) (zo (.ref A.length)) c6 c7 c8 (by omega) R2;exact⟨Z,O,b4,b5,b6,b7,b8,K8 hw e e',h1,h2,h3,g.trans h4⟩
theorem ye (hl:ws.length<=500) (O:ls.length=ws.length) (J:∃ k,k < ws.length/\(ws.getD k wy0).1=zl) (hL:S[Ld]?=zo (.lst (ls.map .int))) :
  ∃ Y D F,Wg [.lst (ws.map wyV),.ref Ld] S=.ok (.ref D) Y/\Y[D]?=zo (.dtp (Jp stV F))/\FT ws ls F/\(∀ u∈kys F,Cld ws ls F u)/\Gw (λ_=>False) S Y/\S.length<=D:=by
 obtain⟨S1,bs,e1,B,BI,Z⟩:=Qj7 hl S;have a2:Ld < S.length:=(O1.mp hL).1;have a1:S.length < S1.length:=(O1.mp B.d).1;have g2:Gw (λ_=>False) S1 (S1 ++ [.dtp (Jp stV [(zl,zl)])]):=Gw.add _ _ _;have R:RS ws ls Ld S.length S1.length bs [(zl,zl)] [zl] (S1 ++ [.dtp (Jp stV [(zl,zl)])]) (.lst [.str "spring"]):=⟨λu U=>U,O9 _,λu U hn=>absurd U hn,.base,⟨g2.at B.d id,λb hb=>g2.at (B.c b hb) id,B.n,B.k,B.g⟩,by rw[D7 (O9 _),L6];rfl,.inl rfl,λz=>(by cases z),g2.at (Z.at hL id) id⟩
 obtain⟨A',F,b4,b5,b6,b7,b8,e,t,c,d,g⟩:=Qyf hl O J (by omega) (by omega) BI (2 * ws.length + 1) (99998 - (2 * ws.length + 1)) _ _ _ _ zl zl zl zl (by omega) R;rw[show 99998 - (2 * ws.length + 1) + (2 * ws.length + 1) + 2=100000 by omega]at e;refine⟨A',S1.length,F,W9 (Q8 (Qk (Qq (n:=1) (Q3 rfl rfl) rfl e1)) (Q8 (Qk rfl) (Q8 (Qk (Yv (Q3 rfl rfl))) (Q8 e (Ja rfl))))),d,t,c,?_,by omega⟩;have I:=Z.trans g2;refine⟨F8 I.len g.len,λx hx _=>?_⟩;rw[g.keep x (E4 hx I.len) (by omega)];exact I.keep x hx id
theorem Qgu(g:Gw (λ_=>False) S A):S <+: A:=List.prefix_iff_getElem?.mpr λi hi=>by rw[g.keep i hi id];exact O2 hi
theorem Q2c{xs:List PV}(g:Gw (λ_=>False) S A)(h:A[R]?=zo (.lst xs))(I:S.length<=R)(B:J0 12 (.lst xs)=zi):fin S (.ref R) A=.ok (.lst xs) S:=by
 unfold fin;rw[bO (Qgu g)];have:fz S.length A 16 (.ref R)=fz S.length A 16 (.lst xs):=by
  simp only[fz,bP (show ¬ R < S.length by omega),h]
 rw[this,Uc B (by decide)];rfl
def spV(s:Nat × Bool):PV:=.tup [.int (s.1:Int),.bl s.2]
inductive Pt(ws:List Wy)(ls:List Int)(F:Fd):Nd->List Nd->List (Nat × Bool)->Prop where
 | nil:(zl,zl)∈F->Pt ws ls F zl [] []
 | cons {v u:Nd} {k:Nat} {ns:List Nd} {ss:List (Nat × Bool)}:(v,zo (k,u))∈F->k < ws.length->oth (ws.getD k wy0) (ls.getD k 0) u=zo v->v∉u :: ns->Pt ws ls F u ns ss->Pt ws ls F v (u :: ns) ((k,decide ((ws.getD k wy0).2.1=v)) :: ss)
theorem Pt.mem{v:Nd}(p:Pt ws ls F v ns ss):∀ x∈v :: ns,x∈kys F:=by
 induction p with
 | nil h=>exact λx B=>by rw[show x=zl by simpa using B];exact E8.mpr ⟨_,h,rfl⟩
 | cons h _ _ _ _ I=>
  intro x B;rcases E2.mp B with rfl | B
  ·exact E8.mpr ⟨_,h,rfl⟩
  ·exact I x B
theorem Pt.mono{G:Fd}(hs:∀ x∈F,x∈G){v:Nd}(p:Pt ws ls F v ns ss):Pt ws ls G v ns ss:=by
 induction p with
 | nil h=>exact .nil (hs _ h)
 | cons h h1 h2 B _ I=>exact .cons (hs _ h) h1 h2 B I
theorem Pt.len{v:Nd}(p:Pt ws ls F v ns ss):ss.length=ns.length/\(v :: ns).Nodup:=by
 induction p with
 | nil h=>simp
 | cons _ _ _ I _ B=>exact⟨by rw[E5,E5,B.1],L8.mpr ⟨I,B.2⟩⟩
theorem FT.path(t:FT ws ls F):∀ v∈kys F,∃ ns ss,Pt ws ls F v ns ss:=by
 induction t with
 | base=>exact λv U=>by rw[show v=zl by simpa using U];exact⟨[],[],.nil (by simp)⟩
 | @snoc F v u k t h1 h2 O Y J=>
  intro x B;unfold kys at B;rw[E7]at B;rcases D4.mp B with B | B
  ·obtain⟨ns,ss,p⟩:=J x B;exact⟨ns,ss,p.mono λy I=>D4.mpr (.inl I)⟩
  ·have:x=v:=by simpa using B
   subst this;obtain⟨ns,ss,p⟩:=J u h2;exact⟨_,_,.cons (D4.mpr (.inr (by simp))) O Y (λz=>h1 (p.mem _ z)) (p.mono λy I=>D4.mpr (.inl I))⟩
def room(ws:List Wy)(ls:List Int)(s:Nat × Bool):Int:=if s.2=zi then(ws.getD s.1 wy0).2.2 - ls.getD s.1 0 else ls.getD s.1 0
theorem Pt.room{ws:List Wy}{ls:List Int}{F:Fd}{v:Nd}{ns:List Nd}{ss:List (Nat × Bool)}(p:Pt ws ls F v ns ss):∀ s∈ss,s.1 < ws.length/\1<=room ws ls s:=by
 induction p with
 | nil h=>intro s hs;cases hs
 | @cons v u k ns ss _ h1 h2 B _ I=>
  intro s hs;rcases E2.mp hs with rfl | hs
  ·refine⟨h1,?_⟩;unfold Lw.room;rcases Q6r h2 with⟨_,e2,e3⟩ | ⟨e1,e2,e3⟩
   ·rw[bO (show decide _=zi from bR e2)];show 1<=(ws.getD k wy0).2.2 - ls.getD k 0;omega
   ·have:(ws.getD k wy0).2.1≠v:=λz=>B (by rw[<- z,e1];exact D3)
    rw[bP (show ¬ decide _=zi by simpa using this)];exact e3
  ·exact I s hs
theorem Qf9 (hn:(kys F).Nodup) (a2:D≠R) {P:PV}:∀ {v:Nd} {ns:List Nd} {ss:List (Nat × Bool)},Pt ws ls F v ns ss->∀ (m:Nat) (B:List (Nat × Bool)) (A:Q1) (a5:Option PV),A[D]?=zo (.dtp (Jp stV F))->A[R]?=zo (.lst (B.map spV))->B.length + ss.length<=2000 ->
  ∃ Y b4 b5,Zx X9 Xj (m + ss.length + 1) [zo (.lst (ws.map wyV)),zo (.ref D),zo P,zo (.ref R),zo (ndV v),a5] A=.nx [zo (.lst (ws.map wyV)),zo (.ref D),zo P,zo (.ref R),b4,b5] Y/\Y[R]?=zo (.lst ((B ++ ss).map spV))/\Gw (λt=>t=R) A Y:=by
 intro v ns ss p
 induction p with
 | nil h=>exact λm B A a5 Z U _=>⟨A,_,_,y3 (Qz (Q7 (yu rfl rfl (Qb5 stV Z hn h)) rfl rfl)),by rw[G6];exact U,Gw.refl _ _⟩
 | @cons v u k ns ss h h1 h2 h3 p ih=>
  intro m B A a5 Z U hl;have hg:=Qb5 stV Z hn h;rw[E5]at hl;have a1:=(O1.mp U).1;obtain⟨J,I⟩:∃ J,A.set R (.lst ((B ++ [(k,decide ((ws.getD k wy0).2.1=v))]).map spV))=J:=⟨_,rfl⟩;have O:Jb A (.ref R) [spV (k,decide ((ws.getD k wy0).2.1=v))]=.ok .non J:=by
   rw[qp U (by rw[O0];omega),<- I,E7];rfl
  have d1:J[D]?=zo (.dtp (Jp stV F)):=by rw[<- I,O8 (Ne.symm a2)];exact Z
  have r1:J[R]?=zo (.lst ((B ++ [(k,decide ((ws.getD k wy0).2.1=v))]).map spV)):=by rw[<- I];exact D5 a1
  have g1:Gw (λt=>t=R) A J:=by rw[<- I];exact Gw.put (P:=λt=>t=R) A rfl _
  obtain⟨Y,b4,b5,e,q1,q2⟩:=ih m (B ++ [(k,decide ((ws.getD k wy0).2.1=v))]) J (zo (stV (zo (k,u)))) d1 r1 (by rw[O5];simp;omega);refine⟨Y,b4,b5,?_,by rw[q1];simp,g1.trans q2⟩;rw[E5,show m + (ss.length + 1) + 1=(m + ss.length + 1) + 1 from rfl];have ix:∀ T:Q1,oIx T (.lst (ws.map wyV)) (.int (k:Int))=.ok (wyV (ws.getD k wy0)) T:=λT=>by
   show okO T (atI (ws.map wyV) (k:Int))=_;rw[Wq wyV wy0 ws h1];rfl
  exact K8 (Qz (Q7 (yu rfl rfl hg) rfl rfl)) (Q8 (Qk (yu rfl rfl hg)) (Q8 (K7 rfl (Jg U) (Q3 (J8 (Q3 (Q7 rfl rfl rfl) (Q3 (Q7 (Q7 (Q7 rfl (Q7 rfl rfl rfl) (ix A)) rfl rfl) rfl (Qij A _ v)) rfl)) (show 2<=1000000 by decide)) rfl) O) (Qk (Q7 rfl rfl rfl)))) e
theorem Qnd(t:FT ws ls F)(hl:ws.length<=500)(J:S[D]?=zo (.dtp (Jp stV F))){v:Nd}(p:Pt ws ls F v ns ss):ss.length<=1001/\Vk [.lst (ws.map wyV),.ref D,ndV v] S=.ok (.lst (ss.map spV)) S:=by
 have I:=(O1.mp J).1;have few:=t.few;have B:ss.length<=1001:=by
  have h1:=p.len;have h2:=jx h1.2 p.mem;rw[E5,O0]at h2;omega
 obtain⟨Y,Z,b5,e,O,U⟩:=Qf9 t.nd (D:=D) (R:=S.length) (by omega) (P:=ndV v) p (99999 - ss.length) [] (S ++ [Cell.lst []]) zl (by rw[O3 I];exact J) (by rw[D7 (O9 _),L6];rfl) (by rw[M7];omega);rw[show 99999 - ss.length + ss.length + 1=100000 by omega]at e;have g:Gw (λ_=>False) S Y:=((Gw.add (λt=>t=S.length) S _).trans U).mono λt ht z=>by omega
 exact⟨B,(J7 (show qd [zo (.lst (ws.map wyV)),zo (.ref D),zo (ndV v),zl,zl,zl] S=_ from Q8 (Qk (W1 rfl)) (Q8 (Qk rfl) (Q8 e (Ja rfl))))).trans (Q2c g O (O9 _) (by simp[J0,spV]))⟩
theorem Qrx:∀ (a:Int) (l:List Int),∃ m,Qef (a :: l)=zo m/\m∈a :: l/\∀ x∈a :: l,m<=x:=by
 have key:∀ (l:List Int) (a:Int),(l.foldl (λm x=>if x < m then x else m) a)∈a :: l/\∀ x∈a :: l,(l.foldl (λm x=>if x < m then x else m) a)<=x:=by
  intro l
  induction l with
  | nil=>intro a;exact⟨by simp,λx B=>by rw[show x=a by simpa using B];exact cG _⟩
  | cons b l I=>
   intro a;rw[cS]
   by_cases q:b < a
   ·rw[bO q];obtain⟨h1,h2⟩:=I b;refine⟨O6 _ h1,λx B=>?_⟩;rcases E2.mp B with rfl | B
    ·have:=h2 b D3;omega
    ·exact h2 x B
   ·rw[bP q];obtain⟨h1,h2⟩:=I a;refine⟨?_,λx B=>?_⟩
    ·rcases E2.mp h1 with h | h
     ·rw[h];exact D3
     ·exact O6 _ (O6 _ h)
    ·rcases E2.mp B with rfl | B
     ·exact h2 _ D3
     ·rcases E2.mp B with rfl | B
      ·have:=h2 a D3;omega
      ·exact h2 x (O6 _ B)
 intro a l;exact⟨_,rfl,key l a⟩
theorem Qkc (a1:ls.length=ws.length) (Z:S[Ld]?=zo (.lst (ls.map .int))) (hs:∀ s∈ss,s.1 < ws.length) (hl:ss.length<=2000) (U:ss≠[]) :
  ∃ r,Kq [.lst (ws.map wyV),.ref Ld,.lst (ss.map spV)] S=.ok (.int r) S/\(∃ s∈ss,r=room ws ls s)/\∀ s∈ss,r<=room ws ls s:=by
 have e:=Jn (ga:=Qv (Q6 (Q4 0) (Q6 (Q4 1) Qw))) (me:=Xr) (w:=[]) (Γ0:=[zl,zl,zo (.ref Ld),zo (.lst (ws.map wyV))]) (st:=S) (g:=spV) (f:=λs=>PV.int (room ws ls s)) (Qs _) (ys:=ss) λs h=>by
  have Y:=hs s h;have O:oIx S (.lst (ws.map wyV)) (.int (s.1:Int))=.ok (wyV (ws.getD s.1 wy0)) S:=by
   show okO S (atI (ws.map wyV) (s.1:Int))=_;rw[Wq wyV wy0 ws Y];rfl
  have J:oIx S (.ref Ld) (.int (s.1:Int))=.ok (.int (ls.getD s.1 0)) S:=by
   rw[Q3g,Z];show okO S (atI (ls.map PV.int) (s.1:Int))=_;rw[Wq PV.int 0 ls (by omega)];rfl
  refine⟨_,rfl,?_⟩;unfold room Xr mIf;obtain⟨k,b⟩:=s;cases b with
  | true=>
   rw[bO rfl];exact Q7 (Q7 (Q7 rfl rfl O) rfl rfl) (Q7 rfl rfl J) rfl
  | false=>
   show mOp oIx (Q2 2) (Q2 0) [zo (.int (k:Int)),zo (.bl zb),zo (.ref Ld),zo (.lst (ws.map wyV))] S=.ok (.int (ls.getD k 0)) S;exact Q7 rfl rfl J
 obtain⟨I,B,rfl⟩:∃ I B,ss=I :: B:=by cases ss with
  | nil=>exact absurd rfl U
  | cons a l=>exact⟨a,l,rfl⟩
 obtain⟨r,e1,e2,e3⟩:=Qrx (room ws ls I) (B.map (room ws ls));refine⟨r,(J7 (Ja (Jz (Q3 (Um (Zq (Ug rfl rfl (by rw[O0];omega)) e)) rfl) (S2:=S) (v:=.int r) ?_))).trans (Wr rfl),?_,?_⟩
 ·show Vh (λns=>(Qef ns).map .int) S [.lst ((I :: B).map λs=>PV.int (room ws ls s))]=_
  rw[show(I :: B).map (λs=>PV.int (room ws ls s))=(room ws ls I :: B.map (room ws ls)).map PV.int by rw[<- D8 (f:=room ws ls),F3];rfl,zf,e1];rfl
 ·rw[<- D8 (f:=room ws ls)]at e2;obtain⟨s,h1,h2⟩:=E8.mp e2;exact⟨s,h1,h2.symm⟩
 ·intro s h;exact e3 _ (by rw[<- D8 (f:=room ws ls)];exact E8.mpr ⟨s,h,rfl⟩)
def Q34(a:Int)(ls:List Int)(s:Nat × Bool):List Int:=ls.set s.1 (ls.getD s.1 0 + if s.2=zi then a else -a)
def push(a:Int)(ls:List Int)(ss:List (Nat × Bool)):List Int:=ss.foldl (Q34 a) ls
theorem Q33(a:Int):∀ (ss:List (Nat × Bool)) (ls:List Int),(push a ls ss).length=ls.length
 | [],_=>rfl
 | s :: ss,ls=>by
  show(push a (Q34 a ls s) ss).length=_;rw[Q33 a ss];exact E9
theorem Qd3{mi:ME}{f:Int->Int->Int}{J O:Q1}{o:PV}{xs:List PV}{j b:Int}(h1:mo Γ S=.ok o S1)(h2:mi Γ S1=.ok (.int j) S2)(Z:Yk S2 o=zo xs)(h4:atI xs j=zo (.int a))(U:m Γ S2=.ok (.int b) J)(Y:Wh J o (.int j) (.int (f a b))=zo O):Q1h mo mi f m Γ S=.nx Γ O:=by
 unfold Q1h;rw[h1,Xb,h2,Xb,Z];show(match atI xs j with | some (.int a)=>(m Γ S2).sbind λv I=>(match v with | .int b=>(match Wh I o (.int j) (.int (f a b))with | some B=>SR.nx Γ B | none=>.stuck) | _=>.stuck) | _=>.stuck)=_
 rw[h4];show((m Γ S2).sbind λv I=>(match v with | .int b=>(match Wh I o (.int j) (.int (f a b))with | some B=>SR.nx Γ B | none=>.stuck) | _=>.stuck))=_
 rw[U,Xb];show(match Wh J o (.int j) (.int (f a b))with | some B=>SR.nx Γ B | none=>.stuck)=_
 rw[Y]
theorem Qc4 {Ld:Nat} {a:Int} {V T P:PV} {sv D6:Option PV} {X6:PV} {n:Nat}:∀ (ss:List (Nat × Bool)) (ls:List Int) (A:Q1) (U O:Option PV),ls.length=n->(∀ s∈ss,s.1 < n)->A[Ld]?=zo (.lst (ls.map .int)) ->
  ∃ J Z b9,Jt (Qv (Q6 (Q4 8) (Q6 (Q4 9) Qw))) zg [] (ss.map spV) [zo V,zo (.ref Ld),zo T,zo P,sv,D6,zo X6,zo (.int a),U,O] A=.nx [zo V,zo (.ref Ld),zo T,zo P,sv,D6,zo X6,zo (.int a),Z,b9] J/\J[Ld]?=zo (.lst ((push a ls ss).map .int))/\Gw (λt=>t=Ld) A J
 | [],ls,A,U,O,_,_,I=>⟨A,U,O,Wv (Qs _),I,Gw.refl _ _⟩
 | s :: ss,ls,A,U,O,hn,hs,I=>by
  have hk:s.1 < ls.length:=by rw[hn];exact hs s D3
  have Y:=(O1.mp I).1;have a1:Wh A (.ref Ld) (.int (s.1:Int)) (.int (ls.getD s.1 0 + if s.2=zi then a else -a))=zo (A.set Ld (.lst ((Q34 a ls s).map .int))):=by
   rw[Kt,I];show(ixN (ls.map PV.int).length (s.1:Int)).map _=_;rw[show ixN (ls.map PV.int).length (s.1:Int)=zo s.1 by rw[O0];exact Q27 hk];unfold Q34;rw[dW];rfl
  have B:zg [zo V,zo (.ref Ld),zo T,zo P,sv,D6,zo X6,zo (.int a),zo (.int (s.1:Int)),zo (.bl s.2)] A=.nx [zo V,zo (.ref Ld),zo T,zo P,sv,D6,zo X6,zo (.int a),zo (.int (s.1:Int)),zo (.bl s.2)] (A.set Ld (.lst ((Q34 a ls s).map .int))):=by
   have hv:mIf (toB (Q2 9)) (Q2 7) (Q8t (Q2 7)) [zo V,zo (.ref Ld),zo T,zo P,sv,D6,zo X6,zo (.int a),zo (.int (s.1:Int)),zo (.bl s.2)] A=.ok (.int (if s.2=zi then a else -a)) A:=by
    obtain⟨k,b⟩:=s;cases b <;> rfl
   refine Qd3 rfl rfl (Jg I) (a:=ls.getD s.1 0) ?_ hv a1;rw[Wq PV.int 0 ls hk]
  obtain⟨J,Z,b9,e,q1,q2⟩:=Qc4 (V:=V) (T:=T) (P:=P) (sv:=sv) (D6:=D6) (X6:=X6) ss (Q34 a ls s) (A.set Ld (.lst ((Q34 a ls s).map .int))) (zo (.int (s.1:Int))) (zo (.bl s.2)) ((Q33 a [s] ls).trans hn) (λx hx=>hs x (O6 _ hx)) (D5 Y)
  exact⟨J,Z,b9,Y7 (Qs _) rfl B e,q1,(Gw.put (P:=λt=>t=Ld) A rfl _).trans q2⟩
theorem Qt7{i:Nat}{f:Int->Int->Int}{b:Int}(h1:Γ[i]?=zo (zo (.int a)))(h2:m Γ S=.ok (.int b) S1):Qhs i f m Γ S=.nx (Γ.set i (zo (.int (f a b)))) S1:=by
 unfold Qhs;rw[h1];show(m Γ S).sbind _=_;rw[h2];rfl
abbrev sG(ws:List Wy)(Ld:Nat)(t:Tr)(sv:Int)(D:Nat)(a6 a7 a8 a9:Option PV):Gam:=[zo (.lst (ws.map wyV)),zo (.ref Ld),zo (trV t),zo (ndV (zo (t.1.2,t.1.1))),zo (.int sv),zo (.ref D),a6,a7,a8,a9]
theorem Qa0 (hl:ws.length<=500) (a4:∃ k,k < ws.length/\(ws.getD k wy0).1=zl) {t:Tr} (J:List Int->Int->Prop) (hJ:∀ (ls:List Int) (sv a:Int) (F:Fd) (ns:List Nd) (ss:List (Nat × Bool)),ls.length=ws.length->J ls sv->FT ws ls F->Pt ws ls F (zo (t.1.2,t.1.1)) ns ss->1<=a->(∀ s∈ss,a<=room ws ls s)->a<=t.2 - sv->J (push a ls ss) (sv + a)):∀ (d m:Nat) (ls:List Int) (sv:Int) (D:Nat) (F:Fd) (A:Q1) (Y Z U O:Option PV),(t.2 - sv).toNat<=d->sv<=t.2->ls.length=ws.length->J ls sv->A[Ld]?=zo (.lst (ls.map .int))->A[D]?=zo (.dtp (Jp stV F))->FT ws ls F->(∀ u∈kys F,Cld ws ls F u) ->
  ∃ A' B I D' F' b6 b7 b8 b9,Zx K9 zh (m + d + 1) (sG ws Ld t sv D Y Z U O) A=.nx (sG ws Ld t I D' b6 b7 b8 b9) A'/\I<=t.2/\B.length=ws.length/\J B I/\A'[Ld]?=zo (.lst (B.map .int))/\FT ws B F'/\(∀ u∈kys F',Cld ws B F' u)/\(I=t.2\/zo (t.1.2,t.1.1)∉kys F')/\Gw (λx=>x=Ld) A A':=by
 have wt:∀ {A:Q1} {D:Nat} {F:Fd} (sv:Int) (Y Z U O:Option PV),A[D]?=zo (.dtp (Jp stV F))->K9 (sG ws Ld t sv D Y Z U O) A=.ok (decide (sv < t.2) && decide (zo (t.1.2,t.1.1)∈kys F)) A:=λsv Y Z U O hD=>
  Q7h (Qz (Q7 rfl (Q7 rfl rfl rfl) (Q08 _ _ _))) (Qz (Q7 rfl rfl ((Qin stV hD (zo (t.1.2,t.1.1)) zb).trans (by rw[dz]))))
 have stop:∀ {A:Q1} {D:Nat} {F:Fd} {ls:List Int} (n:Nat) (sv:Int) (Y Z U O:Option PV),(decide (sv < t.2) && decide (zo (t.1.2,t.1.1)∈kys F))=zb->sv<=t.2->ls.length=ws.length->J ls sv->A[Ld]?=zo (.lst (ls.map .int))->A[D]?=zo (.dtp (Jp stV F))->FT ws ls F->(∀ u∈kys F,Cld ws ls F u) ->
   ∃ A' B I D' F' b6 b7 b8 b9,Zx K9 zh (n + 1) (sG ws Ld t sv D Y Z U O) A=.nx (sG ws Ld t I D' b6 b7 b8 b9) A'/\I<=t.2/\B.length=ws.length/\J B I/\A'[Ld]?=zo (.lst (B.map .int))/\FT ws B F'/\(∀ u∈kys F',Cld ws B F' u)/\(I=t.2\/zo (t.1.2,t.1.1)∉kys F')/\Gw (λx=>x=Ld) A A':=by
  intro A D F ls n sv Y Z U O hf h1 h2 h3 h4 h5 h6 h7;have w:=wt sv Y Z U O h5;rw[hf]at w;refine⟨A,ls,sv,D,F,Y,Z,U,O,y3 w,h1,h2,h3,h4,h6,h7,?_,Gw.refl _ _⟩
  by_cases q:sv < t.2
  ·rw[bR q,cu]at hf;exact .inr (of_decide_eq_false hf)
  ·exact .inl (by omega)
 intro d
 induction d with
 | zero=>
  intro m ls sv D F A Y Z U O hd h1 h2 h3 h4 h5 h6 h7;exact stop m sv Y Z U O (by rw[bQ (by omega)];rfl) h1 h2 h3 h4 h5 h6 h7
 | succ d ih=>
  intro m ls sv D F A Y Z U O hd h1 h2 h3 h4 h5 h6 h7;cases hc:(decide (sv < t.2) && decide (zo (t.1.2,t.1.1)∈kys F))with
  | false=>exact stop (m + d + 1) sv Y Z U O hc h1 h2 h3 h4 h5 h6 h7
  | true=>
   have w:=wt sv Y Z U O h5;rw[hc]at w;obtain⟨c1,c2⟩:=eF.mp hc;have c1:=of_decide_eq_true c1;have c2:=of_decide_eq_true c2;obtain⟨ns,ss,p⟩:=h6.path _ c2;obtain⟨l1,eb⟩:=Qnd h6 hl h5 p;have hr:=p.room;have a5:ss≠[]:=by
    intro z;subst z;cases p
   obtain⟨r,er,⟨s0,a3,r0⟩,hrm⟩:=Qkc h2 h4 (ss:=ss) (λs hs=>(hr s hs).1) (by omega) a5
   have b1:1<=r:=by rw[r0];exact(hr s0 a3).2
   obtain⟨a,ha⟩:∃ a,a=if t.2 - sv < r then t.2 - sv else r:=⟨_,rfl⟩
   have a2:1<=a/\a<=r/\a<=t.2 - sv:=by
    rw[ha]
    split <;> omega
   obtain⟨A1,b8,b9,e1,q1,g1⟩:=Qc4 (Ld:=Ld) (a:=a) (V:=.lst (ws.map wyV)) (T:=trV t) (P:=ndV (zo (t.1.2,t.1.1))) (sv:=zo (.int sv)) (D6:=zo (.ref D)) (X6:=.lst (ss.map spV)) (n:=ws.length) ss ls A U O h2 (λs hs=>(hr s hs).1) h4
   have a1:(push a ls ss).length=ws.length:=(Q33 a ss ls).trans h2;obtain⟨A2,D2,F2,e2,d2,t2,b0,g2,_⟩:=ye hl a1 a4 q1;have L2:A2[Ld]?=zo (.lst ((push a ls ss).map .int)):=g2.at q1 id;obtain⟨A',B,I,D',F',x6,x7,x8,x9,e,k1,k2,k3,k4,k5,k6,k7,k8⟩:=ih m (push a ls ss) (sv + a) D2 F2 A2 (zo (.lst (ss.map spV))) (zo (.int a)) b8 b9 (by omega) (by omega) a1 (hJ ls sv a F ns ss h2 h3 h6 p a2.1 (λs hs=>Int.le_trans a2.2.1 (hrm s hs)) a2.2.2) L2 d2 t2 b0
   refine⟨A',B,I,D',F',x6,x7,x8,x9,?_,k1,k2,k3,k4,k5,k6,k7,(g1.trans (g2.mono λ_ _ z=>z.elim)).trans k8⟩;refine K8 w (Q8 (Qk (Qq (n:=3) (Q3 rfl (Q3 rfl (Q3 rfl rfl))) rfl eb)) (Q8 (Qk (Jz (Q3 (Qq (n:=3) (Q3 rfl (Q3 rfl (Q3 rfl rfl))) rfl er) (Q3 (Q7 (Q7 rfl rfl rfl) rfl rfl) rfl)) (S2:=A) (v:=.int a) ?_)) (Q8 (Ju (Ug rfl rfl (by rw[O0];omega)) e1) (Q8 (Qt7 rfl rfl) (Qk (Qq (n:=2) (Q3 rfl (Q3 rfl rfl)) rfl e2)))))) e;rw[Q0j,ha]
theorem Qg5 (hl:ws.length<=500) (U:∃ k,k < ws.length/\(ws.getD k wy0).1=zl) {t:Tr} (J:List Int->Int->Prop) (hJ:∀ (ls:List Int) (sv a:Int) (F:Fd) (ns:List Nd) (ss:List (Nat × Bool)),ls.length=ws.length->J ls sv->FT ws ls F->Pt ws ls F (zo (t.1.2,t.1.1)) ns ss->1<=a->(∀ s∈ss,a<=room ws ls s)->a<=t.2 - sv->J (push a ls ss) (sv + a)) (ht:0<=t.2/\t.2<=1000000) (h2:ls.length=ws.length) (h3:J ls 0) (h4:S[Ld]?=zo (.lst (ls.map .int))) :
  ∃ Y B I O,Q0p [.lst (ws.map wyV),.ref Ld,trV t] S=.ok (.int I) Y/\I<=t.2/\B.length=ws.length/\J B I/\Y[Ld]?=zo (.lst (B.map .int))/\FT ws B O/\(∀ u∈kys O,Cld ws B O u)/\(I=t.2\/zo (t.1.2,t.1.1)∉kys O)/\Gw (λx=>x=Ld) S Y:=by
 obtain⟨A2,D2,F2,e2,d2,t2,Z,g2,_⟩:=ye hl h2 U h4;obtain⟨A',B,I,D',O,x6,x7,x8,x9,e,k1,k2,k3,k4,k5,k6,k7,k8⟩:=Qa0 hl U J hJ t.2.toNat (1999999 - t.2.toNat) ls 0 D2 F2 A2 zl zl zl zl (by omega) ht.1 h2 h3 (g2.at h4 id) d2 t2 Z;rw[show 1999999 - t.2.toNat + t.2.toNat + 1=2000000 by omega]at e;exact⟨A',B,I,O,W9 (Q8 (Qk (J8 (Q3 (Q7 rfl rfl rfl) (Q3 (Q7 rfl rfl rfl) rfl)) (show 2<=1000000 by decide))) (Q8 (Qk rfl) (Q8 (Qk (Qq (n:=2) (Q3 rfl (Q3 rfl rfl)) rfl e2)) (Q8 e (Ja rfl))))),k1,k2,k3,k4,k5,k6,k7,(g2.mono λ_ _ z=>z.elim).trans k8⟩
def wsp(xs:List Int):List Wy:=(bT xs.length).map λh=>(zl,zo (h,0),xs.getD h 0)
def wst(xs:List Int)(t:Nat):List Wy:=(bT xs.length).map λh=>(zo (h,t),zo (h,t + 1),xs.sum)
def wrd(ts:List Tr)(t:Nat):List Wy:=ts.map λz=>(zo (z.1.1,t),zo (z.1.2,t + 1),z.2)
def wsQ(xs:List Int)(rs:List (List Tr)):List Wy:=wsp xs ++ (bT rs.length).flatMap λt=>wst xs t ++ wrd (rs.getD t []) t
theorem Q68(xs:List Int)(t:Nat):(wst xs t).length=xs.length:=by unfold wst;rw[O0,F6]
theorem Qbh(ts:List Tr)(t:Nat):(wrd ts t).length=ts.length:=O0 _
theorem Qye(n:Nat):Wn 0 n=(bT n).map λi:Nat=>PV.int (i:Int):=by
 unfold Wn;exact L5 λi _=>by rw[dS]
theorem Qd0(h:m Γ S=.ok (.tup l) S)(B:l.length<=1000):zu (Q0 m Q5) Γ S=.ok (Vt 0 l,[]) S:=by
 unfold zu;rw[Q3 h rfl,Qp];show(if l.length<=lim then Res.ok (Vt 0 l,[]) S else .stuck)=_;rw[bO (by rw[Jr];omega)]
theorem Qn2(ws:List Wy):J0 12 (.lst (ws.map wyV))=zi:=by
 have:∀ v:Nd,J0 10 (ndV v)=zi:=λv=>by cases v <;> rfl
 simp[J0,wyV,this]
theorem Q6a(Q:Qok xs rs ks):(wsQ xs rs).length<=500:=by
 have h1:=Q.x4;have h2:=Q.r4;have key:∀ m,m<=rs.length->((bT m).flatMap λt=>wst xs t ++ wrd (rs.getD t []) t).length<=m * 104:=by
  intro m
  induction m with
  | zero=>intro _;simp
  | succ m B=>
   intro J;rw[hW,fO,O5];have:=B (by omega);have I:((List.flatMap (λt=>wst xs t ++ wrd (rs.getD t []) t) [m])).length<=104:=by
    rw[hX,O5];rw[Q68,Qbh];have:rs.getD m []∈rs:=by rw[O7,O2 (by omega)];exact F9 _
    have:=(Q.rb _ this).len;omega
   omega
 unfold wsQ wsp;rw[O5,O0,F6];have:=key rs.length (O9 _);omega
theorem Qjs(Q:Qok xs rs ks)(S:Q1):Kp [qV xs rs ks] S=.ok (.lst ((wsQ xs rs).map wyV)) S:=by
 have h4:=Q.x4;have a5:=Q.r4;have a2:-1000000<=(xs.length:Int)/\(xs.length:Int)<=1000000:=by omega
 have e1:=Jn (ga:=Qv (Q6 (Q4 0) (Q6 (Q4 1) Qw))) (me:=jn) (w:=[]) (Γ0:=[zl,zl]) (st:=S) (g:=λi:Nat=>PV.tup [.int (i:Int),.int (xs.getD i 0)]) (f:=λh:Nat=>wyV (zl,zo (h,0),xs.getD h 0)) (Qs _) (ys:=bT xs.length) λh _=>⟨_,rfl,J8 (Q3 rfl (Q3 (J8 (Q3 rfl (Q3 rfl rfl)) (show 2<=1000000 by decide)) (Q3 rfl rfl))) (show 3<=1000000 by decide)⟩
 rw[<- Q79 PV.int 0 xs,show(bT xs.length).map (λh:Nat=>wyV (zl,zo (h,0),xs.getD h 0))=(wsp xs).map wyV by unfold wsp;rw[F3];rfl]at e1
 obtain⟨a6,S',e2,O,a4,rfl,q,g⟩:=W6 (g:=λi:Nat=>PV.tup [.int (i:Int),tsV (rs.getD i [])]) (xs:=bT rs.length) (ga:=Qv (Q6 (Q4 3) (Q6 (Q4 4) Qw))) (body:=ju) (w:=[]) (Γ:=[zo (qV xs rs ks),zo (.tup (xs.map .int)),zo (.ref S.length),zl,zl]) (st:=S ++ [.lst ((wsp xs).map wyV)])
  (λm Γ st=>∃ O a4,Γ=[zo (qV xs rs ks),zo (.tup (xs.map .int)),zo (.ref S.length),O,a4]/\st[S.length]?=zo (.lst ((wsp xs ++ (bT m).flatMap λt=>wst xs t ++ wrd (rs.getD t []) t).map wyV))/\Gw (λt=>t=S.length) (S ++ [.lst ((wsp xs).map wyV)]) st)
  (λ_ _ _ _ x U=>by cases U)
  (λm x Γ st U ⟨O,a4,Y,q,g⟩=>by
   obtain⟨hm,rfl⟩:m < rs.length/\x=m:=by
    obtain⟨h1,h2⟩:=O1.mp U;rw[F6]at h1;rw[fN]at h2;exact⟨h1,h2.symm⟩
   subst Y;have Z:rs.getD x []∈rs:=by rw[O7,O2 hm];exact F9 _
   have a7:=(Q.rb _ Z).len;have a1:(wsp xs ++ (bT x).flatMap λt=>wst xs t ++ wrd (rs.getD t []) t).length<=1000:=by
    have h1:=Q6a Q;unfold wsQ at h1;have h2:((bT x).flatMap λt=>wst xs t ++ wrd (rs.getD t []) t).length<=((bT rs.length).flatMap λt=>wst xs t ++ wrd (rs.getD t []) t).length:=by
     rw[show rs.length=x + (rs.length - x) by omega,List.range_add,fO,O5];omega
    rw[O5]at h1 ⊢;omega
   have c2:=Jn (ga:=Q4 0) (me:=jm) (w:=[]) (Γ0:=[zl,zo (.int (x:Int)),zo (.tup (xs.map .int))]) (st:=st) (g:=λi:Nat=>PV.int (i:Int)) (f:=λh:Nat=>wyV (zo (h,x),zo (h,x + 1),xs.sum)) (Qs _) (ys:=bT xs.length) λh _=>⟨_,rfl,J8 (Q3 (J8 (Q3 rfl (Q3 rfl rfl)) (show 2<=1000000 by decide)) (Q3 (J8 (Q3 rfl (Q3 (Q7 rfl rfl (qx _ _ _)) rfl)) (show 2<=1000000 by decide)) (Q3 (Jz (Q3 rfl rfl) (Qf5 _ _ _)) rfl))) (show 3<=1000000 by decide)⟩
   rw[show(bT xs.length).map (λh:Nat=>wyV (zo (h,x),zo (h,x + 1),xs.sum))=(wst xs x).map wyV by unfold wst;rw[F3];rfl]at c2
   have s1:=Qcy q (ys:=(wst xs x).map wyV) (by rw[O0,O0,Q68];omega);rw[<- E7]at s1;obtain⟨J,B⟩:∃ J,st.set S.length (.lst ((wsp xs ++ (bT x).flatMap (λt=>wst xs t ++ wrd (rs.getD t []) t) ++ wst xs x).map wyV))=J:=⟨_,rfl⟩
   rw[B]at s1;have I:S.length < st.length:=(O1.mp q).1;have q1:J[S.length]?=zo (.lst ((wsp xs ++ (bT x).flatMap (λt=>wst xs t ++ wrd (rs.getD t []) t) ++ wst xs x).map wyV)):=by rw[<- B];exact D5 I
   have c3:=Jn (ga:=Qv (Q6 (Q4 0) (Q6 (Q4 1) (Q6 (Q4 2) Qw)))) (me:=jk) (w:=[]) (Γ0:=[zl,zl,zl,zo (.int (x:Int))]) (st:=J) (g:=trV) (f:=λz:Tr=>wyV (zo (z.1.1,x),zo (z.1.2,x + 1),z.2)) (Qs _) (ys:=rs.getD x []) λz _=>⟨_,rfl,J8 (Q3 (J8 (Q3 rfl (Q3 rfl rfl)) (show 2<=1000000 by decide)) (Q3 (J8 (Q3 rfl (Q3 (Q7 rfl rfl (qx _ _ _)) rfl)) (show 2<=1000000 by decide)) (Q3 rfl rfl))) (show 3<=1000000 by decide)⟩
   rw[show(rs.getD x []).map (λz:Tr=>wyV (zo (z.1.1,x),zo (z.1.2,x + 1),z.2))=(wrd (rs.getD x []) x).map wyV by unfold wrd;rw[F3];rfl]at c3
   have s2:=Qcy q1 (ys:=(wrd (rs.getD x []) x).map wyV) (by rw[O0,O0,O5,Q68,Qbh];omega);rw[<- E7]at s2;refine⟨_,rfl,_,_,Q8 (K7 rfl (Jg q) (Q3 (Um (Zq (Q56 (n:=xs.length) (by omega) (Jz (Q3 rfl rfl) (by rw[Wa,O0]))) (by rw[Qye];exact c2))) rfl) s1) (K7 rfl (Jg q1) (Q3 (Um (Zq (Ug rfl rfl (by rw[O0];omega)) c3)) rfl) s2),_,_,rfl,?_,?_⟩
   ·rw[D5 (by rw[<- B,E9];exact I),hW,fO,hX,M0,M0]
   ·rw[<- B];exact(g.trans (Gw.put (P:=λt=>t=S.length) st rfl _)).trans (Gw.put (P:=λt=>t=S.length) _ rfl _))
  ⟨_,_,rfl,by rw[List.range_zero,List.flatMap_nil,G6,D7 (O9 _),L6];rfl,Gw.refl _ _⟩
 rw[<- Q79 tsV [] rs]at e2;rw[F6]at q;have g':Gw (λ_=>False) S S':=((Gw.add (λt=>t=S.length) S _).trans g).mono λt ht z=>by omega
 exact(J7 (show Q11 [zo (qV xs rs ks),zl,zl,zl,zl] S=_ from Q8 (Qk (Q7 rfl rfl rfl)) (Q8 (Qk (W1 (Zq (Qd0 rfl (by rw[O0];omega)) e1))) (Q8 (Ju (Qd0 (Q7 rfl rfl rfl) (by rw[O0];omega)) e2) (Ja rfl))))).trans (Q2c g' q (O9 _) (Qn2 _))
structure Mv4 where
 t:Int
 i:Int
 j:Int
 k:Int
variable{ms:List Mv4}
def mvI(m:Mv4):List Int:=[m.t,m.i,m.j,m.k]
def mvV(m:Mv4):PV:=qv (mvI m)
def InN(n:Nat)(m:Mv4):Prop:=(0<=m.i/\m.i < n)/\0<=m.j/\m.j < n
def Yp(xs:List Int)(at' d:Int):List Int:=xs.set at'.toNat (xs.getD at'.toNat 0 + d)
theorem Zr(xs:List Int)(a d:Int):(Yp xs a d).length=xs.length:=by unfold Yp;simp
theorem Q0m(h0:0<=a)(B:a < xs.length)(d:Int)(k:Nat):(Yp xs a d).getD k 0=xs.getD k 0 + if(k:Int)=a then d else 0:=by
 unfold Yp;rw[O7,dy,O7,O7]
 by_cases q:a.toNat=k
 ·rw[bO q,bO (by omega),bO (by omega),q];rfl
 ·rw[bP q,bP (by omega)];simp
def Qi8(ms:List Mv4)(k:Nat):Int:=(ms.map λm=>if(k:Int)=m.i then m.k else 0).sum
def Qrv(ms:List Mv4)(k:Nat):Int:=(ms.map λm=>if(k:Int)=m.j then m.k else 0).sum
def Uw(xs:List Int)(ms:List Mv4):List Int:=ms.foldl (λxs m=>Yp xs m.i (-m.k)) xs
def zz(xs:List Int)(ms:List Mv4):List Int:=ms.foldl (λxs m=>Yp xs m.j m.k) xs
theorem xh(ms:List Mv4):∀ xs,(Uw xs ms).length=xs.length:=by
 induction ms with
 | nil=>intro xs;rfl
 | cons m ms B=>intro xs;show(Uw (Yp xs m.i (-m.k)) ms).length=_;rw[B,Zr]
theorem Q67(ms:List Mv4):∀ xs,(zz xs ms).length=xs.length:=by
 induction ms with
 | nil=>intro xs;rfl
 | cons m ms B=>intro xs;show(zz (Yp xs m.j m.k) ms).length=_;rw[B,Zr]
theorem Qfs(h:∀ m∈ms,InN n m):∀ {xs:List Int},xs.length=n->∀ k,(Uw xs ms).getD k 0=xs.getD k 0 - Qi8 ms k:=by
 induction ms with
 | nil=>intro xs _ k;show xs.getD k 0=xs.getD k 0 - 0;omega
 | cons m ms U=>
  intro xs I k;have J:=h m (by simp);show(Uw (Yp xs m.i (-m.k)) ms).getD k 0=_;rw[U (λO B=>h O (O6 _ B)) (by rw[Zr];exact I),Q0m J.1.1 (by rw[I];exact J.1.2)]
  unfold Qi8;rw[D8,cH]
  split <;> omega
theorem Qfb(h:∀ m∈ms,InN n m):∀ {xs:List Int},xs.length=n->∀ k,(zz xs ms).getD k 0=xs.getD k 0 + Qrv ms k:=by
 induction ms with
 | nil=>intro xs _ k;show xs.getD k 0=xs.getD k 0 + 0;omega
 | cons m ms U=>
  intro xs I k;have J:=h m (by simp);show(zz (Yp xs m.j m.k) ms).getD k 0=_;rw[U (λO B=>h O (O6 _ B)) (by rw[Zr];exact I),Q0m J.2.1 (by rw[I];exact J.2.2)]
  unfold Qrv;rw[D8,cH]
  split <;> omega
abbrev brΓ(H M:PV)(L:Nat)(a3 a4 a5 a6:Option PV):Gam:=[zo H,zo M,zo (.ref L),a3,a4,a5,a6]
theorem Qjj{d:Int}(I:S[L]?=zo (.lst (xs.map .int)))(h0:0<=a)(O:a < xs.length):Yk S (.ref L)=zo (xs.map .int)/\atI (xs.map PV.int) a=zo (.int (xs.getD a.toNat 0))/\Wh S (.ref L) (.int a) (.int (xs.getD a.toNat 0 + d))=zo (S.set L (.lst ((Yp xs a d).map .int))):=by
 obtain⟨k,rfl⟩:∃ k:Nat,a=k:=⟨a.toNat,by omega⟩;have J:k < xs.length:=by omega
 refine⟨by simp[I],?_,?_⟩
 ·rw[Q7g,Sm.atI_get (Q19 J 0)];rfl
 ·have hi:ixN (xs.map PV.int).length (k:Int)=zo k:=by
   rw[O0];unfold ixN;rw[bO (by omega)];simp;omega
  show(match S[L]? with | some (.lst B)=>(ixN B.length (k:Int)).map λn=>S.set L (.lst (B.set n (.int (xs.getD (k:Int).toNat 0 + d)))) | _=>zl)=_
  rw[I];show(ixN (xs.map PV.int).length (k:Int)).map _=_;rw[hi];unfold Yp;rw[dW];rfl
theorem br1{n:Nat}{H M:PV}{L:Nat}:∀ {ms:List Mv4} {S:Q1} {xs:List Int},(∀ m∈ms,InN n m)->xs.length=n->S[L]?=zo (.lst (xs.map .int))->∀ B a4 J I,∃ Z b4 U Y,Jt (Qv (Q6 (Q4 3) (Q6 (Q4 4) (Q6 (Q4 5) (Q6 (Q4 6) Qw))))) Yb [] (ms.map mvV) (brΓ H M L B a4 J I) S=.nx (brΓ H M L Z b4 U Y) (S.set L (.lst ((Uw xs ms).map .int)))
 | [],S,xs,_,_,O,B,a4,J,I=>⟨B,a4,J,I,by
  rw[show Uw xs []=xs from rfl,show S.set L (.lst (xs.map PV.int))=S from by
   refine dP λt=>?_
   by_cases z:L=t
   ·subst z;rw[D5 (O1.mp O).1,O]
   ·rw[O8 z]]
  simp[Jt]⟩
 | m :: ms,S,xs,h,hx,O,B,a4,J,I=>by
  have hm:=h m (by simp);obtain⟨g1,g2,g3⟩:=Qjj (d:=-m.k) O hm.1.1 (by rw[hx];exact hm.1.2);have a2:=(O1.mp O).1;obtain⟨Z,b4,U,Y,e⟩:=br1 (H:=H) (M:=M) (L:=L) (ms:=ms) (S:=S.set L (.lst ((Yp xs m.i (-m.k)).map .int))) (xs:=Yp xs m.i (-m.k)) (λm' a1=>h m' (O6 _ a1)) (by rw[Zr];exact hx) (D5 a2) (zo (.int m.t)) (zo (.int m.i)) (zo (.int m.j)) (zo (.int m.k))
  refine⟨Z,b4,U,Y,?_⟩;rw[hZ]at e;have bd:Yb (brΓ H M L (zo (.int m.t)) (zo (.int m.i)) (zo (.int m.j)) (zo (.int m.k))) S=.nx (brΓ H M L (zo (.int m.t)) (zo (.int m.i)) (zo (.int m.j)) (zo (.int m.k))) (S.set L (.lst ((Yp xs m.i (-m.k)).map .int))):=by
   have a7:Wh S (.ref L) (.int m.i) (.int (xs.getD m.i.toNat 0 - m.k))=zo (S.set L (.lst ((Yp xs m.i (-m.k)).map .int))):=by
    rw[show xs.getD m.i.toNat 0 - m.k=xs.getD m.i.toNat 0 + -m.k by omega];exact g3
   unfold brΓ;generalize xs.getD m.i.toNat 0=x,(Yp xs m.i (-m.k)).map PV.int=yv,xs.map PV.int=xv at*;simp![Yb,g1,g2,a7,-Q0a,-Kt]
  rw[D8,Jt,bO (by simp),show(Qv (Q6 (Q4 3) (Q6 (Q4 4) (Q6 (Q4 5) (Q6 (Q4 6) Qw))))) (mvV m) (brΓ H M L B a4 J I)=zo (brΓ H M L (zo (.int m.t)) (zo (.int m.i)) (zo (.int m.j)) (zo (.int m.k)))from rfl];simp only[bd];exact e
theorem br2{n:Nat}{H M:PV}{L:Nat}:∀ {ms:List Mv4} {S:Q1} {xs:List Int},(∀ m∈ms,InN n m)->xs.length=n->S[L]?=zo (.lst (xs.map .int))->∀ B a4 J I,∃ Y Z b5 U,Jt (Qv (Q6 (Q4 3) (Q6 (Q4 4) (Q6 (Q4 5) (Q6 (Q4 6) Qw))))) Ya [] (ms.map mvV) (brΓ H M L B a4 J I) S=.nx (brΓ H M L Y Z b5 U) (S.set L (.lst ((zz xs ms).map .int)))
 | [],S,xs,_,_,O,B,a4,J,I=>⟨B,a4,J,I,by
  rw[show zz xs []=xs from rfl,show S.set L (.lst (xs.map PV.int))=S from by
   refine dP λt=>?_
   by_cases z:L=t
   ·subst z;rw[D5 (O1.mp O).1,O]
   ·rw[O8 z]]
  simp[Jt]⟩
 | m :: ms,S,xs,h,hx,O,B,a4,J,I=>by
  have hm:=h m (by simp);obtain⟨g1,g2,g3⟩:=Qjj (d:=m.k) O hm.2.1 (by rw[hx];exact hm.2.2);have a1:=(O1.mp O).1;obtain⟨Y,Z,b5,U,e⟩:=br2 (H:=H) (M:=M) (L:=L) (ms:=ms) (S:=S.set L (.lst ((Yp xs m.j m.k).map .int))) (xs:=Yp xs m.j m.k) (λm' a2=>h m' (O6 _ a2)) (by rw[Zr];exact hx) (D5 a1) (zo (.int m.t)) (zo (.int m.i)) (zo (.int m.j)) (zo (.int m.k))
  refine⟨Y,Z,b5,U,?_⟩;rw[hZ]at e;have bd:Ya (brΓ H M L (zo (.int m.t)) (zo (.int m.i)) (zo (.int m.j)) (zo (.int m.k))) S=.nx (brΓ H M L (zo (.int m.t)) (zo (.int m.i)) (zo (.int m.j)) (zo (.int m.k))) (S.set L (.lst ((Yp xs m.j m.k).map .int))):=by
   unfold brΓ;generalize xs.getD m.j.toNat 0=x,(Yp xs m.j m.k).map PV.int=yv,xs.map PV.int=xv at*;simp![Ya,g1,g2,g3,-Q0a,-Kt]
  rw[D8,Jt,bO (by simp),show(Qv (Q6 (Q4 3) (Q6 (Q4 4) (Q6 (Q4 5) (Q6 (Q4 6) Qw))))) (mvV m) (brΓ H M L B a4 J I)=zo (brΓ H M L (zo (.int m.t)) (zo (.int m.i)) (zo (.int m.j)) (zo (.int m.k)))from rfl];simp only[bd];exact e
theorem Qcd:∀ (a:Int) (l:List Int),∃ m,Qef (a :: l)=zo m/\(m < 0 <-> ∃ x∈a :: l,x < 0):=by
 have key:∀ (l:List Int) (a:Int),(l.foldl (λm x=>if x < m then x else m) a < 0 <-> ∃ x∈a :: l,x < 0):=by
  intro l
  induction l with
  | nil=>intro a;simp
  | cons b l I=>
   intro a;rw[cS,I];constructor
   ·rintro ⟨x,B,hn⟩;rcases E2.mp B with rfl | B
    ·by_cases q:b < a
     ·rw[bO q]at hn;exact⟨b,by simp,hn⟩
     ·rw[bP q]at hn;exact⟨a,by simp,hn⟩
    ·exact⟨x,by simp[B],hn⟩
   ·rintro ⟨x,B,hn⟩;rcases E2.mp B with rfl | B
    ·by_cases q:b < x
     ·exact⟨b,by simp[q],by omega⟩
     ·exact⟨x,by simp[q],hn⟩
    ·rcases E2.mp B with rfl | B
     ·by_cases q:x < a
      ·exact⟨x,by simp[q],hn⟩
      ·exact⟨a,by simp[q],by omega⟩
     ·exact⟨x,by simp[B],hn⟩
 intro a l;exact⟨_,rfl,key l a⟩
def Xt(xs:List Int)(ms:List Mv4):Option (List Int):=if(Uw xs ms).all (λx=>decide (0<=x))=zi then zo (zz (Uw xs ms) ms)else zl
def Qv6:Option (List Int)->PV
 | none=>.non
 | some ys=>.lst (ys.map .int)
theorem Kc(S:Q1)(c d:Cell):(S ++ [c]).set S.length d=S ++ [d]:=by
 rw[cv _ _ (O9 _),L6];rfl
theorem Qf7(hn:1<=n)(a5:n<=8)(h:∀ m∈ms,InN n m)(a4:ms.length<=100000)(O:xs.length=n)(S:Q1):Yd [.lst (xs.map .int),.lst (ms.map mvV)] S=.ok (Qv6 (Xt xs ms)) S:=by
 have h0:(S ++ [Cell.lst (xs.map .int)])[S.length]?=zo (.lst (xs.map .int)):=by simp
 obtain⟨b3,b4,b5,b6,e1⟩:=br1 (H:=.lst (xs.map .int)) (M:=.lst (ms.map mvV)) h O h0 zl zl zl zl;rw[Kc]at e1;have h1:(S ++ [Cell.lst ((Uw xs ms).map .int)])[S.length]?=zo (.lst ((Uw xs ms).map .int)):=by simp
 obtain⟨c3,c4,c5,c6,e2⟩:=br2 (H:=.lst (xs.map .int)) (M:=.lst (ms.map mvV)) h (by rw[xh];exact O) h1 b3 b4 b5 b6;rw[Kc]at e2;have Y:=xh ms xs;obtain⟨a,l,a2⟩:∃ a l,Uw xs ms=a :: l:=by
  cases z:Uw xs ms with
  | nil=>rw[z]at Y;simp at Y;omega
  | cons a l=>exact⟨a,l,rfl⟩
 obtain⟨mn,U,B⟩:=Qcd a l;rw[<- a2]at U B;have I:jt (S ++ [Cell.lst ((Uw xs ms).map .int)]) [.ref S.length]=.ok (.int mn) (S ++ [Cell.lst ((Uw xs ms).map .int)]):=by
  show Vh (λns=>(Qef ns).map .int) _ [.ref S.length]=_
  have hs:Yf (S ++ [Cell.lst ((Uw xs ms).map .int)]) (.ref S.length)=zo ((Uw xs ms).map .int):=by
   simp[Yf]
  unfold Vh;simp only[hs,dR,Q0d,U];rfl
 have a1:(ms.map mvV).length<=1000000:=by rw[O0];omega
 have a3:∀ (T:Q1) (ys:List Int),fin S (.ref S.length) (S ++ [Cell.lst (ys.map .int)])=.ok (.lst (ys.map .int)) S:=λT ys=>by
  unfold fin;rw[bO (cq S _)];have:fz S.length (S ++ [Cell.lst (ys.map .int)]) 16 (.ref S.length)=zo (.lst (ys.map .int)):=by
   rw[fz,bP (by omega),show(S ++ [Cell.lst (ys.map PV.int)])[S.length]?=zo (.lst (ys.map .int)) by simp];show(fzL S.length _ 15 _).map PV.lst=_;rw[show fzL S.length (S ++ [Cell.lst (ys.map PV.int)]) 15 (ys.map .int)=zo (ys.map .int)from by
    generalize S ++ [Cell.lst (ys.map PV.int)]=S9
    induction ys with
    | nil=>rw[eY,fzL]
    | cons y ys ih=>rw[D8,fzL,ih,Uc (m:=0) (k:=15) (p:=.int y) rfl (by decide)];rfl]
   rfl
  rw[this];rfl
 show Qr Z8 7 _ S=_;unfold Qr;rw[show(([.lst (xs.map .int),.lst (ms.map mvV)]:List PV).map zo ++ bV (7 - [PV.lst (xs.map .int),.lst (ms.map mvV)].length) zl)=[zo (.lst (xs.map .int)),zo (.lst (ms.map mvV)),zl,zl,zl,zl,zl]from rfl];unfold Xt
 by_cases q:(Uw xs ms).all (λx=>decide (0<=x))=zi
 ·rw[bO q];have hq:¬ mn < 0:=λz=>by
   obtain⟨x,O,Z⟩:=B.mp z;have:=G8.mp q x O;simp at this;omega
  have step:Z8 [zo (.lst (xs.map .int)),zo (.lst (ms.map mvV)),zl,zl,zl,zl,zl] S=.rt (.ref S.length) (S ++ [Cell.lst ((zz (Uw xs ms) ms).map .int)]):=by
   unfold brΓ at e1 e2;generalize (S ++ [Cell.lst ((zz (Uw xs ms) ms).map .int)])=S3,(S ++ [Cell.lst ((Uw xs ms).map .int)])=S2,J:(S ++ [Cell.lst (xs.map .int)])=S1,ms.map mvV=mm,xs.map PV.int=xv at*;simp![Z8,J,a1,Jr,e1,I,hq,e2]
  rw[step];exact a3 S _
 ·rw[bP q];have hq:mn < 0:=B.mpr (by
   have q:(Uw xs ms).all (λx=>decide (0<=x))=zb:=by simpa using q
   obtain⟨x,O,Z⟩:=iA.mp q;exact⟨x,O,by simp at Z;omega⟩)
  have step:Z8 [zo (.lst (xs.map .int)),zo (.lst (ms.map mvV)),zl,zl,zl,zl,zl] S=.rt .non (S ++ [Cell.lst ((Uw xs ms).map .int)]):=by
   unfold brΓ at e1 e2;generalize (S ++ [Cell.lst ((Uw xs ms).map .int)])=S2,J:(S ++ [Cell.lst (xs.map .int)])=S1,ms.map mvV=mm,xs.map PV.int=xv at*;simp![Z8,J,a1,Jr,e1,I,hq]
  rw[step];show fin S .non _=_;unfold fin;rw[bO (cq S _),Uc (m:=0) rfl (by decide)];rfl
theorem Qhj(S:Q1)(a b:Nd):oNe S (ndV a) (ndV b)=.ok (.bl (!decide (a=b))) S:=by
 rw[<- Qh0];cases a <;> cases b <;> rfl
structure WOk(n r:Nat)(w:Wy):Prop where
 h:∃ b,w.2.1=zo b/\b.1 < n/\b.2<=r/\(w.1=zl\/∃ a,w.1=zo a/\a.1 < n/\a.2 < r/\b.2=a.2 + 1)
theorem Q9m(Q:Qok xs rs ks):∀ w∈wsQ xs rs,WOk xs.length rs.length w:=by
 intro w B;unfold wsQ at B;rcases D4.mp B with B | B
 ·unfold wsp at B;obtain⟨h,J,rfl⟩:=E8.mp B;exact⟨_,rfl,bq.mp J,bb _,.inl rfl⟩
 ·obtain⟨t,I,B⟩:=iB.mp B;have I:=bq.mp I;rcases D4.mp B with B | B
  ·unfold wst at B;obtain⟨h,J,rfl⟩:=E8.mp B;exact⟨_,rfl,bq.mp J,I,.inr ⟨_,rfl,bq.mp J,I,rfl⟩⟩
  ·unfold wrd at B;obtain⟨z,hz,rfl⟩:=E8.mp B;have:rs.getD t []∈rs:=by rw[O7,O2 I];exact F9 _
   obtain⟨⟨h1,h2,_⟩,_⟩:=(Q.rb _ this).ok z hz;exact⟨_,rfl,h2,I,.inr ⟨_,rfl,h1,I,rfl⟩⟩
theorem Qpd(Q:Qok xs rs ks):∃ k,k < (wsQ xs rs).length/\((wsQ xs rs).getD k wy0).1=zl:=by
 have h1:=Q.x1;have B:(wsp xs).length=xs.length:=by unfold wsp;rw[O0,F6]
 refine⟨0,by unfold wsQ;rw[O5];omega,?_⟩;unfold wsQ;rw[O7,O3 (by omega)];unfold wsp;rw[F4,cr h1];rfl
def mvO(z:Wy × Int):Option Mv4:=match z.1.1,z.1.2.1 with
 | some a,zo b=>if a.1≠b.1/\0 < z.2 then zo ⟨a.2,a.1,b.1,z.2⟩else zl
 | _,_=>zl
def mvs(ws:List Wy)(ls:List Int):List Mv4:=(ws.zip ls).filterMap mvO
theorem Qhm(hl:ws.length<=500)(hw:∀ w∈ws,w.2.1≠zl)(hL:S[Ld]?=zo (.lst (ls.map .int))):Xk [.lst (ws.map wyV),.ref Ld] S=.ok (.lst ((mvs ws ls).map mvV)) S:=by
 have Y:=(O1.mp hL).1;obtain⟨a7,S',e,J,a4,rfl,q,g⟩:=Q1b (g:=λz:Wy × Int=>PV.tup [wyV z.1,.int z.2]) (xs:=ws.zip ls) (ga:=Qv (Q6 (Q4 3) (Q6 (Q4 4) Qw))) (body:=qk) (w:=[] ++ [(Ld,.lst (ls.map .int))]) (Γ:=[zo (.lst (ws.map wyV)),zo (.ref Ld),zo (.ref S.length),zl,zl]) (st:=S ++ [.lst []])
  (λpre Γ st=>∃ J a4,Γ=[zo (.lst (ws.map wyV)),zo (.ref Ld),zo (.ref S.length),J,a4]/\st[S.length]?=zo (.lst ((pre.filterMap mvO).map mvV))/\Gw (λt=>t=S.length) (S ++ [.lst []]) st)
  (λpre Γ st ⟨_,_,_,_,g⟩=>g.w (Q69 (by rw[O3 Y];exact hL)) λx hx=>by
   have:x=(Ld,.lst (ls.map .int)):=by simpa using hx
   rw[this];show ¬ Ld=S.length;omega)
  (λpre z a6 Γ st hz ⟨J,a4,a1,q,g⟩=>by
   subst a1;have a5:z.1∈ws:=(cN (show(z.1,z.2)∈ws.zip ls by rw[hz];simp)).1;have a8:(pre.filterMap mvO).length<=500:=by
    have h1:=iC mvO pre;have h2:=congrArg cO hz;rw[O5,cs]at h2;omega
   have a2:S.length < st.length:=(O1.mp q).1;have fm:(pre ++ [z]).filterMap mvO=pre.filterMap mvO ++ (mvO z).toList:=by rw[List.filterMap_append];cases h:mvO z <;> simp[cz,h]
   obtain ⟨⟨u,v,c⟩,l⟩:=z;have same:∀ {T:MT},T [zo (.lst (ws.map wyV)),zo (.ref Ld),zo (.ref S.length),zo (wyV (u,v,c)),zo (.int l)] st=.ok zb st->mvO ((u,v,c),l)=zl->∀ {B:MS},∃ U,Qv (Q6 (Q4 3) (Q6 (Q4 4) Qw)) (.tup [wyV (u,v,c),.int l]) [zo (.lst (ws.map wyV)),zo (.ref Ld),zo (.ref S.length),J,a4]=zo U/\∃ O I,Z5 T B Jf U st=.nx O I /\
     ∃ J a4,O=[zo (.lst (ws.map wyV)),zo (.ref Ld),zo (.ref S.length),J,a4]/\I[S.length]?=zo (.lst (((pre ++ [((u,v,c),l)]).filterMap mvO).map mvV))/\Gw (λt=>t=S.length) (S ++ [.lst []]) I:=λh1 h2=>⟨_,rfl,_,_,Y0 h1 rfl,_,_,rfl,by rw[fm,h2,Option.toList_none,G6];exact q,g⟩
   cases u with
   | none=>exact same (Q1s (Qz (Q7 (Q7 rfl rfl rfl) rfl (Qhj st zl zl)))) rfl
   | some a=>
    cases v with
    | none=>exact absurd rfl (hw _ a5)
    | some b=>
     have c1:=Qz (Γ:=[zo (.lst (ws.map wyV)),zo (.ref Ld),zo (.ref S.length),zo (wyV (zo a,zo b,c)),zo (.int l)]) (Q7 (a:=mOp oIx (Q2 3) (mC (.int 0))) (b:=mC (.str "spring")) (Q7 rfl rfl rfl) rfl (Qhj st (zo a) zl));have Z:Uf (toB (mOp oNe (mOp oIx (mOp oIx (Q2 3) (mC (.int 0))) (mC (.int 0))) (mOp oIx (mOp oIx (Q2 3) (mC (.int 1))) (mC (.int 0))))) (toB (mOp (oI λa b=>.bl (decide (b < a))) (Q2 4) (mC (.int 0)))) [zo (.lst (ws.map wyV)),zo (.ref Ld),zo (.ref S.length),zo (wyV (zo a,zo b,c)),zo (.int l)] st=.ok (!((a.1:Int) == (b.1:Int)) && decide (0 < l)) st:=
      Q7h (Qz (Q7 (Q7 (Q7 rfl rfl rfl) rfl rfl) (Q7 (Q7 rfl rfl rfl) rfl rfl) (Qcb st _ _))) (Qz (Q7 rfl rfl rfl))
     by_cases k:a.1≠b.1/\0 < l
     ·have hb:(!((a.1:Int) == (b.1:Int)) && decide (0 < l))=zi:=by
       have:¬ (a.1:Int)=b.1:=by omega
       simp[this,k.2]
      rw[hb]at Z;have hO:mvO ((zo a,zo b,c),l)=zo ⟨a.2,a.1,b.1,l⟩:=bO k;refine⟨_,rfl,_,_,Vr (Q0n c1 Z) (K7 rfl (Jg q) (Q3 (J8 (Q3 (Q7 (Q7 rfl rfl rfl) rfl rfl) (Q3 (Q7 (Q7 rfl rfl rfl) rfl rfl) (Q3 (Q7 (Q7 rfl rfl rfl) rfl rfl) (Q3 rfl rfl)))) (show 4<=1000000 by decide)) rfl) (qp q (by rw[O0];omega) _)),_,_,rfl,?_,g.trans (Gw.put (P:=λt=>t=S.length) st rfl _)⟩;rw[D5 a2,fm,hO,E7];rfl
     ·have hb:(!((a.1:Int) == (b.1:Int)) && decide (0 < l))=zb:=by
       by_cases k1:a.1=b.1
       ·simp[k1]
       ·have:¬ 0 < l:=λz=>k ⟨k1,z⟩
        simp[this]
      rw[hb]at Z;exact same (Q0n c1 Z) (bP k))
  ⟨_,_,rfl,by rw[D7 (O9 _),L6];rfl,Gw.refl _ _⟩
 have hz:(ws.zip ls).map (λz:Wy × Int=>PV.tup [wyV z.1,.int z.2])=Ks (ws.map wyV) (ls.map .int):=by
  rw[yy,fL,F3];rfl
 rw[hz]at e;have g':Gw (λ_=>False) S S':=((Gw.add (λt=>t=S.length) S _).trans g).mono λt ht z=>by omega
 have zp:zn (Q0 (Q2 0) (Q0 (Q2 1) Q5)) [zo (.lst (ws.map wyV)),zo (.ref Ld),zo (.ref S.length),zl,zl] (S ++ [.lst []])=.ok (Ks (ws.map wyV) (ls.map .int),[] ++ [(Ld,.lst (ls.map .int))]) (S ++ [.lst []]):=by
  unfold zn;rw[Q3 rfl (Q3 rfl rfl),Qp];show(match Y8 (S ++ [Cell.lst []]) (.lst (ws.map wyV)),Y8 (S ++ [Cell.lst []]) (.ref Ld)with | some (xs,w),zo (ys,w')=>if xs.length<=lim then Res.ok (Ks xs ys,w ++ w') (S ++ [Cell.lst []])else .stuck | _,_=>.stuck)=_
  rw[Ux (show(S ++ [Cell.lst []])[Ld]?=zo (.lst (ls.map .int)) by rw[O3 Y];exact hL)];show(if(ws.map wyV).length<=lim then Res.ok (Ks (ws.map wyV) (ls.map PV.int),[] ++ [(Ld,Cell.lst (ls.map PV.int))]) (S ++ [Cell.lst []])else .stuck)=_;rw[bO (by rw[O0,Jr];omega)]
 exact(J7 (show yg [zo (.lst (ws.map wyV)),zo (.ref Ld),zl,zl,zl] S=_ from Q8 (Qk (W1 rfl)) (Q8 (Ju zp e) (Ja rfl)))).trans (Q2c g' q (O9 _) (by simp[J0,mvV,qv]))
def allN:List Nd:=zl :: (bT 4).flatMap λh=>(bT 5).map λt=>zo (h,t)
theorem Qjk:allN.length=21:=by decide
theorem Qw7(v:Nd):hkV (ndK v)=ndV v:=by cases v <;> rfl
def ndI(v:Nd):List Int:=match v with
 | none=>[]
 | some z=>[(z.1:Int),(z.2:Int)]
theorem Qsn(Q:Qok xs rs ks)(t:FT (wsQ xs rs) ls F):(∀ v∈kys F,v=zl\/∃ z,v=zo z/\z.1 < xs.length/\z.2<=rs.length)/\F.length<=21:=by
 have h1:=Q.x4;have h2:=Q.r4;have key:∀ v∈kys F,v=zl\/∃ z,v=zo z/\z.1 < xs.length/\z.2<=rs.length:=λv I=>by
  rcases t.ends v I with h | ⟨k,J,h⟩
  ·exact .inl h
  ·have Y:(wsQ xs rs).getD k wy0∈wsQ xs rs:=by rw[O7,O2 J];exact F9 J
   obtain⟨b,e1,e2,e3,B⟩:=(Q9m Q _ Y).h;rcases h with h | h
   ·rcases B with B | ⟨a,U,O,Z,_⟩
    ·exact .inl (h.symm.trans B)
    ·exact .inr ⟨a,h.symm.trans U,O,by omega⟩
   ·exact .inr ⟨b,h.symm.trans e1,e2,e3⟩
 refine⟨key,?_⟩;have h:=jx (m:=allN) t.nd λv I=>by
  rcases key v I with rfl | ⟨z,rfl,e1,e2⟩
  ·exact D3
  ·exact O6 _ (iB.mpr ⟨z.1,bq.mpr (by omega),E8.mpr ⟨z.2,bq.mpr (by omega),rfl⟩⟩)
 rw[O0,Qjk]at h;exact h
theorem Qta(Q:Qok xs rs ks)(J:List Int->List Int->Int->Prop)(a5:J [] ((wsQ xs rs).map λ_=>0) 0)(b4:∀ (B ls:List Int) (sv a:Int) (F:Fd) (ns:List Nd) (ss:List (Nat × Bool)) (t:Tr),ks[B.length]?=zo t->ls.length=(wsQ xs rs).length->J B ls sv->FT (wsQ xs rs) ls F->Pt (wsQ xs rs) ls F (zo (t.1.2,t.1.1)) ns ss->1<=a->(∀ s∈ss,a<=room (wsQ xs rs) ls s)->a<=t.2 - sv->J B (push a ls ss) (sv + a))(b3:∀ (B ls:List Int) (sv:Int) (F:Fd) (t:Tr),ks[B.length]?=zo t->ls.length=(wsQ xs rs).length->J B ls sv->sv<=t.2->FT (wsQ xs rs) ls F->(∀ u∈kys F,Cld (wsQ xs rs) ls F u)->(sv=t.2\/zo (t.1.2,t.1.1)∉kys F)->J (B ++ [sv]) ls 0)(S:Q1):∃ B ls F,X1 [qV xs rs ks] S=.ok (.tup [.lst (B.map .int),.lst ((mvs (wsQ xs rs) ls).map mvV),.lst ((qq (((kys F).filter λv=>!decide (v=zl)).map ndI)).map qv)]) S/\B.length=ks.length/\ls.length=(wsQ xs rs).length/\J B ls 0/\FT (wsQ xs rs) ls F/\∀ u∈kys F,Cld (wsQ xs rs) ls F u:=by
 have wl:=Q6a Q;have sp:=Qpd Q;have k5:=Q.k5;obtain⟨ws,I⟩:∃ ws,wsQ xs rs=ws:=⟨_,rfl⟩;have ew:=Qjs Q S;have wo:=Q9m Q;rw[I]at wl sp ew a5 wo;obtain⟨A1,U⟩:∃ A1,S ++ [Cell.lst ((ws.map λ_=>(0:Int)).map .int)]=A1:=⟨_,rfl⟩
 have c1:=Jn (ga:=Q4 0) (me:=js) (w:=[]) (Γ0:=[zl]) (st:=S) (g:=wyV) (f:=λ_=>PV.int 0) (Qs _) (ys:=ws) λw _=>⟨_,rfl,rfl⟩
 have b5:ws.map (λ_:Wy=>PV.int 0)=(ws.map λ_=>(0:Int)).map .int:=by rw[F3];rfl
 rw[b5]at c1;have L1:A1[S.length]?=zo (.lst ((ws.map λ_=>(0:Int)).map .int)):=by rw[<- U,D7 (O9 _),L6];rfl
 obtain⟨Z,A2,e2,B,ls,a7,b0,a6,hj,L2,g2⟩:=Q5v (g:=trV) (xs:=ks) (ga:=Q4 0) (me:=jr) (w:=[]) (Γ0:=[zl,zo (.lst (ws.map wyV)),zo (.ref S.length)]) (st:=A1)
  (λi Z st'=>∃ B ls:List Int,Z=B.map .int/\B.length=i/\ls.length=ws.length/\J B ls 0/\st'[S.length]?=zo (.lst (ls.map .int))/\Gw (λt=>t=S.length) A1 st')
  (λ_ _ _ _=>Qs _)
  (λi t Z st' hx ⟨B,ls,ho,hs,b7,hj,hL,g⟩=>by
   subst hs;have a3:=Q.kb t (F0 hx);obtain⟨S2,a2,sv,F2,e,k1,k2,k3,k4,k5,k6,k7,k8⟩:=Qg5 wl sp (Ld:=S.length) (t:=t) (λl s=>J B l s) (λls sv a F ns ss h1 h2 h3 h4 h5 h6 h7=>by
    subst I;exact b4 B ls sv a F ns ss t hx h1 h2 h3 h4 h5 h6 h7) ⟨by have:=a3.2.2.1;omega,a3.2.2.2⟩ b7 hj hL
   refine⟨_,rfl,.int sv,S2,Qq (n:=3) (Q3 rfl (Q3 rfl (Q3 rfl rfl))) rfl e,B ++ [sv],a2,by rw[ho,E7];rfl,by rw[O5];rfl,k2,?_,k4,g.trans k8⟩;subst I;exact b3 B a2 sv F2 t hx k2 k3 k1 k5 k6 k7)
  ⟨[],ws.map λ_=>0,rfl,rfl,O0 _,a5,L1,Gw.refl _ _⟩
 subst a7;obtain⟨A3,D,F,e3,d3,t3,a9,g3,hD⟩:=ye wl a6 sp L2;have few:=(by subst I;exact Qsn Q t3:(∀ v∈kys F,v=zl\/∃ z,v=zo z/\z.1 < xs.length/\z.2<=rs.length)/\F.length<=21);have b1:D < A3.length:=(O1.mp d3).1;have c2:S.length < A2.length:=(O1.mp L2).1;have b6:(Jp stV F).map (λY=>hkV Y.1)=(kys F).map ndV:=by
  unfold Jp;rw[F3,F3];exact L5 λx _=>Qw7 x.1
 have b8:jh (λY=>hkV Y.1) A3 (.ref D)=zo ((kys F).map ndV,D,Jp stV F):=by
  show(match A3[D]? with | some (.dtp a4)=>zo (a4.map (λY:HK × PV=>hkV Y.1),D,a4) | _=>zl)=_
  rw[d3];show zo ((Jp stV F).map (λY=>hkV Y.1),D,Jp stV F)=_;rw[b6]
 obtain⟨O,a1⟩:∃ O,A3.set D (.frt (Jp stV F))=O:=⟨_,rfl⟩;have wd:wOk [(D,.frt (Jp stV F))] O:=λx hx=>by
  have:x=(D,.frt (Jp stV F)):=by simpa using hx
  rw[this,<- a1];exact D5 b1
 have c4:=ze (ga:=Q4 0) (mt:=j0) (me:=jq) (w:=[(D,.frt (Jp stV F))]) (Γ0:=[zl]) (st:=O) (g:=ndV) (f:=ndV) (t:=λv=>!decide (v=zl)) wd (ys:=kys F) λv _=>⟨_,rfl,Qz (Q7 rfl rfl (Qhj O v zl)),λ_=>rfl⟩
 have hi:V5 (Qd 2 Wg (Q0 (Q2 1) (Q0 (Q2 2) Q5))) [zo (qV xs rs ks),zo (.lst (ws.map wyV)),zo (.ref S.length),zo (.lst (B.map .int)),zl] A2=.ok ((kys F).map ndV,[(D,.frt (Jp stV F))]) O:=by
  unfold V5;rw[Qq (n:=2) (Q3 rfl (Q3 rfl rfl)) rfl e3,Qp,b8];show(if((kys F).map ndV).length<=lim then Res.ok ((kys F).map ndV,[(D,Cell.frt (Jp stV F))]) (A3.set D (.frt (Jp stV F)))else .stuck)=_;rw[bO (by rw[O0,O0,Jr];omega),a1]
 have a8:∀ v∈(kys F).filter (λv=>!decide (v=zl)),v≠zl:=λv hv=>by simpa using(cM.mp hv).2
 have b2:∀ (l:List Nd),(∀ v∈l,v≠zl)->Q2q (l.map ndV)=zo (l.map ndI):=by
  intro l
  induction l with
  | nil=>intro _;rfl
  | cons v l ih=>
   intro h;have:=ih λx hx=>h x (O6 _ hx)
   cases v with
   | none=>exact absurd rfl (h zl D3)
   | some z=>
    show(Q2q (l.map ndV)).map (ndI (zo z) :: ·)=_;rw[this];rfl
 have so:Q4a O [.lst (((kys F).filter λv=>!decide (v=zl)).map ndV)]=.ok (.lst ((qq (((kys F).filter λv=>!decide (v=zl)).map ndI)).map qv)) O:=by
  unfold Q4a;simp only[Qax,b2 _ a8];rw[bO];rw[O0];have:=iD (λv=>!decide (v=zl)) (kys F)
  rw[O0]at this;omega
 have g4:Gw (λt=>t=D) A3 O:=by rw[<- a1];exact Gw.put (P:=λt=>t=D) A3 rfl _
 have L4:O[S.length]?=zo (.lst (ls.map .int)):=g4.at (g3.at L2 id) (by show ¬ S.length=D;omega);have em:=Qhm wl (λw hw z=>by obtain⟨b,e1,_⟩:=(wo w hw).h;rw[z]at e1;cases e1) L4
 have gS:Gw (λ_=>False) S O:=by
  refine⟨?_,λt ht _=>?_⟩
  ·have h1:=g2.len;have h2:=g3.len;have h3:=g4.len;rw[<- U,O5]at h1;omega
  ·have h1:=g2.len;rw[g4.keep t (by have:=g3.len;omega) (by omega),g3.keep t (by omega) id,g2.keep t (by rw[<- U,O5];omega) (by omega),<- U];exact O3 ht
 refine⟨B,ls,F,?_,b0,by rw[I];exact a6,hj,by rw[I];exact t3,by rw[I];exact a9⟩;rw[I];have b9:qf [zo (qV xs rs ks),zl,zl,zl,zl] S=.rt (.tup [.lst (B.map .int),.lst ((mvs ws ls).map mvV),.lst ((qq (((kys F).filter λv=>!decide (v=zl)).map ndI)).map qv)]) O:=
  Q8 (Qk (Qq (n:=1) (Q3 rfl rfl) rfl ew)) (Q8 (Qk (W1 (Zq (Ug rfl rfl (by rw[O0];omega)) c1))) (Q8 (Qk (Um (Zq (Ug (Q7 rfl rfl rfl) rfl (by rw[O0];omega)) (by rw[U];exact e2)))) (Q8 (Qk (Jz (Q3 (Um (Zq hi c4)) rfl) so)) (Ja (J8 (Q3 rfl (Q3 (Qq (n:=2) (Q3 rfl (Q3 rfl rfl)) rfl em) (Q3 rfl rfl))) (show 3<=1000000 by decide))))))
 refine(J7 b9).trans ?_;unfold fin;rw[bO (Qgu gS),Uc (m:=12) (by simp[J0,mvV,qv]) (by decide)];rfl
abbrev K3:=Int × Int × Int
variable{e:K3 × Int}{z:K3}
def k3K(z:K3):HK:=.tup [.int z.1,.int z.2.1,.int z.2.2]
def k3V(z:K3):PV:=.tup [.int z.1,.int z.2.1,.int z.2.2]
theorem Qay(z:K3):Q4w (k3V z)=zo (k3K z):=rfl
theorem Qaz{a b:K3}(h:k3K a=k3K b):a=b:=by
 unfold k3K at h;simp at h;exact eX h.1 (eX h.2.1 h.2.2)
abbrev L3:=List (K3 × Int)
variable{G:L3}
def Qj(G:L3):List (HK × PV):=G.map λe=>(k3K e.1,.int e.2)
def look:L3->K3->Int
 | [],_=>0
 | e :: G,z=>if e.1=z then e.2 else look G z
def Uh(G:L3)(z:K3)(k:Int):L3:=if z∈G.map (·.1)then G.map (λe=>if e.1=z then(e.1,look G z + k)else e)else G ++ [(z,k)]
theorem Qpf:∀ (G:L3) (z:K3),Up (Qj G) (k3K z)=if z∈G.map (·.1)then zo (.int (look G z))else zl
 | [],z=>rfl
 | e :: G,z=>by
  unfold Up Qj;rw[D8,bv]
  by_cases q:e.1=z
  ·have h1:decide (k3K e.1=k3K z)=zi:=bR (by rw[q]);rw[h1,bO (by rw[D8,q];exact D3),look,bO q];rfl
  ·have h1:decide (k3K e.1=k3K z)=zb:=bQ λh=>q (Qaz h)
   rw[h1];have B:=Qpf G z;unfold Up Qj at B;rw[B,look,bP q]
   by_cases m:z∈G.map (·.1)
   ·rw[bO m,bO (by rw[D8];exact O6 _ m)]
   ·rw[bP m,bP λh=>by
     rw[D8]at h;rcases E2.mp h with h | h
     ·exact q h.symm
     ·exact m h]
theorem za:∀ {G:L3} {z:K3},z∉G.map (·.1)->look G z=0
 | [],_,_=>rfl
 | e :: G,z,h=>by
  rw[D8]at h;rw[look,bP λq=>h (by rw[q];exact D3),za λm=>h (O6 _ m)]
theorem Qkk(G:L3)(z:K3)(k:Int):Sm.putT (Qj G) (k3K z) (.int (look G z + k))=Qj (Uh G z k):=by
 have I:((Qj G).any λJ=>decide (J.1=k3K z))=decide (z∈G.map (·.1)):=by
  unfold Qj;rw[cT]
  by_cases q:z∈G.map (·.1)
  ·rw[bR q,dZ];obtain⟨e,B,rfl⟩:=E8.mp q;exact⟨e,B,by simp⟩
  ·rw[bQ q,dg];intro e B;have:¬ k3K e.1=k3K z:=λh=>q (E8.mpr ⟨e,B,Qaz h⟩)
   simp[this]
 unfold Sm.putT Uh;rw[I]
 by_cases q:z∈G.map (·.1)
 ·rw[bR q,bO rfl,bO q];unfold Qj;rw[F3,F3];refine L5 λe _=>?_
  show(if k3K e.1=k3K z then(k3K e.1,PV.int (look G z + k))else(k3K e.1,PV.int e.2))=(k3K (if e.1=z then(e.1,look G z + k)else e).1,PV.int (if e.1=z then(e.1,look G z + k)else e).2)
  by_cases m:e.1=z
  ·rw[bO (by rw[m]),bO m]
  ·rw[bP λh=>m (Qaz h),bP m]
 ·rw[bQ q,bP (by decide),bP q,za q,dS];unfold Qj;rw[E7];rfl
theorem rd3(h:S[D]?=zo (.dtp (Qj G))):Xp S (.ref D)=zo (Qj G):=by show(match S[D]? with | some (.dtp B)=>zo B | some (.frt B)=>zo B | _=>zl)=_;rw[h]
theorem Qw8(h:S[D]?=zo (.dtp (Qj G)))(z:K3):yw S (.ref D) (k3V z) (.int 0)=.ok (.int (look G z)) S:=by
 unfold yw;rw[rd3 h,Qay];show Res.ok ((Up (Qj G) (k3K z)).getD (.int 0)) S=_;rw[Qpf]
 by_cases q:z∈G.map (·.1)
 ·rw[bO q];rfl
 ·rw[bP q,za q];rfl
theorem Qpa(h:S[D]?=zo (.dtp (Qj G)))(I:G.length < 100000)(z:K3)(k:Int):Q0g S (.ref D) (k3V z) (.int (look G z + k))=zo (S.set D (.dtp (Qj (Uh G z k)))):=by
 unfold Q0g;have hd:Q44 S (.ref D)=zo (Qj G):=by show(match S[D]? with | some (.dtp B)=>zo B | _=>zl)=_;rw[h]
 simp only[hd,Qay];rw[bO (by unfold Qj;rw[O0,Jr];omega),Qkk]
theorem Qcu{mf:ME}{k z:PV}{B:List (HK × PV)}{r:Res PV}(h1:mo Γ S=.ok p S)(h2:Xp S p=zo B)(U:m Γ S=.ok k S)(Y:mf Γ S=.ok z S)(O:yw S p k z=r):Q07 mo m mf Γ S=r:=by
 rw[Qav,h1,Qp,h2];show((m Γ S).bind λk I=>(mf Γ I).bind λz J=>yw J p k z)=_
 rw[U,Qp,Y,Qp,O]
def mK(m:Mv4):K3:=(m.t,m.i,m.j)
def ldm(ms:List Mv4):L3:=ms.foldl (λG m=>Uh G (mK m) m.k) []
theorem Qgn(G:L3)(z:K3)(k:Int):(Uh G z k).length<=G.length + 1:=by
 unfold Uh
 split
 ·rw[O0];omega
 ·rw[O5];exact O9 _
theorem Qcn(ms:List Mv4)(m:Mv4):ldm (ms ++ [m])=Uh (ldm ms) (mK m) m.k:=by unfold ldm;rw[iE];rfl
theorem Q26(ms:List Mv4):(ldm ms).length<=ms.length:=by
 have:∀ (ms:List Mv4) (G:L3),(ms.foldl (λG m=>Uh G (mK m) m.k) G).length<=G.length + ms.length:=by
  intro ms
  induction ms with
  | nil=>intro G;exact O9 _
  | cons m ms B=>
   intro G;have h1:=B (Uh G (mK m) m.k);have h2:=Qgn G (mK m) m.k;rw[cS,E5];omega
 have:=this ms [];rw[M7,gt]at this;exact this
theorem Xe(S:Q1)(c:Cell):(S ++ [c])[S.length]?=zo c:=by rw[D7 (O9 _),L6];rfl
theorem Qht(hl:ms.length<=5000)(S:Q1):U8 [.lst (ms.map mvV)] S=.ok (.ref S.length) (S ++ [.dtp (Qj (ldm ms))]):=by
 obtain⟨a1,S',e,U,I,a4,J,rfl,rfl⟩:=Q1b (g:=mvV) (xs:=ms) (ga:=Qv (Q6 (Q4 2) (Q6 (Q4 3) (Q6 (Q4 4) (Q6 (Q4 5) Qw))))) (body:=qm) (w:=[]) (Γ:=[zo (.lst (ms.map mvV)),zo (.ref S.length),zl,zl,zl,zl]) (st:=S ++ [.dtp []])
  (λpre Γ st=>∃ U I a4 J,Γ=[zo (.lst (ms.map mvV)),zo (.ref S.length),U,I,a4,J]/\st=S ++ [.dtp (Qj (ldm pre))])
  (λ_ _ _ _=>Qs _)
  (λpre m Z Γ st hz ⟨U,I,a4,J,O,Y⟩=>by
   subst O;subst Y;have hp:pre.length<=5000:=by have:=congrArg cO hz;rw[O5]at this;omega
   have hd:=Xe S (.dtp (Qj (ldm pre)));have dl:=Q26 pre;have B:=Qpa hd (by omega) (mK m) m.k;rw[Kc,<- Qcn]at B;exact⟨_,rfl,_,_,Q12 (Q7 (Qcu rfl (rd3 hd) (J8 (Q3 rfl (Q3 rfl (Q3 rfl rfl))) (show 3<=1000000 by decide)) rfl (Qw8 hd (mK m))) rfl (qx _ _ _)) rfl (J8 (Q3 rfl (Q3 rfl (Q3 rfl rfl))) (show 3<=1000000 by decide)) B,_,_,_,_,rfl,rfl⟩)
  ⟨_,_,_,_,rfl,rfl⟩
 exact W9 (Q8 (Qk rfl) (Q8 (Ju (Ug rfl rfl (by rw[O0];omega)) e) (Ja rfl)))
theorem Q49{o o':OP}{a b c:ME}{r:PV}{u v:Bool}(h1:a Γ S=.ok p S)(h2:b Γ S=.ok q S)(J:o S p q=.ok (.bl u) S)(O:c Γ S=.ok r S)(I:o' S q r=.ok (.bl v) S):U7 o o' a b c Γ S=.ok (.bl (u && v)) S:=by
 rw[Qei,h1,Qp,h2,Qp,J,Qp];cases u with
 | true=>show((c Γ S).bind λz B=>o' B q z)=_;rw[O,Qp,I];rfl
 | false=>rfl
theorem Q2i{a b:ME}{xs ys:List PV}{w B:Wt}(h1:a Γ S=.ok p S)(h2:b Γ S=.ok q S)(I:Y8 S p=zo (xs,w))(J:Y8 S q=zo (ys,B))(O:xs.length<=1000000):zn (Q0 a (Q0 b Q5)) Γ S=.ok (Ks xs ys,w ++ B) S:=by
 unfold zn;rw[Q3 h1 (Q3 h2 rfl),Qp];show(match Y8 S p,Y8 S q with | some (xs,w),zo (ys,B)=>if xs.length<=lim then Res.ok (Ks xs ys,w ++ B) S else .stuck | _,_=>.stuck)=_
 rw[I,J];show(if xs.length<=lim then Res.ok (Ks xs ys,w ++ B) S else .stuck)=_;rw[bO (by rw[Jr];exact O)]
theorem Qff{β:Type}(f:α->PV)(g:β->PV)(xs:List α)(ys:List β):Ks (xs.map f) (ys.map g)=(xs.zip ys).map λz=>.tup [f z.1,g z.2]:=by
 rw[yy,fL,F3];rfl
theorem Q78{T:Q1}(g:J0 12 v=zi):fin S v (S ++ T)=.ok v S:=by
 unfold fin;rw[bO (cq S T),Uc g (by decide)];rfl
theorem Q6y(l:List α)(b:α->Bool):(l.map λx=>PV.bl (b x))=(l.map b).map .bl:=by rw[F3];rfl
theorem Qt9(l:List α)(b:α->Bool):(l.map b).any id=l.any b:=by rw[cT];rfl
def Qdg(ks:List Tr)(sv:List Int):Bool:=decide (sv.length=ks.length) && (ks.zip sv).all λz=>decide (0<=z.2) && decide (z.2<=z.1.2)
theorem Qhk(S:Q1)(a b:Nat):oNe S (.int (a:Int)) (.int (b:Int))=.ok (.bl (!decide (a=b))) S:=by
 rw[Qcb]
 by_cases h:a=b
 ·subst h;simp
 ·have:¬ (a:Int)=b:=by omega
  simp[h,this]
theorem Qq0(B:ks.length<=1000)(S:Q1):Vn [.tup (ks.map trV),.lst (sv.map .int)] S=.ok (.bl (Qdg ks sv)) S:=by
 have h1:toB (mOp oNe (Qi Z0 (Q0 (Q2 1) Q5)) (Qi Z0 (Q0 (Q2 0) Q5))) [zo (.tup (ks.map trV)),zo (.lst (sv.map .int))] S=.ok (!decide (sv.length=ks.length)) S:=
  Qz (Q7 (Jz (Q3 rfl rfl) (by rw[Qj5,O0])) (Jz (Q3 rfl rfl) (by rw[Wa,O0])) (Qhk S _ _))
 unfold Qdg
 by_cases q:sv.length=ks.length
 ·rw[bR q]at h1 ⊢;rw[cu];have c:=Jn (ga:=Qv (Q6 (Q4 0) (Q6 (Q4 1) Qw))) (me:=Xg) (w:=[]) (Γ0:=[zl,zl]) (st:=S) (g:=λz:Tr × Int=>PV.tup [trV z.1,.int z.2]) (f:=λz=>PV.bl (decide (0<=z.2) && decide (z.2<=z.1.2))) (Qs _) (ys:=ks.zip sv) λz _=>⟨_,rfl,Q49 rfl rfl rfl (Q7 rfl rfl rfl) rfl⟩
  rw[<- Qff,Q6y]at c;refine(J7 (Q8 (Y0 h1 rfl) (Ja (Jz (Q3 (Um (Zq (Q2i rfl rfl rfl rfl (by rw[O0];omega)) c)) rfl) (Q0k _ _ _))))).trans ?_;rw[Qbd];exact Wr rfl
 ·rw[bQ q]at h1 ⊢;exact(J7 (Wz (Vr h1 (Ja rfl)))).trans (Wr rfl)
def isR(i j:Int)(z:Tr):Bool:=((z.1.1:Int) == i) && (((z.1.2:Int) == j) && zi)
def Q0w(rs:List (List Tr))(t i j:Int):List Int:=((rs.getD t.toNat []).filter (isR i j)).map (·.2)
def Q3m(rs:List (List Tr))(t i j:Int):Int:=if 0<=t/\t < rs.length then(Q0w rs t i j).sum else 0
theorem Qi1(i j:Int)(z:Tr){ma mb mc:ME}(h1:ma Γ S=.ok (trV z) S)(h2:mb Γ S=.ok (.int i) S)(B:mc Γ S=.ok (.int j) S):toB (mOp oEq (mSl ma Jy (W2 (mC (.int 2)))) (Je (Q0 mb (Q0 mc Q5)))) Γ S=.ok (isR i j z) S:=
 Qz (Q7 (x:=.tup [.int z.1.1,.int z.1.2]) (S1:=S) (by rw[Qas,h1,Qp];rfl) (J8 (Q3 h2 (Q3 B rfl)) (show 2<=1000000 by decide)) rfl)
theorem Qi0{t:Int}(h:0<=t/\t < rs.length)(S:Q1):oIx S (.tup (rs.map tsV)) (.int t)=.ok (tsV (rs.getD t.toNat [])) S:=by
 obtain⟨k,rfl⟩:∃ k:Nat,t=k:=⟨t.toNat,by omega⟩;show okO S (atI (rs.map tsV) (k:Int))=_;rw[Wq tsV [] rs (by omega),bh];rfl
theorem Qi2(rs:List (List Tr))(t:Int){ma mb:ME}(h1:ma Γ S=.ok (.int t) S)(h2:mb Γ S=.ok (.tup (rs.map tsV)) S):V7 (toB (U7 (oI λa b=>.bl (decide (a<=b))) oLt (mC (.int 0)) ma (Qi Z0 (Q0 mb Q5)))) Γ S=.ok (!decide (0<=t/\t < rs.length)) S:=by
 have:=Q3h (Qz (Q49 (o:=oI λa b=>.bl (decide (a<=b))) (o':=oLt) (a:=mC (.int 0)) (Γ:=Γ) (S:=S) rfl h1 rfl (c:=Qi Z0 (Q0 mb Q5)) (Jz (Q3 h2 rfl) (by rw[Wa,O0])) (Q08 S t rs.length)))
 rw[<- eE]at this;exact this
theorem Qfm(Q:Qok xs rs ks)(t:Nat):(rs.getD t []).length<=100:=by
 rw[O7]
 by_cases h:t < rs.length
 ·rw[O2 h];exact(Q.rb _ (F9 h)).len
 ·rw[L7 (by omega)];exact bb _
theorem Qmj(Q:Qok xs rs ks)(t i j:Int)(S:Q1):Kr [.tup (rs.map tsV),.int t,.int i,.int j] S=.ok (.int (Q3m rs t i j)) S:=by
 have h1:=Qi2 rs t (Γ:=[zo (.tup (rs.map tsV)),zo (.int t),zo (.int i),zo (.int j)]) (S:=S) (ma:=Q2 1) (mb:=Q2 0) rfl rfl;unfold Q3m
 by_cases q:0<=t/\t < rs.length
 ·rw[bO q];rw[bR q]at h1;have c:=ze (ga:=Q4 0) (mt:=qz) (me:=jp) (w:=[]) (Γ0:=[zl,zo (.int i),zo (.int j)]) (st:=S) (g:=trV) (f:=λz=>PV.int z.2) (t:=isR i j) (Qs _) (ys:=rs.getD t.toNat []) λz _=>⟨_,rfl,Qi1 i j z rfl rfl rfl,λ_=>Q7 rfl rfl rfl⟩
  rw[show(((rs.getD t.toNat []).filter (isR i j)).map λz=>PV.int z.2)=(Q0w rs t i j).map .int by unfold Q0w;rw[F3];rfl]at c
  exact(J7 (Q8 (Y0 h1 rfl) (Ja (Jz (Q3 (Um (Zq (Ug (Q7 rfl rfl (Qi0 q S)) rfl (by rw[O0];have:=Qfm Q t.toNat;omega)) c)) rfl) (zf _ _ _))))).trans (Wr rfl)
 ·rw[bP q];rw[bQ q]at h1;exact(J7 (Wz (Vr h1 (Ja rfl)))).trans (Wr rfl)
def Q65(rs:List (List Tr))(ms:List Mv4):Bool:=!(ms.any λm=>decide (m.k < 1)) && (ldm ms).all λe=>decide (e.2<=Q3m rs e.1.1 e.1.2.1 e.1.2.2)
theorem Qnc(Q:Qok xs rs ks)(Z:ms.length<=5000)(S:Q1):Ys [.tup (rs.map tsV),.lst (ms.map mvV)] S=.ok (.bl (Q65 rs ms)) S:=by
 have U:=Jn (ga:=Q4 0) (me:=Yy) (w:=[]) (Γ0:=[zl]) (st:=S) (g:=mvV) (f:=λm=>PV.bl (decide (m.k < 1))) (Qs _) (ys:=ms) λm _=>⟨_,rfl,Q7 (Q7 rfl rfl rfl) rfl (Q08 S m.k 1)⟩
 rw[Q6y]at U;have h1:toB (Qi (qw λns=>.bl (ns.any id)) (Q0 (Wu (Qy [zl] (Q4 0) (Yz (Q2 1)) Js Yy)) Q5)) [zo (.tup (rs.map tsV)),zo (.lst (ms.map mvV))] S=.ok (ms.any λm=>decide (m.k < 1)) S:=
  Qz (Jz (Q3 (Um (Zq (Ug rfl rfl (by rw[O0];omega)) U)) rfl) ((Q0k _ _ _).trans (by rw[Qt9])))
 unfold Q65;cases q:ms.any λm=>decide (m.k < 1)with
 | true=>
  rw[q]at h1;exact(J7 (Wz (Vr h1 (Ja rfl)))).trans (Wr rfl)
 | false=>
  rw[q]at h1;have ll:=Q26 ms;have O:=Jn (ga:=Qv (Q6 (Q4 0) (Q6 (Q4 1) Qw))) (me:=Vf) (w:=[(S.length,.frt (Qj (ldm ms)))]) (Γ0:=[zl,zl,zo (.tup (rs.map tsV))]) (st:=S ++ [.frt (Qj (ldm ms))]) (g:=λe:K3 × Int=>PV.tup [k3V e.1,.int e.2]) (f:=λe=>PV.bl (decide (e.2<=Q3m rs e.1.1 e.1.2.1 e.1.2.2))) (λx Y=>by
   have:x=(S.length,.frt (Qj (ldm ms))):=by simpa using Y
   rw[this];exact Xe S _) (ys:=ldm ms) λe _=>⟨_,rfl,Q7 rfl (Qq (n:=4) (Q3 rfl (Q3 (Q7 rfl rfl rfl) (Q3 (Q7 rfl rfl rfl) (Q3 (Q7 rfl rfl rfl) rfl)))) rfl (Qmj Q _ _ _ _)) rfl⟩
  rw[Q6y]at O;have hi:qg (Qd 1 U8 (Q0 (Q2 1) Q5)) [zo (.tup (rs.map tsV)),zo (.lst (ms.map mvV))] S=.ok ((ldm ms).map λe=>PV.tup [k3V e.1,.int e.2],[(S.length,.frt (Qj (ldm ms)))]) (S ++ [.frt (Qj (ldm ms))]):=by
   unfold qg;rw[Qq (n:=1) (Q3 rfl rfl) rfl (Qht Z S),Qp];have J:jh (λB=>.tup [hkV B.1,B.2]) (S ++ [.dtp (Qj (ldm ms))]) (.ref S.length)=zo ((ldm ms).map λe=>PV.tup [k3V e.1,.int e.2],S.length,Qj (ldm ms)):=by
    show(match (S ++ [Cell.dtp (Qj (ldm ms))])[S.length]? with | some (.dtp I)=>zo (I.map (λB:HK × PV=>PV.tup [hkV B.1,B.2]),S.length,I) | _=>zl)=_
    rw[Xe];show zo ((Qj (ldm ms)).map (λB:HK × PV=>PV.tup [hkV B.1,B.2]),S.length,Qj (ldm ms))=_;unfold Qj;rw[F3];rfl
   rw[J];show(if((ldm ms).map λe=>PV.tup [k3V e.1,.int e.2]).length<=lim then Res.ok ((ldm ms).map (λe=>PV.tup [k3V e.1,.int e.2]),[(S.length,Cell.frt (Qj (ldm ms)))]) ((S ++ [Cell.dtp (Qj (ldm ms))]).set S.length (.frt (Qj (ldm ms))))else .stuck)=_
   rw[bO (by rw[O0,Jr];omega),Kc]
  refine(J7 (Q8 (Y0 h1 rfl) (Ja (Jz (Q3 (Um (Zq hi O)) rfl) (Q0k _ _ _))))).trans ?_;rw[Qbd];exact Q78 rfl
theorem jf{xs:List PV}(h1:m Γ S=.ok p S)(h2:Yf S p=zo xs):W3 m Γ S=.ok xs S:=by
 unfold W3;rw[h1,Qp,h2]
def tkG(mom:Nat)(has:List Int)(zs:List (Tr × Int)):List Int:=zs.foldl (λh z=>if z.1.1.1=mom then Yp h (z.1.1.2:Nat) (-z.2)else h) has
theorem xf(B:Nat):∀ (zs:List (Tr × Int)) (has:List Int),(tkG B has zs).length=has.length
 | [],_=>rfl
 | z :: zs,has=>by
  show(tkG B (if z.1.1.1=B then Yp has (z.1.1.2:Nat) (-z.2)else has) zs).length=_;rw[xf B zs]
  split
  ·exact Zr _ _ _
  ·rfl
theorem Qcz(S:Q1)(a b:Nat):oEq S (.int (a:Int)) (.int (b:Int))=.ok (.bl (decide (a=b))) S:=by
 rw[Q23]
 by_cases h:a=b
 ·subst h;simp
 ·have:¬ (a:Int)=b:=by omega
  simp[h,this]
theorem Qfn{has:List Int}(hk:∀ t∈ks,t.1.2 < n)(a3:ks.length<=1000)(hh:has.length=n)(B:Nat)(S:Q1):Z6 [.tup (ks.map trV),.lst (sv.map .int),.lst (has.map .int),.int (B:Int)] S=.ok (.lst ((tkG B has (ks.zip sv)).map .int)) S:=by
 obtain⟨a2,S',e,J,I,rfl,rfl⟩:=Q1b (g:=λz:Tr × Int=>PV.tup [trV z.1,.int z.2]) (xs:=ks.zip sv) (ga:=Qv (Q6 (Q4 5) (Q6 (Q4 6) Qw))) (body:=V6) (w:=[]) (Γ:=[zo (.tup (ks.map trV)),zo (.lst (sv.map .int)),zo (.lst (has.map .int)),zo (.int (B:Int)),zo (.ref S.length),zl,zl]) (st:=S ++ [.lst (has.map .int)])
  (λpre Γ st=>∃ J I,Γ=[zo (.tup (ks.map trV)),zo (.lst (sv.map .int)),zo (.lst (has.map .int)),zo (.int (B:Int)),zo (.ref S.length),J,I]/\st=S ++ [.lst ((tkG B has pre).map .int)])
  (λ_ _ _ _=>Qs _)
  (λpre z a1 Γ st hz ⟨J,I,O,Y⟩=>by
   subst O;subst Y;have Z:z.1∈ks:=(cN (show(z.1,z.2)∈ks.zip sv by rw[hz];simp)).1;have hf:tkG B has (pre ++ [z])=if z.1.1.1=B then Yp (tkG B has pre) (z.1.1.2:Nat) (-z.2)else tkG B has pre:=by unfold tkG;rw[iE];rfl
   have c:=Qz (Γ:=[zo (.tup (ks.map trV)),zo (.lst (sv.map .int)),zo (.lst (has.map .int)),zo (.int (B:Int)),zo (.ref S.length),zo (trV z.1),zo (.int z.2)]) (Q7 (a:=mOp oIx (Q2 5) (mC (.int 0))) (b:=Q2 3) (Q7 rfl rfl rfl) rfl (Qcz (S ++ [.lst ((tkG B has pre).map .int)]) z.1.1.1 B));rw[hf]
   by_cases q:z.1.1.1=B
   ·rw[bO q];rw[bR q]at c;have hl:=xf B pre has;have a4:=hk _ Z;have la:=Xe S (.lst ((tkG B has pre).map .int));have U:Wh (S ++ [.lst ((tkG B has pre).map .int)]) (.ref S.length) (.int (z.1.1.2:Int)) (.int ((tkG B has pre).getD z.1.1.2 0 - z.2))=zo (S ++ [.lst ((Yp (tkG B has pre) (z.1.1.2:Nat) (-z.2)).map .int)]):=by
     rw[Kt,la];show(ixN ((tkG B has pre).map PV.int).length (z.1.1.2:Int)).map _=_;rw[show ixN ((tkG B has pre).map PV.int).length (z.1.1.2:Int)=zo z.1.1.2 by rw[O0];exact Q27 (by omega)];unfold Yp;rw[bh,dW];show zo ((S ++ [_]).set S.length _)=_;rw[Kc,fP]
    exact⟨_,rfl,_,_,Vr c (Qd3 rfl (Q7 rfl rfl rfl) (Jg la) (Wq PV.int 0 _ (by omega)) rfl U),_,_,rfl,rfl⟩
   ·rw[bP q];rw[bQ q]at c;exact⟨_,rfl,_,_,Y0 c rfl,_,_,rfl,rfl⟩)
  ⟨_,_,rfl,rfl⟩
 rw[<- Qff]at e;refine(J7 (show U4 [zo (.tup (ks.map trV)),zo (.lst (sv.map .int)),zo (.lst (has.map .int)),zo (.int (B:Int)),zl,zl,zl] S=_ from Q8 (Qk (W1 (jf rfl rfl))) (Q8 (Ju (Q2i rfl rfl rfl rfl (by rw[O0];omega)) e) (Ja rfl)))).trans (Q2c (Gw.add _ _ _) (Xe _ _) (O9 _) (by simp[J0]))
def hvG(ks:List Tr)(sv:List Int)(ms:List Mv4):List Nat->List Int->Bool
 | [],_=>zi
 | t :: ts,h=>match Xt (tkG t h (ks.zip sv)) (ms.filter λm=>decide (m.t=t))with
  | none=>zb
  | some h'=>hvG ks sv ms ts h'
theorem Q9i{ys:List Int}(h:Xt xs ms=zo ys):ys.length=xs.length:=by
 unfold Xt at h
 split at h
 ·cases h;rw[Q67,xh]
 ·cases h
theorem Q5r {xs:List Int} {rs:List (List Tr)} {ks:List Tr} (Q:Qok xs rs ks) {ms:List Mv4} (Y:∀ m∈ms,InN xs.length m) (hl:ms.length<=5000) {sv:List Int}:∀ (ts:List Nat) (h:List Int) (S:Q1) (a4 J:Option PV),h.length=xs.length ->
  (hvG ks sv ms ts h=zi->∃ I,Jt (Q4 4) Yq [] (ts.map λt:Nat=>PV.int (t:Int)) [zo (qV xs rs ks),zo (.lst (ms.map mvV)),zo (.lst (sv.map .int)),zo (.lst (h.map .int)),a4,J] S=.nx I S) /\
  (hvG ks sv ms ts h=zb->Jt (Q4 4) Yq [] (ts.map λt:Nat=>PV.int (t:Int)) [zo (qV xs rs ks),zo (.lst (ms.map mvV)),zo (.lst (sv.map .int)),zo (.lst (h.map .int)),a4,J] S=.rt (.bl zb) S)
 | [],h,S,a4,J,_=>⟨λ_=>⟨_,Wv (Qs _)⟩,λz=>by cases z⟩
 | t :: ts,h,S,a4,J,hh=>by
  have e1:=Qfn (n:=xs.length) (ks:=ks) (sv:=sv) (has:=h) (λt ht=>(Q.kb t ht).2.1) (by have:=Q.k5;omega) hh t S
  have a1:=xf t (ks.zip sv) h;have c:=ze (ga:=Q4 0) (mt:=Yi) (me:=Ym) (w:=[]) (Γ0:=[zl,zo (.int (t:Int))]) (st:=S) (g:=mvV) (f:=mvV) (t:=λm=>decide (m.t=t)) (Qs _) (ys:=ms) λm _=>⟨_,rfl,Qz (Q7 (Q7 rfl rfl rfl) rfl ((Q23 S m.t t).trans (by rw[show(m.t == (t:Int))=decide (m.t=t)from rfl]))),λ_=>rfl⟩
  have fl:=iD (λm:Mv4=>decide (m.t=t)) ms
  have e2:=Qf7 Q.x1 (by have:=Q.x4;omega) (ms:=ms.filter λm=>decide (m.t=t)) (λm Z=>Y m (cM.mp Z).1) (by omega) (xs:=tkG t h (ks.zip sv)) (by omega) S
  have s1:∀ (a4:Option PV),Qm 5 (Qd 4 Z6 (Q0 (mOp oIx (Q2 0) (mC (.int 2))) (Q0 (Q2 2) (Q0 (Q2 3) (Q0 (Q2 4) Q5))))) [zo (qV xs rs ks),zo (.lst (ms.map mvV)),zo (.lst (sv.map .int)),zo (.lst (h.map .int)),zo (.int (t:Int)),J] S=.nx [zo (qV xs rs ks),zo (.lst (ms.map mvV)),zo (.lst (sv.map .int)),zo (.lst (h.map .int)),zo (.int (t:Int)),zo (.lst ((tkG t h (ks.zip sv)).map .int))] S:=λ_=>Qk (Qq (n:=4) (Q3 (Q7 rfl rfl rfl) (Q3 rfl (Q3 rfl (Q3 rfl rfl)))) rfl e1)
  have O:Qm 3 (Qd 2 Yd (Q0 (Q2 5) (Q0 (Wu (Qy [zl,zo 4] (Q4 0) (Yz (Q2 1)) Yi Ym)) Q5))) [zo (qV xs rs ks),zo (.lst (ms.map mvV)),zo (.lst (sv.map .int)),zo (.lst (h.map .int)),zo (.int (t:Int)),zo (.lst ((tkG t h (ks.zip sv)).map .int))] S=.nx [zo (qV xs rs ks),zo (.lst (ms.map mvV)),zo (.lst (sv.map .int)),zo (Qv6 (Xt (tkG t h (ks.zip sv)) (ms.filter λm=>decide (m.t=t)))),zo (.int (t:Int)),zo (.lst ((tkG t h (ks.zip sv)).map .int))] S:=
   Qk (Qq (n:=2) (Q3 rfl (Q3 (Um (Zq (Ug rfl rfl (by rw[O0];omega)) c)) rfl)) rfl e2)
  rw[hvG];cases U:Xt (tkG t h (ks.zip sv)) (ms.filter λm=>decide (m.t=t))with
  | none=>
   rw[U]at O;exact⟨λz=>(by cases z),λ_=>Q2b (Qs _) rfl (Q8 (s1 zl) (Q8 O (Vr (Qz (Q7 rfl rfl rfl)) (Ja rfl))))⟩
  | some h'=>
   rw[U]at O;obtain⟨i1,i2⟩:=Q5r Q Y hl ts h' S (zo (.int (t:Int))) (zo (.lst ((tkG t h (ks.zip sv)).map .int))) (by rw[Q9i U];omega);have B:=Q8 (s1 zl) (Q8 O (Y0 (a:=J9 (mC (.bl zb))) (b:=Jf) (Qz (Q7 (o:=oIs) (a:=Q2 3) (b:=mC .non) rfl rfl rfl)) rfl));exact⟨λz=>(let ⟨I,e⟩:=i1 z;⟨I,Y7 (Qs _) rfl B e⟩),λz=>Y7 (Qs _) rfl B (i2 z)⟩
def Qc5(xs:List Int)(rs:List (List Tr))(ks:List Tr)(ms:List Mv4)(sv:List Int):Bool:=Qdg ks sv && (Q65 rs ms && hvG ks sv ms (bT (rs.length + 1)) xs)
theorem Qeq(Q:Qok xs rs ks)(J:∀ m∈ms,InN xs.length m)(O:ms.length<=5000)(S:Q1):Yc [qV xs rs ks,.lst (ms.map mvV),.lst (sv.map .int)] S=.ok (.bl (hvG ks sv ms (bT (rs.length + 1)) xs)) S:=by
 have r4:=Q.r4;obtain⟨i1,i2⟩:=Q5r Q J O (sv:=sv) (bT (rs.length + 1)) xs S zl zl rfl;have B:Z2 (Q0 (mOp Jj (Qi Z0 (Q0 (mOp oIx (Q2 0) (mC (.int 1))) Q5)) (mC (.int 1))) Q5) [zo (qV xs rs ks),zo (.lst (ms.map mvV)),zo (.lst (sv.map .int)),zo (.lst (xs.map .int)),zl,zl] S=.ok ((bT (rs.length + 1)).map λt:Nat=>PV.int (t:Int),[]) S:=by
  rw[<- Vc];exact Q56 (n:=rs.length + 1) (by omega) (Q7 (Jz (Q3 (Q7 rfl rfl rfl) rfl) (by rw[Wa,O0])) rfl (qx _ _ _))
 have s1:Qm 3 (Qi Xi (Q0 (mOp oIx (Q2 0) (mC (.int 0))) Q5)) [zo (qV xs rs ks),zo (.lst (ms.map mvV)),zo (.lst (sv.map .int)),zl,zl,zl] S=.nx [zo (qV xs rs ks),zo (.lst (ms.map mvV)),zo (.lst (sv.map .int)),zo (.lst (xs.map .int)),zl,zl] S:=Qk (Jz (Q3 (Q7 rfl rfl rfl) rfl) rfl);cases q:hvG ks sv ms (bT (rs.length + 1)) xs with
 | true=>
  obtain⟨I,e⟩:=i1 q;exact(J7 (Q8 s1 (Q8 (Ju B e) (Ja rfl)))).trans (Wr rfl)
 | false=>exact(J7 (Q8 s1 (Wz (Ju B (i2 q))))).trans (Wr rfl)
theorem Qpv(h1:1<=xs.length)(B:xs.length<=6)(J:∀ x∈xs,0<=x/\x<=1000000)(st:Q1):Wd [.tup (xs.map .int)] st=.ok (.bl zi) st:=by
 have:=Qft (zs:=xs.map λx=>(.int x,zi)) (st:=st) (by rw[O0];exact h1) (by rw[O0];exact B) (λz hz=>by
  obtain⟨x,I,rfl⟩:=E8.mp hz;have O:=J x I;have:=qj x 0 1000000 st;rw[show(decide ((0:Int)<=x) && decide (x<=1000000))=zi by simp;omega]at this;exact this)
 rw[F3,F3]at this;rw[show xs.map PV.int=xs.map (bU ∘ λx=>(PV.int x,zi))from rfl,this]
 congr 2;rw[cA,G8];intro x _;rfl
theorem Qpj(h:TsOk n ts)(st:Q1):Qt [.int n,tsV ts] st=.ok (.bl zi) st:=by
 have:=Qrq h.ok (by have:=h.len;omega) st;rw[Qbz h.inc]at this;exact this
theorem Qqu(I:rs.length<=10)(h:∀ ts∈rs,TsOk n ts)(st:Q1):J6 [.int n,.tup (rs.map tsV)] st=.ok (.bl zi) st:=by
 have:=Qky (n:=n) (zs:=rs.map λts=>(tsV ts,zi)) (st:=st) (by rw[O0];exact I) (λz hz=>by
  obtain⟨ts,B,rfl⟩:=E8.mp hz;exact Qpj (h ts B) st)
 rw[F3,F3]at this;rw[show rs.map tsV=rs.map (bU ∘ λts=>(tsV ts,zi))from rfl,this]
 congr 2;rw[cA,G8];intro x _;rfl
theorem Qpn{r:Nat}{t:Tr}(h:Qnk n r t)(st:Q1):Yh [.int n,.int r,trV t] st=.ok (.bl zi) st:=by
 obtain⟨h1,h2,B,I⟩:=h;have e1:=qj (t.1.2:Int) 0 ((n:Int) - 1) st;have e2:=qj (t.1.1:Int) 0 r st;have e3:=qj t.2 1 1000000 st;rw[show(decide ((0:Int)<=(t.1.2:Int)) && decide ((t.1.2:Int)<=(n:Int) - 1))=zi by simp;omega]at e1;rw[show(decide ((0:Int)<=(t.1.1:Int)) && decide ((t.1.1:Int)<=(r:Int)))=zi by simp;omega]at e2;rw[show(decide ((1:Int)<=t.2) && decide (t.2<=1000000))=zi by simp;omega]at e3;exact Qjy e1 e2 e3
theorem Qpm{r:Nat}(h:∀ t∈ks,Qnk n r t)(I:ks.length<=20)(st:Q1):Z4 [.int n,.int r,.tup (ks.map trV)] st=.ok (.bl zi) st:=by
 have:=Q9t (n:=n) (r:=r) (zs:=ks.map λt=>(trV t,zi)) (st:=st) (by rw[O0];exact I) (λz hz=>by
  obtain⟨t,B,rfl⟩:=E8.mp hz;exact Qpn (h t B) st)
 rw[F3,F3]at this;rw[show ks.map trV=ks.map (bU ∘ λt=>(trV t,zi))from rfl,this]
 congr 2;rw[cA,G8];intro x _;rfl
theorem Qus(q:Qok xs rs ks)(st:Q1):Y3 [qV xs rs ks] st=.ok (.bl zi) st:=by
 have h1:=Qpv q.x1 (by have:=q.x4;omega) q.xb st;have h2:=Qqu (by have:=q.r4;omega) q.rb st;have B:=Qpm q.kb (by have:=q.k5;omega) st;refine Qqj h1 ?_ ?_
 ·rw[O0];exact h2
 ·rw[O0,O0];exact B
theorem Qj2{m:MS}{B:Gam}(h:m (ps.map zo ++ bV (nl - ps.length) zl) S=.nx B S):Qr m nl ps S=.ok .non S:=by unfold Qr;rw[h];exact Qn5 S
theorem Q8m(q:Qok xs rs ks)(S:Q1):Jq [qV xs rs ks] S=.ok .non S:=
 Qj2 (m:=Us) (nl:=1) (Y0 (Q3h (Qz (Qq (n:=1) (Q3 rfl rfl) rfl (Qus q S)))) rfl)
theorem Qem(Q:Qok xs rs ks)(O:∀ m∈ms,InN xs.length m)(J:ms.length<=5000)(S:Q1):X8 [qV xs rs ks,.tup [.lst (ms.map mvV),.lst (sv.map .int)]] S=.ok (.bl (Qc5 xs rs ks ms sv)) S:=by
 have B:=Q3h (Qz (Qq (n:=2) (Γ:=[zo (qV xs rs ks),zo (.tup [.lst (ms.map mvV),.lst (sv.map .int)])]) (mr:=Q0 (mOp oIx (Q2 0) (mC (.int 2))) (Q0 (mOp oIx (Q2 1) (mC (.int 1))) Q5)) (Q3 (Q7 rfl rfl rfl) (Q3 (Q7 rfl rfl rfl) rfl)) rfl (Qq0 (ks:=ks) (sv:=sv) (by have:=Q.k5;omega) S)));have I:=Q3h (Qz (Qq (n:=2) (Γ:=[zo (qV xs rs ks),zo (.tup [.lst (ms.map mvV),.lst (sv.map .int)])]) (mr:=Q0 (mOp oIx (Q2 0) (mC (.int 1))) (Q0 (mOp oIx (Q2 1) (mC (.int 0))) Q5)) (Q3 (Q7 rfl rfl rfl) (Q3 (Q7 rfl rfl rfl) rfl)) rfl (Qnc Q J S)));have s1:Yx (Qd 1 Jq (Q0 (Q2 0) Q5)) [zo (qV xs rs ks),zo (.tup [.lst (ms.map mvV),.lst (sv.map .int)])] S=.nx _ S:=Qii (Qq (n:=1) (Q3 rfl rfl) rfl (Q8m Q S));unfold Qc5;cases h1:Qdg ks sv with
 | false=>
  rw[h1]at B;exact(J7 (Q8 s1 (Wz (Vr (Qma B) (Ja rfl))))).trans (Wr rfl)
 | true=>
  rw[h1]at B;cases h2:Q65 rs ms with
  | false=>
   rw[h2]at I;exact(J7 (Q8 s1 (Wz (Vr (Q3b B I) (Ja rfl))))).trans (Wr rfl)
  | true=>
   rw[h2]at I;exact(J7 (Q8 s1 (Q8 (Y0 (Q3b B I) rfl) (Ja (Qq (n:=3) (Q3 rfl (Q3 (Q7 rfl rfl rfl) (Q3 (Q7 rfl rfl rfl) rfl))) rfl (Qeq Q O J (sv:=sv) S)))))).trans (Wr rfl)
theorem Qna(Q:Qok xs rs ks)(J:List Int->List Int->Int->Prop)(I:J [] ((wsQ xs rs).map λ_=>0) 0)(U:∀ (B ls:List Int) (sv a:Int) (F:Fd) (ns:List Nd) (ss:List (Nat × Bool)) (t:Tr),ks[B.length]?=zo t->ls.length=(wsQ xs rs).length->J B ls sv->FT (wsQ xs rs) ls F->Pt (wsQ xs rs) ls F (zo (t.1.2,t.1.1)) ns ss->1<=a->(∀ s∈ss,a<=room (wsQ xs rs) ls s)->a<=t.2 - sv->J B (push a ls ss) (sv + a))(O:∀ (B ls:List Int) (sv:Int) (F:Fd) (t:Tr),ks[B.length]?=zo t->ls.length=(wsQ xs rs).length->J B ls sv->sv<=t.2->FT (wsQ xs rs) ls F->(∀ u∈kys F,Cld (wsQ xs rs) ls F u)->(sv=t.2\/zo (t.1.2,t.1.1)∉kys F)->J (B ++ [sv]) ls 0)(S:Q1):∃ B ls F,Q4g [qV xs rs ks] S=.ok (.tup [.int B.sum,.tup [.lst ((mvs (wsQ xs rs) ls).map mvV),.lst (B.map .int)],.lst ((qq (((kys F).filter λv=>!decide (v=zl)).map ndI)).map qv)]) S/\B.length=ks.length/\ls.length=(wsQ xs rs).length/\J B ls 0/\FT (wsQ xs rs) ls F/\∀ u∈kys F,Cld (wsQ xs rs) ls F u:=by
 obtain⟨B,ls,F,e,h⟩:=Qta Q J I U O S;refine⟨B,ls,F,?_,h⟩;have Y:Qar [zo (qV xs rs ks),zl] S=.rt (.tup [.int B.sum,.tup [.lst ((mvs (wsQ xs rs) ls).map mvV),.lst (B.map .int)],.lst ((qq (((kys F).filter λv=>!decide (v=zl)).map ndI)).map qv)]) S:=
  Q8 (Qii (Qq (n:=1) (Q3 rfl rfl) rfl (Q8m Q S))) (Q8 (Qk (Qq (n:=1) (Q3 rfl rfl) rfl e)) (Ja (J8 (Q3 (Jz (Q3 (Q7 rfl rfl rfl) rfl) (zf _ _ _)) (Q3 (J8 (Q3 (Q7 rfl rfl rfl) (Q3 (Q7 rfl rfl rfl) rfl)) (D9 rfl)) (Q3 (Q7 rfl rfl rfl) rfl))) (D9 rfl))))
 exact(J7 Y).trans (Wr (by simp[J0,mvV,qv]))
theorem Qrw(Q:Qok xs rs ks)(ls:List Int):(∀ m∈mvs (wsQ xs rs) ls,InN xs.length m)/\(mvs (wsQ xs rs) ls).length<=500:=by
 refine⟨λm J=>?_,?_⟩
 ·obtain⟨⟨w,l⟩,hz,ho⟩:=cx.mp J;have O:=(cN hz).1;obtain⟨b,e1,e2,_,B⟩:=(Q9m Q w O).h;obtain⟨u,v,c⟩:=w;cases u with
  | none=>cases ho
  | some a=>
   rcases B with B | ⟨U,I,Y,_⟩
   ·cases B
   ·cases I;have e1:v=zo b:=e1;subst e1;unfold mvO at ho;simp only at ho
    split at ho
    ·cases ho;exact⟨⟨by show(0:Int)<=(a.1:Int);omega,by show(a.1:Int) < _;omega⟩,by show(0:Int)<=(b.1:Int);omega,by show(b.1:Int) < _;omega⟩
    ·cases ho
 ·have h1:=iC mvO ((wsQ xs rs).zip ls);rw[cs]at h1;have h2:=Q6a Q;show((wsQ xs rs).zip ls |>.filterMap mvO).length<=500;omega
theorem Q7u{st st':Q1}{D:Nat}{k0 B:List (HK × PV)}(h1:st[D]?=zo (.dtp k0))(h2:st'[D]?=zo (.frt B))(I:∀ n,n≠D->∀ a b,st[n]?=zo (.dtp a)->st'[n]?=zo (.frt b)->False):∀ m,thawT st st' m=if D < m then st'.set D (.dtp B)else st'
 | 0=>rfl
 | m + 1=>by
  have J:=Q7u h1 h2 I m;rw[thawT,J]
  by_cases q:m=D
  ·subst q;rw[bP (by omega),bO (by omega),h1,h2]
  ·by_cases p:D < m
   ·rw[bO p,bO (by omega)]
    split
    ·rename_i a b e1 e2;rw[O8 (λz=>q z.symm)]at e2;exact(I m q a b e1 e2).elim
    ·rfl
   ·rw[bP p,bP (by omega)]
    split
    ·rename_i a b e1 e2;exact(I m q a b e1 e2).elim
    ·rfl
theorem Qbn{m:MS}{B:Gam}{st':Q1}(h:m Γ st=.nx B st'):Ut m Γ st=.nx B (thawT st st' st.length):=by unfold Ut;rw[h]
theorem Qjx{m:MS}{st':Q1}(h:m Γ st=.rt v st'):Ut m Γ st=.rt v st':=by unfold Ut;rw[h]
theorem Qp3{T:Q1}(U:G.length<=5000)(h:m Γ (S ++ .dtp (Qj G) :: T)=.ok (.ref S.length) (S ++ .dtp (Qj G) :: T)):V5 m Γ (S ++ .dtp (Qj G) :: T)=.ok (G.map λe=>k3V e.1,[(S.length,.frt (Qj G))]) (S ++ .frt (Qj G) :: T):=by
 unfold V5;rw[h,Qp];have O:(S ++ Cell.dtp (Qj G) :: T)[S.length]?=zo (.dtp (Qj G)):=by rw[D7 (O9 _),L6];rfl
 have J:jh (λB=>hkV B.1) (S ++ .dtp (Qj G) :: T) (.ref S.length)=zo (G.map λe=>k3V e.1,S.length,Qj G):=by
  show(match (S ++ Cell.dtp (Qj G) :: T)[S.length]? with | some (.dtp I)=>zo (I.map (λB:HK × PV=>hkV B.1),S.length,I) | _=>zl)=_
  rw[O];show zo ((Qj G).map (λB:HK × PV=>hkV B.1),S.length,Qj G)=_;unfold Qj;rw[F3];rfl
 rw[J];show(if(G.map λe=>k3V e.1).length<=lim then Res.ok (G.map (λe=>k3V e.1),[(S.length,Cell.frt (Qj G))]) ((S ++ Cell.dtp (Qj G) :: T).set S.length (.frt (Qj G)))else .stuck)=_;rw[bO (by rw[O0,Jr];omega),cv _ _ (O9 _),L6];rfl
theorem Q8q(S T:Q1)(c:Cell):(S ++ c :: T)[S.length]?=zo c:=by rw[D7 (O9 _),L6];rfl
theorem Qpe(G:L3)(S T:Q1):wOk [(S.length,.frt (Qj G))] (S ++ .frt (Qj G) :: T):=λx B=>by
 have:x=(S.length,.frt (Qj G)):=by simpa using B
 rw[this];exact Q8q S T _
theorem Qnq{T T':Q1}(I:∀ (n:Nat) kvs,T'[n]?≠zo (Cell.frt kvs)):thawT (S ++ .dtp (Qj G) :: T) (S ++ .frt (Qj G) :: T') (S ++ .dtp (Qj G) :: T).length=S ++ .dtp (Qj G) :: T':=by
 rw[Q7u (Q8q S T _) (Q8q S T' _) (λn hn a b e1 e2=>?_),bO (by rw[O5,E5];omega),cv _ _ (O9 _),L6];rfl
 by_cases q:n < S.length
 ·rw[O3 q]at e1 e2;rw[e1]at e2;cases e2
 ·rw[D7 (by omega)]at e2;obtain⟨k,B⟩:∃ k,n - S.length=k + 1:=⟨n - S.length - 1,by omega⟩;rw[B,cy]at e2;exact I _ _ e2
theorem Qcj:∀ {G:L3} {e:K3 × Int},(G.map (·.1)).Nodup->e∈G->look G e.1=e.2
 | x :: G,e,nd,B=>by
  rw[D8]at nd;obtain⟨h1,h2⟩:=L8.mp nd;rcases E2.mp B with rfl | B
  ·rw[look,bO rfl]
  ·rw[look,bP λz=>h1 (by rw[z];exact E8.mpr ⟨e,B,rfl⟩)]
   exact Qcj h2 B
theorem Qc3(nd:(G.map (·.1)).Nodup)(z:K3)(k:Int):((Uh G z k).map (·.1)).Nodup:=by
 unfold Uh
 split
 ·rw[F3,show((λx:K3 × Int=>x.1) ∘ λe=>if e.1=z then(e.1,look G z + k)else e)=λx:K3 × Int=>x.1 from funext λx=>by show(if x.1=z then(x.1,look G z + k)else x).1=_;split <;> rfl]
  exact nd
 ·rename_i q;rw[E7];refine bx.mpr ⟨nd,by simp,λa B c I e=>?_⟩;have:c=z:=by simpa using I
  exact q (by rw[<- this,<- e];exact B)
theorem Qs5(ms:List Mv4):((ldm ms).map (·.1)).Nodup:=by
 have:∀ (ms:List Mv4) (G:L3),(G.map (·.1)).Nodup->((ms.foldl (λG m=>Uh G (mK m) m.k) G).map (·.1)).Nodup:=by
  intro ms
  induction ms with
  | nil=>exact λG h=>h
  | cons m ms B=>exact λG h=>B _ (Qc3 h _ _)
 exact this ms [] cm
theorem Qi9{T:Q1}(nd:(G.map (·.1)).Nodup)(I:e∈G):Q1m (S ++ .frt (Qj G) :: T) (.ref S.length) (k3V e.1)=.ok (.int e.2) (S ++ .frt (Qj G) :: T):=by
 unfold Q1m;have J:Xp (S ++ .frt (Qj G) :: T) (.ref S.length)=zo (Qj G):=by show(match (S ++ Cell.frt (Qj G) :: T)[S.length]? with | some (.dtp B)=>zo B | some (.frt B)=>zo B | _=>zl)=_;rw[Q8q]
 rw[J,Qay];show(match Up (Qj G) (k3K e.1)with | some v=>Res.ok v _ | none=>.stuck)=_
 rw[Qpf,bO (E8.mpr ⟨e,I,rfl⟩),Qcj nd I]
abbrev pG(q Vm Vs s r k:PV)(a6 a7 a8 a9 a10 a11 a12 a13 a14 a15:Option PV):Gam:=[zo q,zo Vm,zo Vs,zo s,zo r,zo k,a6,a7,a8,a9,a10,a11,a12,a13,a14,a15]
def okM(rs:List (List Tr))(m:Mv4):Bool:=decide (0<=m.t/\m.t < rs.length) && !decide (m.k < 1)
def rmB(rs:List (List Tr))(e:K3 × Int):Bool:=match Q0w rs e.1.1 e.1.2.1 e.1.2.2 with
 | []=>zb
 | r :: _=>!decide (r < e.2)
theorem Q71(ms:List Mv4):∀ e∈ldm ms,∃ m∈ms,e.1=mK m:=by
 have:∀ (ms:List Mv4) (G:L3),∀ e∈ms.foldl (λG m=>Uh G (mK m) m.k) G,(∃ m∈ms,e.1=mK m)\/∃ U∈G,e.1=U.1:=by
  intro ms
  induction ms with
  | nil=>exact λG e I=>.inr ⟨e,I,rfl⟩
  | cons m ms O=>
   intro G e I;rcases O _ e I with⟨x,B,q⟩ | ⟨x,B,q⟩
   ·exact .inl ⟨x,O6 _ B,q⟩
   ·have B:x∈Uh G (mK m) m.k:=B;unfold Uh at B
    split at B
    ·obtain⟨y,J,rfl⟩:=E8.mp B;refine .inr ⟨y,J,q.trans ?_⟩
     split <;> rfl
    ·rcases D4.mp B with B | B
     ·exact .inr ⟨x,B,q⟩
     ·have:x=(mK m,m.k):=by simpa using B
      subst this;exact .inl ⟨m,D3,q⟩
 intro e I;rcases this ms [] e I with h | ⟨x,B,_⟩
 ·exact h
 ·cases B
theorem Qp5 {rs:List (List Tr)} {q Vm Vs s k:PV} {S:Q1} {w:Wt} (hw:∀ T,wOk w (S ++ T)) (I Y O U J:Option PV):∀ (ms pre:List Mv4) (a7 a8 a9 Z:Option PV),pre.length + ms.length<=5000 ->
  (ms.all (okM rs)=zi->∃ b7 b8 b9 a3,Jt (Qv (Q6 (Q4 7) (Q6 (Q4 8) (Q6 (Q4 9) (Q6 (Q4 10) Qw))))) Jw w (ms.map mvV) (pG q Vm Vs s (.tup (rs.map tsV)) k (zo (.ref S.length)) a7 a8 a9 Z I Y O U J) (S ++ [.dtp (Qj (ldm pre))])=.nx (pG q Vm Vs s (.tup (rs.map tsV)) k (zo (.ref S.length)) b7 b8 b9 a3 I Y O U J) (S ++ [.dtp (Qj (ldm (pre ++ ms)))])) /\
  (ms.all (okM rs)=zb->∃ T,Jt (Qv (Q6 (Q4 7) (Q6 (Q4 8) (Q6 (Q4 9) (Q6 (Q4 10) Qw))))) Jw w (ms.map mvV) (pG q Vm Vs s (.tup (rs.map tsV)) k (zo (.ref S.length)) a7 a8 a9 Z I Y O U J) (S ++ [.dtp (Qj (ldm pre))])=.rt (.bl zb) (S ++ T))
 | [],pre,a7,a8,a9,Z,_=>⟨λ_=>⟨a7,a8,a9,Z,by rw[G6];exact Wv (hw _)⟩,λz=>by cases z⟩
 | m :: ms,pre,a7,a8,a9,Z,hl=>by
  rw[E5]at hl;have c1:=Qi2 rs m.t (Γ:=pG q Vm Vs s (.tup (rs.map tsV)) k (zo (.ref S.length)) (zo (.int m.t)) (zo (.int m.i)) (zo (.int m.j)) (zo (.int m.k)) I Y O U J) (S:=S ++ [.dtp (Qj (ldm pre))]) (ma:=Q2 7) (mb:=Q2 4) rfl rfl;have c2:=Qz (Q7 (o:=oLt) (a:=Q2 10) (b:=mC (.int 1)) (Γ:=pG q Vm Vs s (.tup (rs.map tsV)) k (zo (.ref S.length)) (zo (.int m.t)) (zo (.int m.i)) (zo (.int m.j)) (zo (.int m.k)) I Y O U J) rfl rfl (Q08 (S ++ [.dtp (Qj (ldm pre))]) m.k 1));rw[bp];have a4:∀ {T:MT} {B:MS},T (pG q Vm Vs s (.tup (rs.map tsV)) k (zo (.ref S.length)) (zo (.int m.t)) (zo (.int m.i)) (zo (.int m.j)) (zo (.int m.k)) I Y O U J) (S ++ [.dtp (Qj (ldm pre))])=.ok zi (S ++ [.dtp (Qj (ldm pre))])->Qb (Z5 T (J9 (mC (.bl zb))) Jf) B (pG q Vm Vs s (.tup (rs.map tsV)) k (zo (.ref S.length)) (zo (.int m.t)) (zo (.int m.i)) (zo (.int m.j)) (zo (.int m.k)) I Y O U J) (S ++ [.dtp (Qj (ldm pre))])=.rt (.bl zb) (S ++ [.dtp (Qj (ldm pre))]):=λh=>Wz (Vr h (Ja rfl))
  by_cases h1:0<=m.t/\m.t < rs.length
  ·rw[bR h1]at c1
   by_cases h2:m.k < 1
   ·rw[bR h2]at c2;have ho:okM rs m=zb:=by unfold okM;rw[bR h2];simp
    rw[ho];exact⟨λz=>(by cases z),λ_=>⟨_,Q2b (hw _) rfl (a4 (Q3b c1 c2))⟩⟩
   ·rw[bQ h2]at c2;have ho:okM rs m=zi:=by unfold okM;rw[bR h1,bQ h2];rfl
    rw[ho,cu];have hd:=Xe S (.dtp (Qj (ldm pre)));have dl:=Q26 pre;have a2:=Qpa hd (by omega) (mK m) m.k;rw[Kc,<- Qcn]at a2;have a1:Jw (pG q Vm Vs s (.tup (rs.map tsV)) k (zo (.ref S.length)) (zo (.int m.t)) (zo (.int m.i)) (zo (.int m.j)) (zo (.int m.k)) I Y O U J) (S ++ [.dtp (Qj (ldm pre))])=.nx (pG q Vm Vs s (.tup (rs.map tsV)) k (zo (.ref S.length)) (zo (.int m.t)) (zo (.int m.i)) (zo (.int m.j)) (zo (.int m.k)) I Y O U J) (S ++ [.dtp (Qj (ldm (pre ++ [m])))]):=
     Q8 (Y0 (Q3b c1 c2) rfl) (Q12 (Q7 (Qcu rfl (rd3 hd) (J8 (Q3 rfl (Q3 rfl (Q3 rfl rfl))) (show 3<=1000000 by decide)) rfl (Qw8 hd (mK m))) rfl (qx _ _ _)) rfl (J8 (Q3 rfl (Q3 rfl (Q3 rfl rfl))) (show 3<=1000000 by decide)) a2)
    obtain⟨i1,i2⟩:=Qp5 hw I Y O U J ms (pre ++ [m]) (zo (.int m.t)) (zo (.int m.i)) (zo (.int m.j)) (zo (.int m.k)) (by rw[O5];simp;omega);refine⟨λz=>?_,λz=>?_⟩
    ·obtain⟨b7,b8,b9,a3,e⟩:=i1 z;exact⟨b7,b8,b9,a3,by rw[M0]at e;exact Y7 (hw _) rfl a1 e⟩
    ·obtain⟨T,e⟩:=i2 z;exact⟨T,Y7 (hw _) rfl a1 e⟩
  ·rw[bQ h1]at c1;have ho:okM rs m=zb:=by unfold okM;rw[bQ h1];rfl
   rw[ho];exact⟨λz=>(by cases z),λ_=>⟨_,Q2b (hw _) rfl (a4 (Qma c1))⟩⟩
theorem Qsq(S:Q1)(l:List Int):oEq S (.lst (l.map .int)) (.lst [])=.ok (.bl l.isEmpty) S:=by
 cases l with
 | nil=>rfl
 | cons a l=>
  show(if J0 dep (.lst ((a :: l).map .int))=zi/\J0 dep (.lst [])=zi then Res.ok (PV.bl (peq (.lst ((a :: l).map .int)) (.lst []))) S else .stuck)=_;rw[bO ⟨by simp[J0,dep],rfl⟩];simp[peq,peqL]
theorem Qw6 {q Vm Vs s k:PV} {S:Q1} {G':L3} (nd:(G.map (·.1)).Nodup) (hs:∀ e∈G',e∈G) (ht:∀ e∈G',0<=e.1.1/\e.1.1 < rs.length) (hr:∀ t,(rs.getD t []).length<=100) (a7 a8 a9 B a1 Y O U I:Option PV) :
  (G'.all (rmB rs)=zi->∃ b7 b8 b9 Z,Jt (Qv (Q6 (Q4 7) (Q6 (Q4 8) (Q6 (Q4 9) Qw)))) Jv [(S.length,.frt (Qj G))] (G'.map λe=>k3V e.1) (pG q Vm Vs s (.tup (rs.map tsV)) k (zo (.ref S.length)) a7 a8 a9 B a1 Y O U I) (S ++ [.frt (Qj G)])=.nx (pG q Vm Vs s (.tup (rs.map tsV)) k (zo (.ref S.length)) b7 b8 b9 B Z Y O U I) (S ++ [.frt (Qj G)])) /\
  (G'.all (rmB rs)=zb->Jt (Qv (Q6 (Q4 7) (Q6 (Q4 8) (Q6 (Q4 9) Qw)))) Jv [(S.length,.frt (Qj G))] (G'.map λe=>k3V e.1) (pG q Vm Vs s (.tup (rs.map tsV)) k (zo (.ref S.length)) a7 a8 a9 B a1 Y O U I) (S ++ [.frt (Qj G)])=.rt (.bl zb) (S ++ [.frt (Qj G)])):=by
 obtain⟨i1,i2⟩:=Q1k (g:=λe:K3 × Int=>k3V e.1) (J:=λΓ=>∃ b7 b8 b9 Z,Γ=pG q Vm Vs s (.tup (rs.map tsV)) k (zo (.ref S.length)) b7 b8 b9 B Z Y O U I) (Pd:=rmB rs) (v:=.bl zb) (ga:=Qv (Q6 (Q4 7) (Q6 (Q4 8) (Q6 (Q4 9) Qw)))) (body:=Jv) (w:=[(S.length,.frt (Qj G))]) (st:=S ++ [.frt (Qj G)]) (Qpe G S []) (xs:=G') (λe he Γ a2=>by
  obtain⟨b7,b8,b9,Z,rfl⟩:=a2;have h:=ht e he;have c:=ze (ga:=Q4 0) (mt:=Zg) (me:=Zm) (w:=[]) (Γ0:=[zl,zo (.int e.1.2.1),zo (.int e.1.2.2)]) (st:=S ++ [.frt (Qj G)]) (g:=trV) (f:=λz=>PV.int z.2) (t:=isR e.1.2.1 e.1.2.2) (Qs _) (ys:=rs.getD e.1.1.toNat []) λz _=>⟨_,rfl,Qi1 e.1.2.1 e.1.2.2 z rfl rfl rfl,λ_=>Q7 rfl rfl rfl⟩
  rw[show(((rs.getD e.1.1.toNat []).filter (isR e.1.2.1 e.1.2.2)).map λz=>PV.int z.2)=(Q0w rs e.1.1 e.1.2.1 e.1.2.2).map .int by unfold Q0w;rw[F3];rfl]at c
  have s1:Qm 11 (Wu (Qy [zl,zo 8,zo 9] (Q4 0) (Yz (mOp oIx (Q2 4) (Q2 7))) Zg Zm)) (pG q Vm Vs s (.tup (rs.map tsV)) k (zo (.ref S.length)) (zo (.int e.1.1)) (zo (.int e.1.2.1)) (zo (.int e.1.2.2)) B Z Y O U I) (S ++ [.frt (Qj G)])=.nx (pG q Vm Vs s (.tup (rs.map tsV)) k (zo (.ref S.length)) (zo (.int e.1.1)) (zo (.int e.1.2.1)) (zo (.int e.1.2.2)) B (zo (.lst ((Q0w rs e.1.1 e.1.2.1 e.1.2.2).map .int))) Y O U I) (S ++ [.frt (Qj G)]):=
   Qk (Um (Zq (Ug (Q7 rfl rfl (Qi0 h _)) rfl (by rw[O0];have:=hr e.1.1.toNat;omega)) c))
  have c1:=Qz (Q7 (o:=oEq) (a:=Q2 11) (b:=Z1 Q5) (Γ:=pG q Vm Vs s (.tup (rs.map tsV)) k (zo (.ref S.length)) (zo (.int e.1.1)) (zo (.int e.1.2.1)) (zo (.int e.1.2.2)) B (zo (.lst ((Q0w rs e.1.1 e.1.2.1 e.1.2.2).map .int))) Y O U I) rfl (Yv rfl) (Qsq (S ++ [.frt (Qj G)]) (Q0w rs e.1.1 e.1.2.1 e.1.2.2)));refine⟨_,rfl,?_⟩;unfold rmB;cases hz:Q0w rs e.1.1 e.1.2.1 e.1.2.2 with
  | nil=>
   rw[hz]at s1 c1;exact⟨λz=>(by cases z),λ_=>Q8 s1 (Vr (Qma c1) (Ja rfl))⟩
  | cons r l=>
   rw[hz]at s1 c1;have c2:toB (mOp (oI λa b=>.bl (decide (b < a))) (U6 (Q2 6) (Je (Q0 (Q2 7) (Q0 (Q2 8) (Q0 (Q2 9) Q5))))) (mOp oIx (Q2 11) (mC (.int 0)))) (pG q Vm Vs s (.tup (rs.map tsV)) k (zo (.ref S.length)) (zo (.int e.1.1)) (zo (.int e.1.2.1)) (zo (.int e.1.2.2)) B (zo (.lst ((r :: l).map .int))) Y O U I) (S ++ [.frt (Qj G)])=.ok (decide (r < e.2)) (S ++ [.frt (Qj G)]):=
    Qz (Q7 (yu rfl (J8 (Q3 rfl (Q3 rfl (Q3 rfl rfl))) (show 3<=1000000 by decide)) (Qi9 (S:=S) (T:=[]) nd (hs e he))) (Q7 (y:=.int 0) (v:=.int r) rfl rfl (show okO _ (atI ((r :: l).map PV.int) ((0:Nat):Int))=_ by rw[Wq PV.int 0 (r :: l) (by simp)];rfl)) rfl)
   refine⟨λz=>⟨_,⟨_,_,_,_,rfl⟩,Q8 s1 (Y0 (Q3b c1 ?_) rfl)⟩,λz=>Q8 s1 (Vr (Q3b c1 ?_) (Ja rfl))⟩
   ·rw[c2];congr 1;simpa using z
   ·rw[c2];congr 1;simpa using z) (pG q Vm Vs s (.tup (rs.map tsV)) k (zo (.ref S.length)) a7 a8 a9 B a1 Y O U I) ⟨_,_,_,_,rfl⟩
 refine⟨λz=>?_,i2⟩;obtain⟨a3,⟨b7,b8,b9,Z,rfl⟩,e⟩:=i1 z;exact⟨b7,b8,b9,Z,e⟩
theorem Qn0(S:Q1)(c d:Cell):(S ++ [c,d])[S.length + 1]?=zo d:=by rw[D7 (by omega),show S.length + 1 - S.length=1 by omega];rfl
theorem Qsi(S:Q1)(c d e:Cell):(S ++ [c,d]).set (S.length + 1) e=S ++ [c,e]:=by rw[cv _ _ (by omega),show S.length + 1 - S.length=1 by omega];rfl
theorem ixH{i:Int}(h0:0<=i/\i < h.length):oIx (S ++ [c,.lst (h.map .int)]) (.ref (S.length + 1)) (.int i)=.ok (.int (h.getD i.toNat 0)) (S ++ [c,.lst (h.map .int)]):=by
 rw[Q3g,Qn0];obtain⟨k,rfl⟩:∃ k:Nat,i=k:=⟨i.toNat,by omega⟩;show okO _ (atI (h.map PV.int) (k:Int))=_;rw[Wq PV.int 0 h (by omega),bh];rfl
theorem Qq4{i:Int}(h0:0<=i/\i < h.length)(d:Int):Wh (S ++ [c,.lst (h.map .int)]) (.ref (S.length + 1)) (.int i) (.int (h.getD i.toNat 0 + d))=zo (S ++ [c,.lst ((Yp h i d).map .int)]):=by
 rw[Kt,Qn0];obtain⟨k,rfl⟩:∃ k:Nat,i=k:=⟨i.toNat,by omega⟩;show(ixN (h.map PV.int).length (k:Int)).map _=_;rw[show ixN (h.map PV.int).length (k:Int)=zo k by rw[O0];exact Q27 (by omega)];unfold Yp;rw[bh,dW];show zo ((S ++ [c,_]).set (S.length + 1) _)=_;rw[Qsi]
def Q4x(mom:Nat)(G:L3)(h:List Int):List Int:=G.foldl (λh e=>if e.1.1=(mom:Int)then Yp h e.1.2.1 (-e.2)else h) h
def Q96(mom:Nat)(G:L3)(h:List Int):List Int:=G.foldl (λh e=>if e.1.1=(mom:Int)then Yp h e.1.2.2 e.2 else h) h
def tkH(mom:Nat)(has:List Int)(zs:List (Int × Tr)):List Int:=zs.foldl (λh z=>if z.2.1.1=mom then Yp h (z.2.1.2:Nat) (-z.1)else h) has
theorem Qbm(B:Nat):∀ (sv:List Int) (ks:List Tr) (h:List Int),tkH B h (sv.zip ks)=tkG B h (ks.zip sv)
 | [],ks,h=>by rw[eT];rfl
 | a :: sv,[],h=>rfl
 | a :: sv,k :: ks,h=>Qbm B sv ks _
theorem Qp2 {n:Nat} {q Vm Vs s r k:PV} {S:Q1} {G:L3} {body:MS} (O:List Int->K3 × Int->List Int) (hl:∀ h e,(O h e).length=h.length) (B I Z U Y J:Option PV)
  (hb:∀ e∈G,∀ h:List Int,h.length=n->body (pG q Vm Vs s r k (zo (.ref S.length)) (zo (.int e.1.1)) (zo (.int e.1.2.1)) (zo (.int e.1.2.2)) B I Z U Y J) (S ++ [.frt (Qj G),.lst (h.map .int)])=.nx (pG q Vm Vs s r k (zo (.ref S.length)) (zo (.int e.1.1)) (zo (.int e.1.2.1)) (zo (.int e.1.2.2)) B I Z U Y J) (S ++ [.frt (Qj G),.lst ((O h e).map .int)])) :
  ∀ (G':L3) (h:List Int) (a7 a8 a9:Option PV),(∀ e∈G',e∈G)->h.length=n->∃ b7 b8 b9,Jt (Qv (Q6 (Q4 7) (Q6 (Q4 8) (Q6 (Q4 9) Qw)))) body [(S.length,.frt (Qj G))] (G'.map λe=>k3V e.1) (pG q Vm Vs s r k (zo (.ref S.length)) a7 a8 a9 B I Z U Y J) (S ++ [.frt (Qj G),.lst (h.map .int)])=.nx (pG q Vm Vs s r k (zo (.ref S.length)) b7 b8 b9 B I Z U Y J) (S ++ [.frt (Qj G),.lst ((G'.foldl O h).map .int)])
 | [],h,a7,a8,a9,_,_=>⟨a7,a8,a9,Wv (Qpe G S _)⟩
 | e :: G',h,a7,a8,a9,hs,hn=>by
  obtain⟨b7,b8,b9,e'⟩:=Qp2 O hl B I Z U Y J hb G' (O h e) (zo (.int e.1.1)) (zo (.int e.1.2.1)) (zo (.int e.1.2.2)) (λx hx=>hs x (O6 _ hx)) ((hl h e).trans hn)
  exact⟨b7,b8,b9,Y7 (Qpe G S _) rfl (hb e (hs e D3) h hn) e'⟩
theorem Qp1 {n:Nat} {q Vm Vs s r k:PV} {S:Q1} {body:MS} (O:List Int->K3 × Int->List Int) (hl:∀ h e,(O h e).length=h.length) (B I Z U Y J:Option PV) (a1:G.length<=5000)
  (hb:∀ e∈G,∀ h:List Int,h.length=n->body (pG q Vm Vs s r k (zo (.ref S.length)) (zo (.int e.1.1)) (zo (.int e.1.2.1)) (zo (.int e.1.2.2)) B I Z U Y J) (S ++ [.frt (Qj G),.lst (h.map .int)])=.nx (pG q Vm Vs s r k (zo (.ref S.length)) (zo (.int e.1.1)) (zo (.int e.1.2.1)) (zo (.int e.1.2.2)) B I Z U Y J) (S ++ [.frt (Qj G),.lst ((O h e).map .int)]))
  (h:List Int) (a7 a8 a9:Option PV) (hn:h.length=n):∃ b7 b8 b9,Ut (Yu (Qv (Q6 (Q4 7) (Q6 (Q4 8) (Q6 (Q4 9) Qw)))) (V5 (Q2 6)) body) (pG q Vm Vs s r k (zo (.ref S.length)) a7 a8 a9 B I Z U Y J) (S ++ [.dtp (Qj G),.lst (h.map .int)])=.nx (pG q Vm Vs s r k (zo (.ref S.length)) b7 b8 b9 B I Z U Y J) (S ++ [.dtp (Qj G),.lst ((G.foldl O h).map .int)]):=by
 obtain⟨b7,b8,b9,e⟩:=Qp2 O hl B I Z U Y J hb G h a7 a8 a9 (λe he=>he) hn;refine⟨b7,b8,b9,(Qbn (Ju (Qp3 a1 (T:=[.lst (h.map .int)]) rfl) e)).trans ?_⟩;rw[Qnq (T:=[.lst (h.map .int)]) (T':=[.lst ((G.foldl O h).map .int)]) λi a2 z=>by
  cases i with
  | zero=>cases z
  | succ i=>cases z]
theorem Qw5{r:PV}(nd:(G.map (·.1)).Nodup)(hi:∀ e∈G,(0<=e.1.2.1/\e.1.2.1 < n)/\0<=e.1.2.2/\e.1.2.2 < n)(Y:G.length<=5000)(B:Nat)(I J U O:Option PV)(h:List Int)(a7 a8 a9:Option PV)(hn:h.length=n){k:PV}:∃ b7 b8 b9,Ut (Yu (Qv (Q6 (Q4 7) (Q6 (Q4 8) (Q6 (Q4 9) Qw)))) (V5 (Q2 6)) Wc) (pG q Vm Vs s r k (zo (.ref S.length)) a7 a8 a9 I J (zo (.ref (S.length + 1))) (zo (.int (B:Int))) U O) (S ++ [.dtp (Qj G),.lst (h.map .int)])=.nx (pG q Vm Vs s r k (zo (.ref S.length)) b7 b8 b9 I J (zo (.ref (S.length + 1))) (zo (.int (B:Int))) U O) (S ++ [.dtp (Qj G),.lst ((Q4x B G h).map .int)]):=
 Qp1 (n:=n) (λh e=>if e.1.1=(B:Int)then Yp h e.1.2.1 (-e.2)else h) (λh e=>by
  by_cases p:e.1.1=(B:Int)
  ·rw[bO p];exact Zr _ _ _
  ·rw[bP p]) I J _ _ U O Y (λe Z h hn=>by
  have c:=Qz (Q7 (o:=oEq) (a:=Q2 7) (b:=Q2 13) (Γ:=pG q Vm Vs s r k (zo (.ref S.length)) (zo (.int e.1.1)) (zo (.int e.1.2.1)) (zo (.int e.1.2.2)) I J (zo (.ref (S.length + 1))) (zo (.int (B:Int))) U O) rfl rfl (Q23 (S ++ [.frt (Qj G),.lst (h.map .int)]) e.1.1 B));have hx:=(hi e Z).1
  by_cases p:e.1.1=(B:Int)
  ·rw[bO p];rw[show(e.1.1 == (B:Int))=zi by simpa using p]at c;have hm:mOp (oI λa b=>.int (a - b)) (mOp oIx (Q2 12) (Q2 8)) (U6 (Q2 6) (Je (Q0 (Q2 7) (Q0 (Q2 8) (Q0 (Q2 9) Q5))))) (pG q Vm Vs s r k (zo (.ref S.length)) (zo (.int e.1.1)) (zo (.int e.1.2.1)) (zo (.int e.1.2.2)) I J (zo (.ref (S.length + 1))) (zo (.int (B:Int))) U O) (S ++ [.frt (Qj G),.lst (h.map .int)])=.ok (.int (h.getD e.1.2.1.toNat 0 + (-e.2))) (S ++ [.frt (Qj G),.lst (h.map .int)]):=
    Q7 (Q7 rfl rfl (ixH (by omega))) (yu rfl (J8 (Q3 rfl (Q3 rfl (Q3 rfl rfl))) (D9 rfl)) (Qi9 nd Z)) (by rw[<- fP];rfl)
   exact Vr c (j4 hm rfl rfl (Qq4 (by omega) (-e.2)))
  ·rw[bP p];rw[show(e.1.1 == (B:Int))=zb by simpa using p]at c;exact Y0 c rfl) h a7 a8 a9 hn
theorem Qw4{r:PV}(nd:(G.map (·.1)).Nodup)(hi:∀ e∈G,(0<=e.1.2.1/\e.1.2.1 < n)/\0<=e.1.2.2/\e.1.2.2 < n)(Y:G.length<=5000)(B:Nat)(I J U O:Option PV)(h:List Int)(a7 a8 a9:Option PV)(hn:h.length=n){k:PV}:∃ b7 b8 b9,Ut (Yu (Qv (Q6 (Q4 7) (Q6 (Q4 8) (Q6 (Q4 9) Qw)))) (V5 (Q2 6)) Wb) (pG q Vm Vs s r k (zo (.ref S.length)) a7 a8 a9 I J (zo (.ref (S.length + 1))) (zo (.int (B:Int))) U O) (S ++ [.dtp (Qj G),.lst (h.map .int)])=.nx (pG q Vm Vs s r k (zo (.ref S.length)) b7 b8 b9 I J (zo (.ref (S.length + 1))) (zo (.int (B:Int))) U O) (S ++ [.dtp (Qj G),.lst ((Q96 B G h).map .int)]):=
 Qp1 (n:=n) (λh e=>if e.1.1=(B:Int)then Yp h e.1.2.2 e.2 else h) (λh e=>by
  by_cases p:e.1.1=(B:Int)
  ·rw[bO p];exact Zr _ _ _
  ·rw[bP p]) I J _ _ U O Y (λe Z h hn=>by
  have c:=Qz (Q7 (o:=oEq) (a:=Q2 7) (b:=Q2 13) (Γ:=pG q Vm Vs s r k (zo (.ref S.length)) (zo (.int e.1.1)) (zo (.int e.1.2.1)) (zo (.int e.1.2.2)) I J (zo (.ref (S.length + 1))) (zo (.int (B:Int))) U O) rfl rfl (Q23 (S ++ [.frt (Qj G),.lst (h.map .int)]) e.1.1 B));have hx:=(hi e Z).2
  by_cases p:e.1.1=(B:Int)
  ·rw[bO p];rw[show(e.1.1 == (B:Int))=zi by simpa using p]at c;have hm:mOp Jj (mOp oIx (Q2 12) (Q2 9)) (U6 (Q2 6) (Je (Q0 (Q2 7) (Q0 (Q2 8) (Q0 (Q2 9) Q5))))) (pG q Vm Vs s r k (zo (.ref S.length)) (zo (.int e.1.1)) (zo (.int e.1.2.1)) (zo (.int e.1.2.2)) I J (zo (.ref (S.length + 1))) (zo (.int (B:Int))) U O) (S ++ [.frt (Qj G),.lst (h.map .int)])=.ok (.int (h.getD e.1.2.2.toNat 0 + e.2)) (S ++ [.frt (Qj G),.lst (h.map .int)]):=
    Q7 (Q7 rfl rfl (ixH (by omega))) (yu rfl (J8 (Q3 rfl (Q3 rfl (Q3 rfl rfl))) (D9 rfl)) (Qi9 nd Z)) (qx _ _ _)
   exact Vr c (j4 hm rfl rfl (Qq4 (by omega) e.2))
  ·rw[bP p];rw[show(e.1.1 == (B:Int))=zb by simpa using p]at c;exact Y0 c rfl) h a7 a8 a9 hn
theorem jj(B:Nat):∀ (G:L3) (h:List Int),(Q4x B G h).length=h.length
 | [],_=>rfl
 | e :: G,h=>by
  show(Q4x B G (if e.1.1=(B:Int)then Yp h e.1.2.1 (-e.2)else h)).length=_;rw[jj B G]
  split
  ·exact Zr _ _ _
  ·rfl
theorem Q0f(B:Nat):∀ (G:L3) (h:List Int),(Q96 B G h).length=h.length
 | [],_=>rfl
 | e :: G,h=>by
  show(Q96 B G (if e.1.1=(B:Int)then Yp h e.1.2.2 e.2 else h)).length=_;rw[Q0f B G]
  split
  ·exact Zr _ _ _
  ·rfl
theorem Qi3 {n:Nat} {q Vm Vs s r k:PV} {S:Q1} {c:Cell} {w:Wt} (hw:∀ T,wOk w (S ++ T)) (B:Nat) (a6 a7 a8 a9 I J:Option PV):∀ (zs:List (Int × Tr)) (h:List Int) (Y Z:Option PV),(∀ z∈zs,z.2.1.2 < n)->h.length=n ->
  ∃ O U,Jt (Qv (Q6 (Q4 14) (Q6 (Q4 15) Qw))) Zs w (zs.map λz=>PV.tup [.int z.1,trV z.2]) (pG q Vm Vs s r k a6 a7 a8 a9 I J (zo (.ref (S.length + 1))) (zo (.int (B:Int))) Y Z) (S ++ [c,.lst (h.map .int)])=.nx (pG q Vm Vs s r k a6 a7 a8 a9 I J (zo (.ref (S.length + 1))) (zo (.int (B:Int))) O U) (S ++ [c,.lst ((tkH B h zs).map .int)])
 | [],h,Y,Z,_,_=>⟨Y,Z,Wv (hw _)⟩
 | z :: zs,h,Y,Z,hz,hn=>by
  have cc:=Qz (Q7 (o:=oEq) (a:=mOp oIx (Q2 15) (mC (.int 0))) (b:=Q2 13) (Γ:=pG q Vm Vs s r k a6 a7 a8 a9 I J (zo (.ref (S.length + 1))) (zo (.int (B:Int))) (zo (.int z.1)) (zo (trV z.2))) (Q7 rfl rfl rfl) rfl (Qcz (S ++ [c,.lst (h.map .int)]) z.2.1.1 B));have hk:=hz z D3;show ∃ O U,Jt _ _ w (PV.tup [.int z.1,trV z.2] :: _) _ _=.nx _ (S ++ [c,.lst ((tkH B (if z.2.1.1=B then Yp h (z.2.1.2:Nat) (-z.1)else h) zs).map .int)])
  by_cases p:z.2.1.1=B
  ·rw[bO p];rw[bR p]at cc;have hb:(0:Int)<=(z.2.1.2:Nat)/\((z.2.1.2:Nat):Int) < h.length:=by omega
   have hm:mOp (oI λa b=>.int (a - b)) (mOp oIx (Q2 12) (mOp oIx (Q2 15) (mC (.int 1)))) (Q2 14) (pG q Vm Vs s r k a6 a7 a8 a9 I J (zo (.ref (S.length + 1))) (zo (.int (B:Int))) (zo (.int z.1)) (zo (trV z.2))) (S ++ [c,.lst (h.map .int)])=.ok (.int (h.getD ((z.2.1.2:Nat):Int).toNat 0 + -z.1)) (S ++ [c,.lst (h.map .int)]):=
    Q7 (Q7 rfl (Q7 rfl rfl rfl) (ixH hb)) rfl (by rw[<- fP];rfl)
   obtain⟨O,U,e⟩:=Qi3 hw B a6 a7 a8 a9 I J zs (Yp h (z.2.1.2:Nat) (-z.1)) (zo (.int z.1)) (zo (trV z.2)) (λx hx=>hz x (O6 _ hx)) ((Zr _ _ _).trans hn)
   exact⟨O,U,Y7 (hw _) rfl (Vr cc (j4 hm rfl (Q7 rfl rfl rfl) (Qq4 hb (-z.1)))) e⟩
  ·rw[bP p];rw[bQ p]at cc;obtain⟨O,U,e⟩:=Qi3 hw B a6 a7 a8 a9 I J zs h (zo (.int z.1)) (zo (trV z.2)) (λx hx=>hz x (O6 _ hx)) hn
   exact⟨O,U,Y7 (hw _) rfl (Y0 cc rfl) e⟩
def hlG(ks:List Tr)(sv:List Int)(G:L3):List Nat->List Int->Bool
 | [],_=>zi
 | t :: ts,h=>if(Q4x t G (tkG t h (ks.zip sv))).all (λx=>decide (0<=x))=zi then hlG ks sv G ts (Q96 t G (Q4x t G (tkG t h (ks.zip sv))))else zb
theorem Qp4 {n:Nat} (b1:1<=n) {q Vm Vs s r:PV} {ks:List Tr} {sv:List Int} {S:Q1} {G:L3} (nd:(G.map (·.1)).Nodup) (hi:∀ e∈G,(0<=e.1.2.1/\e.1.2.1 < n)/\0<=e.1.2.2/\e.1.2.2 < n) (a4:G.length<=5000) (hk:∀ t∈ks,t.1.2 < n) (b5:sv.length<=1000) (hV:LA S Vs (sv.map .int)) (B I:Option PV) :
  ∀ (ts:List Nat) (h:List Int) (a7 a8 a9 a2 O J:Option PV),h.length=n ->
   (hlG ks sv G ts h=zi->∃ a3 T,Jt (Q4 13) Zt [] (ts.map λt:Nat=>PV.int (t:Int)) (pG q Vm Vs s r (.tup (ks.map trV)) (zo (.ref S.length)) a7 a8 a9 B I (zo (.ref (S.length + 1))) a2 O J) (S ++ [.dtp (Qj G),.lst (h.map .int)])=.nx a3 (S ++ T)) /\
   (hlG ks sv G ts h=zb->∃ T,Jt (Q4 13) Zt [] (ts.map λt:Nat=>PV.int (t:Int)) (pG q Vm Vs s r (.tup (ks.map trV)) (zo (.ref S.length)) a7 a8 a9 B I (zo (.ref (S.length + 1))) a2 O J) (S ++ [.dtp (Qj G),.lst (h.map .int)])=.rt (.bl zb) (S ++ T))
 | [],h,a7,a8,a9,a2,O,J,_=>⟨λ_=>⟨_,_,Wv (Qs _)⟩,λz=>by cases z⟩
 | t :: ts,h,a7,a8,a9,a2,O,J,hn=>by
  obtain⟨w,ew,b3,b4⟩:=Q73 hV;have hw:∀ T,wOk w (S ++ T):=λT x hx=>by rw[O3 (b4 x hx).1];exact b3 x hx
  have es:∀ T,Y8 (S ++ T) Vs=zo (sv.map .int,w):=λT=>by
   rcases hV with rfl | ⟨i,rfl,e⟩
   ·exact ew
   ·rw[Ux e]at ew;rw[Ux (show(S ++ T)[i]?=_ by rw[O3 (O1.mp e).1];exact e),<- ew]
  obtain⟨a1,Z,e1⟩:=Qi3 (n:=n) (q:=q) (Vm:=Vm) (Vs:=Vs) (s:=s) (r:=r) (k:=.tup (ks.map trV)) (c:=.dtp (Qj G)) (w:=w ++ []) (λT=>by rw[G6];exact hw T) t (zo (.ref S.length)) a7 a8 a9 B I (sv.zip ks) h O J (λz hz=>hk _ (cN (show(z.1,z.2)∈sv.zip ks from hz)).2) hn
  rw[<- Qff PV.int trV,Qbm]at e1;have l1:=xf t (ks.zip sv) h;obtain⟨b7,b8,b9,e2⟩:=Qw5 (q:=q) (Vm:=Vm) (Vs:=Vs) (s:=s) (r:=r) (S:=S) nd hi a4 t B I a1 Z (tkG t h (ks.zip sv)) a7 a8 a9 (by omega) (k:=.tup (ks.map trV));have l2:=jj t G (tkG t h (ks.zip sv));rw[hlG];obtain⟨g,hg⟩:∃ g,Q4x t G (tkG t h (ks.zip sv))=g:=⟨_,rfl⟩;rw[hg]at e2 l2 ⊢;obtain⟨x,l,b2⟩:∃ x l,g=x :: l:=by
   cases g with
   | nil=>rw[M7]at l2;omega
   | cons x l=>exact⟨x,l,rfl⟩
  obtain⟨mn,a6,Y⟩:=Qcd x l;rw[<- b2]at a6 Y;have a5:jt (S ++ [.dtp (Qj G),.lst (g.map .int)]) [.ref (S.length + 1)]=.ok (.int mn) (S ++ [.dtp (Qj G),.lst (g.map .int)]):=by
   show Vh (λns=>(Qef ns).map .int) _ [.ref (S.length + 1)]=_
   have hs:Yf (S ++ [.dtp (Qj G),.lst (g.map .int)]) (.ref (S.length + 1))=zo (g.map .int):=Jg (Qn0 _ _ _);unfold Vh;simp only[hs,dR,Q0d,a6];rfl
  have c:=Qz (Q7 (o:=oLt) (a:=Qi jt (Q0 (Q2 12) Q5)) (b:=mC (.int 0)) (Γ:=pG q Vm Vs s r (.tup (ks.map trV)) (zo (.ref S.length)) b7 b8 b9 B I (zo (.ref (S.length + 1))) (zo (.int (t:Int))) a1 Z) (Jz (Q3 rfl rfl) a5) rfl (Q08 _ mn 0));have f1:Yu (Qv (Q6 (Q4 14) (Q6 (Q4 15) Qw))) (zn (Q0 (Q2 2) (Q0 (Q2 5) Q5))) Zs (pG q Vm Vs s r (.tup (ks.map trV)) (zo (.ref S.length)) a7 a8 a9 B I (zo (.ref (S.length + 1))) (zo (.int (t:Int))) O J) (S ++ [.dtp (Qj G),.lst (h.map .int)])=_:=Ju (Q2i rfl rfl (es _) rfl (by rw[O0];omega)) e1
  by_cases p:g.all (λx=>decide (0<=x))=zi
  ·rw[bO p];have hq:¬ mn < 0:=λz=>by
    obtain⟨y,hy,b0⟩:=Y.mp z;have:=of_decide_eq_true (G8.mp p y hy);omega
   rw[bQ hq]at c;obtain⟨d7,d8,d9,e3⟩:=Qw4 (q:=q) (Vm:=Vm) (Vs:=Vs) (s:=s) (r:=r) (S:=S) nd hi a4 t B I a1 Z g b7 b8 b9 (by omega) (k:=.tup (ks.map trV));have l3:=Q0f t G g;obtain⟨i1,i2⟩:=Qp4 b1 nd hi a4 hk b5 hV B I ts (Q96 t G g) d7 d8 d9 (zo (.int (t:Int))) a1 Z (by omega);have U:=Q8 f1 (Q8 e2 (Q8 (Y0 (a:=J9 (mC (.bl zb))) (b:=Jf) c rfl) e3));refine⟨λz=>?_,λz=>?_⟩
   ·obtain⟨a3,T,e⟩:=i1 z;exact⟨a3,T,Y7 (Qs _) rfl U e⟩
   ·obtain⟨T,e⟩:=i2 z;exact⟨T,Y7 (Qs _) rfl U e⟩
  ·rw[bP p];have hq:mn < 0:=Y.mpr (by
    have p:g.all (λx=>decide (0<=x))=zb:=by simpa using p
    obtain⟨y,hy,b0⟩:=iA.mp p;exact⟨y,hy,by simp at b0;omega⟩)
   rw[bR hq]at c;exact⟨λz=>(by cases z),λ_=>⟨_,Q2b (Qs _) rfl (Q8 f1 (Q8 e2 (Wz (Vr c (Ja rfl)))))⟩⟩
theorem Qsg(S:Q1)(bs:List Bool):oIn zb S (.bl zb) (.lst (bs.map .bl))=.ok (.bl (!(bs.all id))) S:=by
 show(if J0 dep (der S (.bl zb))=zi/\(bs.map PV.bl).all (J0 dep)=zi then Res.ok (PV.bl (((bs.map PV.bl).any λy=>peq y (der S (.bl zb))) != zb)) S else .stuck)=_
 rw[bO ⟨rfl,by rw[cA];exact G8.mpr λb _=>by cases b <;> rfl⟩,cT,dz];congr 2
 induction bs with
 | nil=>rfl
 | cons b bs B=>
  rw[cj,bp,B];cases b <;> rfl
theorem Qpc(sv:List Int)(ks:List Tr):((sv.zip ks).all λz=>decide (0<=z.1) && decide (z.1<=z.2.2))=(ks.zip sv).all λz=>decide (0<=z.2) && decide (z.2<=z.1.2):=by
 induction sv generalizing ks with
 | nil=>rw[eT];rfl
 | cons a sv B=>
  cases ks with
  | nil=>rfl
  | cons k ks=>
   rw[dB,dB,bp,bp,B]
def Q3y(xs:List Int)(rs:List (List Tr))(ks:List Tr)(ms:List Mv4)(sv:List Int):Bool:=Qdg ks sv && (ms.all (okM rs) && ((ldm ms).all (rmB rs) && hlG ks sv (ldm ms) (bT (rs.length + 1)) xs))
theorem Qn1(Q:Qok xs rs ks)(hM:∀ m∈ms,InN xs.length m)(hl:ms.length<=5000)(a4:sv.length<=1000)(a2:LA S Vm (ms.map mvV))(Z:LA S Vs (sv.map .int)):Jc [qV xs rs ks,Vm,Vs] S=.ok (.bl (Q3y xs rs ks ms sv)) S:=by
 have r4:=Q.r4;obtain⟨w,ew,a6,b1⟩:=Q73 Z;obtain⟨wm,em,a3,a5⟩:=Q73 a2;have a7:∀ T,wOk wm (S ++ T):=λT x hx=>by rw[O3 (a5 x hx).1];exact a3 x hx
 have a8:∀ T,Y8 (S ++ T) Vm=zo (ms.map mvV,wm):=λT=>by
  rcases a2 with rfl | ⟨i,rfl,e⟩
  ·exact em
  ·rw[Ux e]at em;rw[Ux (show(S ++ T)[i]?=_ by rw[O3 (O1.mp e).1];exact e),<- em]
 have a1:Q8v (Qv (Q6 (Q4 3) (Q6 (Q4 4) (Q6 (Q4 5) Qw)))) (Q2 0) [zo (qV xs rs ks),zo Vm,zo Vs,zl,zl,zl,zl,zl,zl,zl,zl,zl,zl,zl,zl,zl] S=.nx (pG (qV xs rs ks) Vm Vs (.tup (xs.map .int)) (.tup (rs.map tsV)) (.tup (ks.map trV)) zl zl zl zl zl zl zl zl zl zl) S:=Qbb rfl rfl;have O:toB (mOp oNe (Qi Z0 (Q0 (Q2 2) Q5)) (Qi Z0 (Q0 (Q2 5) Q5))) (pG (qV xs rs ks) Vm Vs (.tup (xs.map .int)) (.tup (rs.map tsV)) (.tup (ks.map trV)) zl zl zl zl zl zl zl zl zl zl) S=.ok (!decide (sv.length=ks.length)) S:=
  Qz (Q7 (Jz (Q3 rfl rfl) (by rw[Qhy Z,O0])) (Jz (Q3 rfl rfl) (by rw[Wa,O0])) (Qhk S _ _))
 have cc:=Jn (ga:=Qv (Q6 (Q4 0) (Q6 (Q4 1) Qw))) (me:=Zn) (w:=w ++ []) (Γ0:=[zl,zl]) (st:=S) (g:=λz:Int × Tr=>PV.tup [.int z.1,trV z.2]) (f:=λz=>PV.bl (decide (0<=z.1) && decide (z.1<=z.2.2))) (by rw[G6];exact a6) (ys:=sv.zip ks) λz _=>⟨_,rfl,Q49 rfl rfl rfl (Q7 rfl rfl rfl) rfl⟩
 rw[<- Qff PV.int trV,Q6y]at cc;have Y:toB (mOp (oIn zb) (mC (.bl zb)) (Wu (Qy [zl,zl] (Qv (Q6 (Q4 0) (Q6 (Q4 1) Qw))) (zn (Q0 (Q2 2) (Q0 (Q2 5) Q5))) Js Zn))) (pG (qV xs rs ks) Vm Vs (.tup (xs.map .int)) (.tup (rs.map tsV)) (.tup (ks.map trV)) zl zl zl zl zl zl zl zl zl zl) S=.ok (!((ks.zip sv).all λz=>decide (0<=z.2) && decide (z.2<=z.1.2))) S:=by
  refine Qz (Q7 rfl (Um (Zq (Q2i rfl rfl ew rfl (by rw[O0];omega)) cc)) ((Qsg S _).trans ?_));rw[Qbd,Qpc]
 unfold Q3y Qdg;have done:∀ {v:PV} {T:Q1},Yj [zo (qV xs rs ks),zo Vm,zo Vs,zl,zl,zl,zl,zl,zl,zl,zl,zl,zl,zl,zl,zl] S=.rt v (S ++ T)->J0 12 v=zi->Jc [qV xs rs ks,Vm,Vs] S=.ok v S:=λh g=>(J7 h).trans (Q78 g)
 have J:∀ {v:PV},Yj [zo (qV xs rs ks),zo Vm,zo Vs,zl,zl,zl,zl,zl,zl,zl,zl,zl,zl,zl,zl,zl] S=.rt v S->J0 12 v=zi->Jc [qV xs rs ks,Vm,Vs] S=.ok v S:=λh g=>(J7 h).trans (Wr g)
 cases h1:decide (sv.length=ks.length)with
 | false=>
  rw[h1]at O;exact J (Q8 a1 (Wz (Vr O (Ja rfl)))) rfl
 | true=>
  rw[h1]at O;cases h2:(ks.zip sv).all λz=>decide (0<=z.2) && decide (z.2<=z.1.2)with
  | false=>
   rw[h2]at Y;exact J (Q8 a1 (Q8 (Y0 O rfl) (Wz (Vr Y (Ja rfl))))) rfl
  | true=>
   rw[h2]at Y;obtain⟨i1,i2⟩:=Qp5 (rs:=rs) (q:=qV xs rs ks) (Vm:=Vm) (Vs:=Vs) (s:=.tup (xs.map .int)) (k:=.tup (ks.map trV)) (S:=S) a7 zl zl zl zl zl ms [] zl zl zl zl (by rw[M7];omega);have fs:Yz (Q2 1) (pG (qV xs rs ks) Vm Vs (.tup (xs.map .int)) (.tup (rs.map tsV)) (.tup (ks.map trV)) (zo (.ref S.length)) zl zl zl zl zl zl zl zl zl) (S ++ [.dtp (Qj (ldm []))])=.ok (ms.map mvV,wm) (S ++ [.dtp (Qj (ldm []))]):=Ug rfl (a8 _) (by rw[O0];omega);have s4:Qm 6 Q3q (pG (qV xs rs ks) Vm Vs (.tup (xs.map .int)) (.tup (rs.map tsV)) (.tup (ks.map trV)) zl zl zl zl zl zl zl zl zl zl) S=.nx (pG (qV xs rs ks) Vm Vs (.tup (xs.map .int)) (.tup (rs.map tsV)) (.tup (ks.map trV)) (zo (.ref S.length)) zl zl zl zl zl zl zl zl zl) (S ++ [.dtp (Qj (ldm []))]):=Qk rfl;cases h3:ms.all (okM rs)with
   | false=>
    obtain⟨T,e⟩:=i2 h3;exact done (Q8 a1 (Q8 (Y0 O rfl) (Q8 (Y0 Y rfl) (Q8 s4 (Wz (Ju fs e)))))) rfl
   | true=>
    obtain⟨b7,b8,b9,B,e1⟩:=i1 h3;rw[dE]at e1;have ml:=Q26 ms;have nd:=Qs5 ms;have U:∀ e∈ldm ms,∃ m∈ms,e.1=mK m:=Q71 ms;obtain⟨j1,j2⟩:=Qw6 (rs:=rs) (q:=qV xs rs ks) (Vm:=Vm) (Vs:=Vs) (s:=.tup (xs.map .int)) (k:=.tup (ks.map trV)) (S:=S) (G:=ldm ms) (G':=ldm ms) nd (λe he=>he) (λe he=>by
     obtain⟨m,hm,q⟩:=U e he;have:=G8.mp h3 m hm;unfold okM at this;rw[q];exact of_decide_eq_true (eF.mp this).1) (Qfm Q) b7 b8 b9 B zl zl zl zl zl
    have f2:=Qp3 (G:=ldm ms) (S:=S) (T:=[]) (by omega) (Γ:=pG (qV xs rs ks) Vm Vs (.tup (xs.map .int)) (.tup (rs.map tsV)) (.tup (ks.map trV)) (zo (.ref S.length)) b7 b8 b9 B zl zl zl zl zl) (m:=Q2 6) rfl;cases h4:(ldm ms).all (rmB rs)with
    | false=>exact done (Q8 a1 (Q8 (Y0 O rfl) (Q8 (Y0 Y rfl) (Q8 s4 (Q8 (Ju fs e1) (Wz (Qjx (Ju f2 (j2 h4))))))))) rfl
    | true=>
     obtain⟨d7,d8,d9,I,e2⟩:=j1 h4;have t2:=Qbn (Ju f2 e2);rw[Qnq (G:=ldm ms) (S:=S) (T:=[]) (T':=[]) λi b0 z=>by cases z]at t2
     obtain⟨l1,l2⟩:=Qp4 Q.x1 (q:=qV xs rs ks) (Vm:=Vm) (Vs:=Vs) (s:=.tup (xs.map .int)) (r:=.tup (rs.map tsV)) (ks:=ks) (sv:=sv) (S:=S) (G:=ldm ms) (n:=xs.length) nd (λe he=>by
      obtain⟨m,hm,q⟩:=U e he;rw[q];exact hM m hm) (by omega) (λt ht=>(Q.kb t ht).2.1) a4 Z B I (bT (rs.length + 1)) xs d7 d8 d9 zl zl zl rfl
     have s7:Qm 12 (Y4 (W3 (Q2 3))) (pG (qV xs rs ks) Vm Vs (.tup (xs.map .int)) (.tup (rs.map tsV)) (.tup (ks.map trV)) (zo (.ref S.length)) d7 d8 d9 B I zl zl zl zl) (S ++ [.dtp (Qj (ldm ms))])=.nx (pG (qV xs rs ks) Vm Vs (.tup (xs.map .int)) (.tup (rs.map tsV)) (.tup (ks.map trV)) (zo (.ref S.length)) d7 d8 d9 B I (zo (.ref (S.length + 1))) zl zl zl) (S ++ [.dtp (Qj (ldm ms)),.lst (xs.map .int)]):=by
      have:=Qk (i:=12) (W1 (jf (m:=Q2 3) (Γ:=pG (qV xs rs ks) Vm Vs (.tup (xs.map .int)) (.tup (rs.map tsV)) (.tup (ks.map trV)) (zo (.ref S.length)) d7 d8 d9 B I zl zl zl zl) (S:=S ++ [.dtp (Qj (ldm ms))]) (xs:=xs.map .int) rfl rfl));rw[O5,M0]at this;exact this
     have hr:Z2 (Q0 (mOp Jj (Qi Z0 (Q0 (Q2 4) Q5)) (mC (.int 1))) Q5) (pG (qV xs rs ks) Vm Vs (.tup (xs.map .int)) (.tup (rs.map tsV)) (.tup (ks.map trV)) (zo (.ref S.length)) d7 d8 d9 B I (zo (.ref (S.length + 1))) zl zl zl) (S ++ [.dtp (Qj (ldm ms)),.lst (xs.map .int)])=.ok ((bT (rs.length + 1)).map λt:Nat=>PV.int (t:Int),[]) (S ++ [.dtp (Qj (ldm ms)),.lst (xs.map .int)]):=by
      rw[<- Vc];exact Q56 (n:=rs.length + 1) (by omega) (Q7 (Jz (Q3 rfl rfl) (by rw[Wa,O0])) rfl (qx _ _ _))
     cases h5:hlG ks sv (ldm ms) (bT (rs.length + 1)) xs with
     | false=>
      obtain⟨T,e⟩:=l2 h5;exact done (Q8 a1 (Q8 (Y0 O rfl) (Q8 (Y0 Y rfl) (Q8 s4 (Q8 (Ju fs e1) (Q8 t2 (Q8 s7 (Wz (Ju hr e))))))))) rfl
     | true=>
      obtain⟨a9,T,e⟩:=l1 h5;exact done (Q8 a1 (Q8 (Y0 O rfl) (Q8 (Y0 Y rfl) (Q8 s4 (Q8 (Ju fs e1) (Q8 t2 (Q8 s7 (Q8 (Ju hr e) (Ja rfl))))))))) rfl
theorem Q42{α:Type}(p:α->Bool)(f:α->Int):∀ l:List α,((l.filter p).map f).sum=(l.map λx=>if p x=zi then f x else 0).sum
 | []=>rfl
 | x :: l=>by
  rw[dO,D8,cH,<- Q42 p f l]
  split
  ·rw[D8,cH]
  ·omega
def gS(c:K3->Int)(G:L3):Int:=(G.map λe=>c e.1 * e.2).sum
theorem Qia(c:K3->Int)(z:K3)(v:Int):∀ {G:L3},(G.map (·.1)).Nodup->z∈G.map (·.1)->gS c (G.map λe=>if e.1=z then(e.1,v)else e)=gS c G + c z * (v - look G z)
 | e :: G,nd,hz=>by
  rw[D8]at nd hz;obtain⟨h1,h2⟩:=L8.mp nd;unfold gS;rw[D8,D8,D8,cH,cH,look]
  by_cases q:e.1=z
  ·rw[bO q,bO q];have:G.map (λe=>if e.1=z then(e.1,v)else e)=G:=by
    have w:G.map (λe=>if e.1=z then(e.1,v)else e)=G.map id:=L5 λx J=>bP λy=>h1 (by rw[q,<- y];exact E8.mpr ⟨x,J,rfl⟩)
    rw[w,iF]
   rw[this];show c e.1 * v + _=c e.1 * e.2 + _ + c z * (v - e.2);rw[q,Int.mul_sub];omega
  ·rw[bP q,bP q];have B:z∈G.map (·.1):=by
    rcases E2.mp hz with h | h
    ·exact absurd h.symm q
    ·exact h
   have I:=Qia c z v h2 B;unfold gS at I;rw[I];omega
theorem Qcv(c:K3->Int)(e:K3 × Int)(G:L3):gS c (e :: G)=c e.1 * e.2 + gS c G:=by unfold gS;rw[D8,cH]
theorem Qsk(c:K3->Int)(z:K3)(d:Int)(nd:(G.map (·.1)).Nodup):gS c (Uh G z d)=gS c G + c z * d:=by
 unfold Uh
 split
 ·rename_i h;rw[Qia c z _ nd h,show look G z + d - look G z=d by omega]
 ·unfold gS;rw[E7,gO];simp
theorem Qib(c:K3->Int)(ms:List Mv4):gS c (ldm ms)=(ms.map λm=>c (mK m) * m.k).sum:=by
 have:∀ (ms:List Mv4) (G:L3),(G.map (·.1)).Nodup->gS c (ms.foldl (λG m=>Uh G (mK m) m.k) G)=gS c G + (ms.map λm=>c (mK m) * m.k).sum:=by
  intro ms
  induction ms with
  | nil=>intro G _;simp
  | cons m ms B=>
   intro G nd;rw[cS,B _ (Qc3 nd _ _),Qsk c _ _ nd,D8,cH];omega
 have:=this ms [] cm;rw[show gS c []=0 from rfl,dS]at this;exact this
theorem Q40{n:Nat}(B:Nat):∀ {G:L3},(∀ e∈G,(0<=e.1.2.1/\e.1.2.1 < n)/\0<=e.1.2.2/\e.1.2.2 < n)->∀ {h:List Int},h.length=n->∀ k:Nat,(Q4x B G h).getD k 0=h.getD k 0 - gS (λz=>if z.1=(B:Int)/\(k:Int)=z.2.1 then 1 else 0) G
 | [],_,h,_,k=>by show h.getD k 0=_ - 0;omega
 | e :: G,hi,h,hn,k=>by
  have J:=hi e D3;rw[Qcv];show(Q4x B G (if e.1.1=(B:Int)then Yp h e.1.2.1 (-e.2)else h)).getD k 0=_
  by_cases q:e.1.1=(B:Int)
  ·rw[bO q,Q40 B (λx I=>hi x (O6 _ I)) ((Zr _ _ _).trans hn),Q0m J.1.1 (by omega)]
   by_cases p:(k:Int)=e.1.2.1
   ·simp[q,p];omega
   ·simp[q,p]
  ·rw[bP q,Q40 B (λx I=>hi x (O6 _ I)) hn]
   simp[q]
theorem Q41{n:Nat}(B:Nat):∀ {G:L3},(∀ e∈G,(0<=e.1.2.1/\e.1.2.1 < n)/\0<=e.1.2.2/\e.1.2.2 < n)->∀ {h:List Int},h.length=n->∀ k:Nat,(Q96 B G h).getD k 0=h.getD k 0 + gS (λz=>if z.1=(B:Int)/\(k:Int)=z.2.2 then 1 else 0) G
 | [],_,h,_,k=>by show h.getD k 0=_ + 0;omega
 | e :: G,hi,h,hn,k=>by
  have J:=hi e D3;rw[Qcv];show(Q96 B G (if e.1.1=(B:Int)then Yp h e.1.2.2 e.2 else h)).getD k 0=_
  by_cases q:e.1.1=(B:Int)
  ·rw[bO q,Q41 B (λx I=>hi x (O6 _ I)) ((Zr _ _ _).trans hn),Q0m J.2.1 (by omega)]
   by_cases p:(k:Int)=e.1.2.2
   ·simp[q,p];omega
   ·simp[q,p]
  ·rw[bP q,Q41 B (λx I=>hi x (O6 _ I)) hn]
   simp[q]
theorem Q5j{a b:List Int}(B:a.length=b.length)(h:∀ k:Nat,a.getD k 0=b.getD k 0):a=b:=by
 refine eG B λk h1 h2=>?_
 have:=h k;rw[O7,O7,O2 h1,O2 h2]at this;exact this
theorem Qhv(B:∀ m∈ms,InN n m):∀ e∈ldm ms,(0<=e.1.2.1/\e.1.2.1 < n)/\0<=e.1.2.2/\e.1.2.2 < n:=λe J=>by
 obtain⟨m,I,q⟩:=Q71 ms e J;rw[q];exact B m I
theorem Qfr(I:∀ m∈ms,InN n m)(B:Nat)(J:h.length=n):Uw h (ms.filter λm=>decide (m.t=(B:Int)))=Q4x B (ldm ms) h:=by
 refine Q5j (by rw[xh,jj]) λk=>?_
 rw[Qfs (λm O=>I m (cM.mp O).1) J,Q40 B (Qhv I) J,Qib]
 congr 1;unfold Qi8;rw[Q42];congr 1;refine L5 λm _=>?_
 show _=(if m.t=(B:Int)/\(k:Int)=m.i then 1 else 0) * m.k
 by_cases p:m.t=(B:Int) <;> by_cases q:(k:Int)=m.i <;> simp[p,q]
theorem Qjm(I:∀ m∈ms,InN n m)(B:Nat)(J:h.length=n):zz h (ms.filter λm=>decide (m.t=(B:Int)))=Q96 B (ldm ms) h:=by
 refine Q5j (by rw[Q67,Q0f]) λk=>?_
 rw[Qfb (λm O=>I m (cM.mp O).1) J,Q41 B (Qhv I) J,Qib]
 congr 1;unfold Qrv;rw[Q42];congr 1;refine L5 λm _=>?_
 show _=(if m.t=(B:Int)/\(k:Int)=m.j then 1 else 0) * m.k
 by_cases p:m.t=(B:Int) <;> by_cases q:(k:Int)=m.j <;> simp[p,q]
theorem Q5q{n:Nat}{ms:List Mv4}(B:∀ m∈ms,InN n m)(ks:List Tr)(sv:List Int):∀ (ts:List Nat) (h:List Int),h.length=n->hvG ks sv ms ts h=hlG ks sv (ldm ms) ts h
 | [],_,_=>rfl
 | t :: ts,h,I=>by
  have l1:=xf t (ks.zip sv) h;rw[hvG,hlG];unfold Xt;rw[Qfr B t (by omega)]
  by_cases p:(Q4x t (ldm ms) (tkG t h (ks.zip sv))).all (λx=>decide (0<=x))=zi
  ·rw[bO p,bO p];show hvG ks sv ms ts _=_;rw[Qjm B t (by rw[jj];omega)];exact Q5q B ks sv ts _ (by rw[Q0f,jj];omega)
  ·rw[bP p,bP p]
theorem Qgm{d:Int}(h:e∈Uh G z d):e∈G\/e.2=look G z + d:=by
 unfold Uh at h
 split at h
 ·obtain⟨x,B,rfl⟩:=E8.mp h
  split
  ·exact .inr rfl
  ·exact .inl B
 ·rename_i q;rcases D4.mp h with h | h
  ·exact .inl h
  ·have:e=(z,d):=by simpa using h
   subst this;exact .inr (by rw[za q,dS])
theorem Qci:∀ {G:L3},(∀ e∈G,1<=e.2)->∀ z,0<=look G z
 | [],_,_=>cG _
 | e :: G,h,z=>by
  rw[look]
  split
  ·have:=h e D3;omega
  ·exact Qci (λx B=>h x (O6 _ B)) z
theorem Qmu(ms:List Mv4)(B:∀ m∈ms,1<=m.k):∀ e∈ldm ms,1<=e.2:=by
 have:∀ (ms:List Mv4) (G:L3),(∀ m∈ms,1<=m.k)->(∀ e∈G,1<=e.2)->∀ e∈ms.foldl (λG m=>Uh G (mK m) m.k) G,1<=e.2:=by
  intro ms
  induction ms with
  | nil=>exact λG _ h=>h
  | cons m ms O=>
   intro G B h;refine O (Uh G (mK m) m.k) (λx J=>B x (O6 _ J)) λe I=>?_
   rcases Qgm I with q | q
   ·exact h e q
   ·have:=Qci h (mK m);have:=B m D3;omega
 exact this ms [] B λe I=>by cases I
theorem Q59{d:Int}{y:K3}(h:y∈G.map (·.1)\/y=z):y∈(Uh G z d).map (·.1):=by
 unfold Uh
 split
 ·rename_i q;rw[F3,show((λx:K3 × Int=>x.1) ∘ λe=>if e.1=z then(e.1,look G z + d)else e)=λx:K3 × Int=>x.1 from funext λx=>by show(if x.1=z then(x.1,look G z + d)else x).1=_;split <;> rfl]
  rcases h with h | rfl
  ·exact h
  ·exact q
 ·rw[E7];rcases h with h | rfl
  ·exact D4.mpr (.inl h)
  ·exact D4.mpr (.inr (by simp))
theorem Qmv(ms:List Mv4):∀ m∈ms,mK m∈(ldm ms).map (·.1):=by
 have:∀ (ms:List Mv4) (G:L3) (y:K3),(y∈G.map (·.1)\/∃ m∈ms,y=mK m)->y∈(ms.foldl (λG m=>Uh G (mK m) m.k) G).map (·.1):=by
  intro ms
  induction ms with
  | nil=>
   intro G y h;rcases h with h | ⟨_,h,_⟩
   ·exact h
   ·cases h
  | cons m ms J=>
   intro G y h;refine J (Uh G (mK m) m.k) y ?_;rcases h with h | ⟨x,B,rfl⟩
   ·exact .inl (Q59 (.inl h))
   ·rcases E2.mp B with rfl | B
    ·exact .inl (Q59 (.inr rfl))
    ·exact .inr ⟨x,B,rfl⟩
 exact λm I=>this ms [] _ (.inr ⟨m,I,rfl⟩)
theorem Qke(Q:Qok xs rs ks)(t i j:Int):(Q0w rs t i j).length<=1:=by
 unfold Q0w;rw[O0];have O:(rs.getD t.toNat []).Pairwise λa b=>LxP a.1 b.1:=by
  rw[O7]
  by_cases h:t.toNat < rs.length
  ·rw[O2 h];exact List.pairwise_map.mp (Q.rb _ (F9 h)).inc
  ·rw[L7 (by omega)];exact dm
 have I:=O.filter (isR i j);have B:∀ z∈(rs.getD t.toNat []).filter (isR i j),(z.1.1:Int)=i/\(z.1.2:Int)=j:=λz hz=>by
  have:=(cM.mp hz).2;unfold isR at this;simpa using this
 cases hz:(rs.getD t.toNat []).filter (isR i j)with
 | nil=>exact bb _
 | cons a l=>
  cases l with
  | nil=>exact O9 _
  | cons b l=>
   rw[hz]at I B;have h1:=B a (by simp);have h2:=B b (by simp);have J:=(cF.mp I).1 b (by simp);unfold LxP at J;omega
theorem Qf8(Q:Qok xs rs ks):Q65 rs ms=(ms.all (okM rs) && (ldm ms).all (rmB rs)):=by
 unfold Q65
 by_cases h:∀ m∈ms,1<=m.k
 ·have h1:(ms.any λm=>decide (m.k < 1))=zb:=dg.mpr λm B=>by have:=h m B;simp;omega
  rw[h1,Bool.not_false,cu];have pos:=Qmu ms h
  by_cases g:∀ m∈ms,0<=m.t/\m.t < rs.length
  ·have h2:ms.all (okM rs)=zi:=G8.mpr λm B=>by
    unfold okM;have:=h m B;rw[bR (g m B),bQ (by omega)];rfl
   rw[h2,cu];rw[eH,G8,G8];have key:∀ e∈ldm ms,(decide (e.2<=Q3m rs e.1.1 e.1.2.1 e.1.2.2)=zi <-> rmB rs e=zi):=λe I=>by
    obtain⟨m,B,q⟩:=Q71 ms e I;have O:0<=e.1.1/\e.1.1 < rs.length:=by rw[q];exact g m B
    have p:=pos e I;have one:=Qke Q e.1.1 e.1.2.1 e.1.2.2;unfold Q3m rmB;rw[bO O];cases hz:Q0w rs e.1.1 e.1.2.1 e.1.2.2 with
    | nil=>exact⟨λz=>by have:e.2<=0:=of_decide_eq_true z;omega,λz=>by cases z⟩
    | cons r l=>
     cases l with
     | nil=>simp
     | cons _ _=>rw[hz]at one;simp at one
   exact⟨λz e I=>(key e I).mp (z e I),λz e I=>(key e I).mpr (z e I)⟩
  ·have h2:ms.all (okM rs)=zb:=by
    rw[fQ];intro z;exact g λm B=>of_decide_eq_true (eF.mp (G8.mp z m B)).1
   rw[h2,fo,fQ];intro z;refine g λm B=>?_
   obtain⟨e,I,q⟩:=E8.mp (Qmv ms m B);have J:=of_decide_eq_true (G8.mp z e I);have p:=pos e I;unfold Q3m at J
   by_cases r:0<=e.1.1/\e.1.1 < rs.length
   ·rw[q]at r;exact r
   ·rw[bP r]at J;omega
 ·have h1:(ms.any λm=>decide (m.k < 1))=zi:=by
   refine Bool.not_eq_false _ |>.mp λz=>h λm B=>?_
   have:=dg.mp z m B;simp at this;omega
  have h2:ms.all (okM rs)=zb:=by
   rw[fQ];intro z;refine h λm B=>?_
   have:=(eF.mp (G8.mp z m B)).2;simp at this;omega
  rw[h1,h2];rfl
theorem Qe2(Q:Qok xs rs ks)(B:∀ m∈ms,InN xs.length m)(sv:List Int):Qc5 xs rs ks ms sv=Q3y xs rs ks ms sv:=by
 unfold Qc5 Q3y;rw[Qf8 Q,Q5q B ks sv _ xs rfl,Bool.and_assoc]
theorem Qis(T:Tp S L)(v:Int)(h1:0<=v)(h2:v<=1000000):∃ (d:Int) (B:Q1),(0<=d/\d<=v)/\Tp B L/\Mv L S B/\Q9 [.ref L,.int (v + 1)] S=.ok (.int d) B:=by
 obtain⟨d,B,h,T',M,e⟩:=Zf T (v.toNat + 1) (by omega) (by omega);refine⟨d,B,by omega,T',M,?_⟩;rw[show v + 1=((v.toNat + 1:Nat):Int) by omega];exact e
structure DI(S0:Q1)(L n kl:Nat)(A:Q1)(Hc M V:Nat)(h:List Int)(ms:List Mv4)(sv:List Int):Prop where
 T:Tp A L
 hH:A[Hc]?=zo (.lst (h.map .int))
 hn:h.length=n
 h0:∀ k:Nat,0<=h.getD k 0
 mM:A[M]?=zo (.lst (ms.map mvV))
 mi:∀ m∈ms,InN n m
 vV:A[V]?=zo (.lst (sv.map .int))
 vl:sv.length=kl
 g:Gw (λt=>t=L) S0 A
 dL:L < S0.length
 dH:S0.length<=Hc
 dM:S0.length<=M
 dV:S0.length<=V
 e1:Hc≠M
 e2:Hc≠V
 e3:M≠V
theorem yq(B:S[C]?=zo (.lst (h.map .int))){i:Nat}(hi:i < h.length):oIx S (.ref C) (.int (i:Int))=.ok (.int (h.getD i 0)) S:=by
 rw[Q3g,B];show okO _ (atI (h.map PV.int) (i:Int))=_;rw[Wq PV.int 0 h hi];rfl
theorem xn(B:S[C]?=zo (.lst (h.map .int))){i:Nat}(hi:i < h.length)(v:Int):Wh S (.ref C) (.int (i:Int)) (.int v)=zo (S.set C (.lst ((h.set i v).map .int))):=by
 rw[Kt,B];show(ixN (h.map PV.int).length (i:Int)).map _=_;rw[show ixN (h.map PV.int).length (i:Int)=zo i by rw[O0];exact Q27 hi,dW];rfl
theorem Qvy(h:k < ks.length)(S:Q1):oIx S (.tup (ks.map trV)) (.int (k:Int))=.ok (trV (ks.getD k ((0,0),0))) S:=by
 show okO S (atI (ks.map trV) (k:Int))=_;rw[Wq trV ((0,0),0) ks h];rfl
theorem Q1a(h:List Int)(i:Nat)(v:Int)(B:0<=v)(h0:∀ k:Nat,0<=h.getD k 0)(k:Nat):0<=(h.set i v).getD k 0:=by
 rw[O7,dy]
 split
 ·split
  ·exact B
  ·exact cG _
 ·rw[<- O7];exact h0 k
abbrev dG(L:Nat)(q s r k:PV)(a5 a6 a7 a8 a9 a10 a11 a12 a13 a14:Option PV):Gam:=[zo (.ref L),zo q,zo s,zo r,zo k,a5,a6,a7,a8,a9,a10,a11,a12,a13,a14]
theorem dr2(hk:∀ t∈ks,t.1.2 < n/\0<=t.2/\t.2<=1000000){V:Nat}{r:PV}(B:Nat)(a9 J O Z U Y:Option PV)(I:DI S0 L n ks.length A Hc M V h ms sv)(b6:ks.length<=1000):∃ A' h' a1 b9,Yu (Q4 9) (Z2 (Q0 (Qi Z0 (Q0 (Q2 4) Q5)) Q5)) Zu (dG L q s r (.tup (ks.map trV)) (zo (.ref Hc)) (zo (.ref M)) (zo (.ref V)) (zo (.int (B:Int))) a9 J O Z U Y) A=.nx (dG L q s r (.tup (ks.map trV)) (zo (.ref Hc)) (zo (.ref M)) (zo (.ref V)) (zo (.int (B:Int))) b9 J O Z U Y) A'/\DI S0 L n ks.length A' Hc M V h' ms a1/\A'.length=A.length:=by
 obtain⟨b5,A',e,h',a1,b9,rfl,I',hl⟩:=W6 (g:=λk:Nat=>PV.int (k:Int)) (xs:=bT ks.length) (ga:=Q4 9) (body:=Zu) (w:=[]) (Γ:=dG L q s r (.tup (ks.map trV)) (zo (.ref Hc)) (zo (.ref M)) (zo (.ref V)) (zo (.int (B:Int))) a9 J O Z U Y) (st:=A)
  (λ_ Γ st=>∃ h' a1 b9,Γ=dG L q s r (.tup (ks.map trV)) (zo (.ref Hc)) (zo (.ref M)) (zo (.ref V)) (zo (.int (B:Int))) b9 J O Z U Y/\DI S0 L n ks.length st Hc M V h' ms a1/\st.length=A.length)
  (λ_ _ _ _=>Qs _)
  (λi k Γ st hx ⟨h,sv,b9,b1,I,hl⟩=>by
   subst b1;have a3:k < ks.length:=bq.mp (F0 hx);have b0:ks.getD k ((0,0),0)∈ks:=by rw[O7,O2 a3];exact F9 a3
   obtain⟨t,ht⟩:∃ t,ks.getD k ((0,0),0)=t:=⟨_,rfl⟩;rw[ht]at b0;have ix:∀ st:Q1,oIx st (.tup (ks.map trV)) (.int (k:Int))=.ok (trV t) st:=λst=>by rw[Qvy a3,ht]
   obtain⟨k1,k2,k3⟩:=hk t b0;have c:=Qz (Q7 (o:=oEq) (a:=mOp oIx (mOp oIx (Q2 4) (Q2 9)) (mC (.int 0))) (b:=Q2 8) (Γ:=dG L q s r (.tup (ks.map trV)) (zo (.ref Hc)) (zo (.ref M)) (zo (.ref V)) (zo (.int (B:Int))) (zo (.int (k:Int))) J O Z U Y) (Q7 (Q7 rfl rfl (ix st)) rfl rfl) rfl (Qcz st t.1.1 B))
   by_cases p:t.1.1=B
   ·rw[bR p]at c;have hh:t.1.2 < h.length:=by have:=I.hn;omega
    have h0:=I.h0 t.1.2;obtain⟨v,hv⟩:∃ v,(if h.getD t.1.2 0 < t.2 then h.getD t.1.2 0 else t.2)=v:=⟨_,rfl⟩;have a5:0<=v/\v<=1000000/\v<=h.getD t.1.2 0:=by
     rw[<- hv]
     split <;> omega
    obtain⟨d,A1,hd,T1,M1,e1⟩:=Qis I.T v a5.1 a5.2.1;have nL:∀ c,S0.length<=c->c≠L:=λc hc z=>by have:=I.dL;omega
    have a7:A1[V]?=zo (.lst (sv.map .int)):=by rw[M1.keep V (nL V I.dV)];exact I.vV
    have a8:A1[Hc]?=zo (.lst (h.map .int)):=by rw[M1.keep Hc (nL Hc I.dH)];exact I.hH
    have a2:k < sv.length:=by have:=I.vl;omega
    have b3:=(O1.mp a7).1;have b2:=(O1.mp a8).1;have a4:(A1.set V (.lst ((sv.set k d).map .int)))[Hc]?=zo (.lst (h.map .int)):=by rw[O8 (λz=>I.e2 z.symm)];exact a8
    have a6:(A1.set V (.lst ((sv.set k d).map .int)))[V]?=zo (.lst ((sv.set k d).map .int)):=D5 b3;have gd:(sv.set k d).getD k 0=d:=by rw[O7,D5 a2];rfl
    have hm:Qd 2 Q9 (Q0 (Q2 0) (Q0 (mOp Jj (Qi jt (Q0 (mOp oIx (mOp oIx (Q2 4) (Q2 9)) (mC (.int 2))) (Q0 (mOp oIx (Q2 5) (mOp oIx (mOp oIx (Q2 4) (Q2 9)) (mC (.int 1)))) Q5))) (mC (.int 1))) Q5)) (dG L q s r (.tup (ks.map trV)) (zo (.ref Hc)) (zo (.ref M)) (zo (.ref V)) (zo (.int (B:Int))) (zo (.int (k:Int))) J O Z U Y) st=.ok (.int d) A1:=
     Qq (n:=2) (Q3 rfl (Q3 (Q7 (Jz (Q3 (Q7 (Q7 rfl rfl (ix st)) rfl rfl) (Q3 (Q7 rfl (Q7 (Q7 rfl rfl (ix st)) rfl rfl) (yq I.hH hh)) rfl)) (Q0j st t.2 (h.getD t.1.2 0))) rfl (by rw[hv];exact qx _ _ _)) rfl)) rfl e1
    have b4:mOp (oI λa b=>.int (a - b)) (mOp oIx (Q2 5) (mOp oIx (mOp oIx (Q2 4) (Q2 9)) (mC (.int 1)))) (mOp oIx (Q2 7) (Q2 9)) (dG L q s r (.tup (ks.map trV)) (zo (.ref Hc)) (zo (.ref M)) (zo (.ref V)) (zo (.int (B:Int))) (zo (.int (k:Int))) J O Z U Y) (A1.set V (.lst ((sv.set k d).map .int)))=.ok (.int (h.getD t.1.2 0 - d)) (A1.set V (.lst ((sv.set k d).map .int))):=
     Q7 (Q7 rfl (Q7 (Q7 rfl rfl (ix _)) rfl rfl) (yq a4 hh)) (Q7 rfl rfl ((yq a6 (by rw[E9];exact a2)).trans (by rw[gd]))) rfl
    refine⟨_,rfl,_,_,Vr c (Q8 (j4 hm rfl rfl (xn a7 a2 d)) (j4 b4 rfl (Q7 (Q7 rfl rfl (ix _)) rfl rfl) (xn a4 hh _))),h.set t.1.2 (h.getD t.1.2 0 - d),sv.set k d,_,rfl,⟨?_,?_,?_,?_,?_,I.mi,?_,?_,?_,I.dL,I.dH,I.dM,I.dV,I.e1,I.e2,I.e3⟩,?_⟩
    ·exact T1.of (by rw[O8 (nL Hc I.dH),O8 (nL V I.dV)])
    ·exact D5 (by rw[E9];exact b2)
    ·rw[E9];exact I.hn
    ·exact Q1a h _ _ (by omega) I.h0
    ·rw[O8 I.e1,O8 (λz=>I.e3 z.symm),M1.keep M (nL M I.dM)];exact I.mM
    ·rw[O8 I.e2];exact a6
    ·rw[E9];exact I.vl
    ·refine⟨by rw[E9,E9,M1.len];exact I.g.len,λx hx hn=>?_⟩;have:=I.dH;have:=I.dV;rw[O8 (by omega),O8 (by omega),M1.keep x hn];exact I.g.keep x hx hn
    ·rw[E9,E9,M1.len];exact hl
   ·rw[bQ p]at c;exact⟨_,rfl,_,_,Y0 c rfl,h,sv,_,rfl,I,hl⟩)
  ⟨h,sv,_,rfl,I,rfl⟩
 rw[<- Vc]at e;exact⟨A',h',a1,b9,Ju (Q56 (n:=ks.length) (by omega) (Jz (Q3 rfl rfl) (by rw[Wa,O0]))) e,I',hl⟩
structure DC(S0:Q1)(n:Nat)(A:Q1)(Hc M V C:Nat)(cg:List Int):Prop where
 c:A[C]?=zo (.lst (cg.map .int))
 cn:cg.length=n
 c0:∀ k:Nat,0<=cg.getD k 0
 dC:S0.length<=C
 f1:C≠Hc
 f2:C≠M
 f3:C≠V
theorem dr3 {S0:Q1} {L n kl:Nat} {Hc M V C:Nat} {q s r k:PV} (B:Nat) {w:Wt} (hw:w=[]) (a9:Option PV):∀ (ts:List Tr) (A:Q1) (h:List Int) (ms:List Mv4) (sv Z:List Int) (b0 b2 b1 a3:Option PV),(∀ t∈ts,t.1.1 < n/\t.1.2 < n/\0<=t.2/\t.2<=1000000)->ms.length + ts.length<=5000->DI S0 L n kl A Hc M V h ms sv->DC S0 n A Hc M V C Z ->
  ∃ A' h' a2 a4 a8 a5 a6 a7,Jt (Qv (Q6 (Q4 11) (Q6 (Q4 12) (Q6 (Q4 13) Qw)))) Jx w (ts.map trV) (dG L q s r k (zo (.ref Hc)) (zo (.ref M)) (zo (.ref V)) (zo (.int (B:Int))) a9 (zo (.ref C)) b0 b2 b1 a3) A=.nx (dG L q s r k (zo (.ref Hc)) (zo (.ref M)) (zo (.ref V)) (zo (.int (B:Int))) a9 (zo (.ref C)) a8 a5 a6 a7) A'/\DI S0 L n kl A' Hc M V h' a2 sv/\DC S0 n A' Hc M V C a4/\a2.length<=ms.length + ts.length/\A'.length=A.length
 | [],A,h,ms,sv,Z,b0,b2,b1,a3,_,_,I,J=>⟨A,h,ms,Z,b0,b2,b1,a3,Wv (by rw[hw];exact Qs _),I,J,O9 _,rfl⟩
 | t :: ts,A,h,ms,sv,Z,b0,b2,b1,a3,ht,hl,I,J=>by
  obtain⟨t1,t2,t3,t4⟩:=ht t D3;rw[E5]at hl;have hh:t.1.1 < h.length:=by have:=I.hn;omega
  have c5:t.1.2 < Z.length:=by have:=J.cn;omega
  have h0:=I.h0 t.1.1;obtain⟨v,hv⟩:∃ v,(if h.getD t.1.1 0 < t.2 then h.getD t.1.1 0 else t.2)=v:=⟨_,rfl⟩;have c6:0<=v/\v<=1000000/\v<=h.getD t.1.1 0:=by
   rw[<- hv]
   split <;> omega
  obtain⟨d,Y,hd,T1,M1,e1⟩:=Qis I.T v c6.1 c6.2.1;have nL:∀ c,S0.length<=c->c≠L:=λc hc z=>by have:=I.dL;omega
  have c8:Y[V]?=zo (.lst (sv.map .int)):=by rw[M1.keep V (nL V I.dV)];exact I.vV
  have c1:Y[Hc]?=zo (.lst (h.map .int)):=by rw[M1.keep Hc (nL Hc I.dH)];exact I.hH
  have b3:Y[M]?=zo (.lst (ms.map mvV)):=by rw[M1.keep M (nL M I.dM)];exact I.mM
  have b7:Y[C]?=zo (.lst (Z.map .int)):=by rw[M1.keep C (nL C J.dC)];exact J.c
  have g1:Gw (λt=>t=L) S0 Y:=⟨by rw[M1.len];exact I.g.len,λx hx hn=>by rw[M1.keep x hn];exact I.g.keep x hx hn⟩;have s1:Qm 14 (Qd 2 Q9 (Q0 (Q2 0) (Q0 (mOp Jj (Qi jt (Q0 (Q2 13) (Q0 (mOp oIx (Q2 5) (Q2 11)) Q5))) (mC (.int 1))) Q5))) (dG L q s r k (zo (.ref Hc)) (zo (.ref M)) (zo (.ref V)) (zo (.int (B:Int))) a9 (zo (.ref C)) (zo (.int (t.1.1:Int))) (zo (.int (t.1.2:Int))) (zo (.int t.2)) a3) A=.nx (dG L q s r k (zo (.ref Hc)) (zo (.ref M)) (zo (.ref V)) (zo (.int (B:Int))) a9 (zo (.ref C)) (zo (.int (t.1.1:Int))) (zo (.int (t.1.2:Int))) (zo (.int t.2)) (zo (.int d))) Y:=
   Qk (Qq (n:=2) (Q3 rfl (Q3 (Q7 (Jz (Q3 rfl (Q3 (Q7 rfl rfl (yq I.hH hh)) rfl)) (Q0j A t.2 (h.getD t.1.1 0))) rfl (by rw[hv];exact qx _ _ _)) rfl)) rfl e1)
  have c4:∀ T,wOk w T:=λT=>by rw[hw];exact Qs _
  by_cases p:0 < d
  ·have d1:=(O1.mp b3).1;have d0:=(O1.mp c1).1;have c9:=(O1.mp b7).1;obtain⟨m,hm⟩:∃ m:Mv4,m=⟨B,t.1.1,t.1.2,d⟩:=⟨_,rfl⟩;obtain⟨A2,O⟩:∃ A2,Y.set M (.lst ((ms ++ [m]).map mvV))=A2:=⟨_,rfl⟩;have b4:Jb Y (.ref M) [mvV m]=.ok .non A2:=by
    rw[qp b3 (by rw[O0];omega),<- O,E7];rfl
   have c3:A2[Hc]?=zo (.lst (h.map .int)):=by rw[<- O,O8 (λz=>I.e1 z.symm)];exact c1
   obtain⟨A3,U⟩:∃ A3,A2.set Hc (.lst ((h.set t.1.1 (h.getD t.1.1 0 - d)).map .int))=A3:=⟨_,rfl⟩;have c7:A3[C]?=zo (.lst (Z.map .int)):=by rw[<- U,O8 (λz=>J.f1 z.symm),<- O,O8 (λz=>J.f2 z.symm)];exact b7
   obtain⟨A4,a1⟩:∃ A4,A3.set C (.lst ((Z.set t.1.2 (Z.getD t.1.2 0 + d)).map .int))=A4:=⟨_,rfl⟩;have b5:A4.length=Y.length:=by rw[<- a1,E9,<- U,E9,<- O,E9]
   have b8:∀ x,x≠C->x≠Hc->x≠M->A4[x]?=Y[x]?:=λx x1 x2 x3=>by rw[<- a1,O8 (λz=>x1 z.symm),<- U,O8 (λz=>x2 z.symm),<- O,O8 (λz=>x3 z.symm)]
   have b6:Jx (dG L q s r k (zo (.ref Hc)) (zo (.ref M)) (zo (.ref V)) (zo (.int (B:Int))) a9 (zo (.ref C)) (zo (.int (t.1.1:Int))) (zo (.int (t.1.2:Int))) (zo (.int t.2)) a3) A=.nx (dG L q s r k (zo (.ref Hc)) (zo (.ref M)) (zo (.ref V)) (zo (.int (B:Int))) a9 (zo (.ref C)) (zo (.int (t.1.1:Int))) (zo (.int (t.1.2:Int))) (zo (.int t.2)) (zo (.int d))) A4:=
    Q8 s1 (Vr (Qz (Q7 rfl rfl ((Qp7 Y p)))) (Q8 (K7 rfl (Jg b3) (Q3 (J8 (Q3 rfl (Q3 rfl (Q3 rfl (Q3 rfl rfl)))) (show 4<=1000000 by decide)) rfl) (by rw[hm]at b4;exact b4)) (Q8 (j4 (Q7 (Q7 rfl rfl (yq c3 hh)) rfl rfl) rfl rfl ((xn c3 hh _).trans (by rw[U]))) (j4 (Q7 (Q7 rfl rfl (yq c7 c5)) rfl (qx _ _ _)) rfl rfl ((xn c7 c5 _).trans (by rw[a1]))))))
   have I4:DI S0 L n kl A4 Hc M V (h.set t.1.1 (h.getD t.1.1 0 - d)) (ms ++ [m]) sv:=by
    refine⟨T1.of (b8 L (λz=>nL C J.dC z.symm) (λz=>nL Hc I.dH z.symm) (λz=>nL M I.dM z.symm)),?_,by rw[E9];exact I.hn,Q1a h _ _ (by omega) I.h0,?_,λx hx=>?_,?_,I.vl,⟨by rw[b5];exact g1.len,λx hx hn=>?_⟩,I.dL,I.dH,I.dM,I.dV,I.e1,I.e2,I.e3⟩
    ·rw[<- a1,O8 J.f1,<- U];exact D5 (by rw[<- O,E9];exact d0)
    ·rw[<- a1,O8 J.f2,<- U,O8 I.e1,<- O];exact D5 d1
    ·rcases D4.mp hx with hx | hx
     ·exact I.mi x hx
     ·have:x=m:=by simpa using hx
      rw[this,hm];exact⟨⟨by show(0:Int)<=(t.1.1:Int);omega,by show(t.1.1:Int) < _;omega⟩,by show(0:Int)<=(t.1.2:Int);omega,by show(t.1.2:Int) < _;omega⟩
    ·rw[b8 V (λz=>J.f3 z.symm) (λz=>I.e2 z.symm) (λz=>I.e3 z.symm)];exact c8
    ·have:=I.dH;have:=I.dM;have:=J.dC;rw[b8 x (by omega) (by omega) (by omega)];exact g1.keep x hx hn
   have J4:DC S0 n A4 Hc M V C (Z.set t.1.2 (Z.getD t.1.2 0 + d)):=⟨by rw[<- a1];exact D5 (by rw[<- U,E9,<- O,E9];exact c9),by rw[E9];exact J.cn,Q1a Z _ _ (by have:=J.c0 t.1.2;omega) J.c0,J.dC,J.f1,J.f2,J.f3⟩;obtain⟨A',h',a2,a4,a8,a5,a6,a7,e,I',J',c2,b9⟩:=dr3 B hw a9 ts A4 _ _ sv _ _ _ _ _ (λx hx=>ht x (O6 _ hx)) (by rw[O5];simp;omega) I4 J4
   refine⟨A',h',a2,a4,a8,a5,a6,a7,Y7 (c4 _) rfl b6 e,I',J',?_,?_⟩
   ·rw[O5]at c2;rw[E5];simp at c2;omega
   ·rw[b9,b5,M1.len]
  ·have I1:DI S0 L n kl Y Hc M V h ms sv:=⟨T1,c1,I.hn,I.h0,b3,I.mi,c8,I.vl,g1,I.dL,I.dH,I.dM,I.dV,I.e1,I.e2,I.e3⟩;have J1:DC S0 n Y Hc M V C Z:=⟨b7,J.cn,J.c0,J.dC,J.f1,J.f2,J.f3⟩;obtain⟨A',h',a2,a4,a8,a5,a6,a7,e,I',J',c2,b9⟩:=dr3 B hw a9 ts Y h ms sv Z (zo (.int (t.1.1:Int))) (zo (.int (t.1.2:Int))) (zo (.int t.2)) (zo (.int d)) (λx hx=>ht x (O6 _ hx)) (by omega) I1 J1
   exact⟨A',h',a2,a4,a8,a5,a6,a7,Y7 (c4 _) rfl (Q8 s1 (Y0 (Qz (Q7 rfl rfl (Qp8 Y p))) rfl)) e,I',J',by rw[E5];omega,by rw[b9,M1.len]⟩
theorem Qn3(a b:List Int)(h:a.length=b.length)(I:∀ k:Nat,0<=a.getD k 0)(B:∀ k:Nat,0<=b.getD k 0)(k:Nat):0<=((a.zip b).map λz=>z.1 + z.2).getD k 0:=by
 rw[O7,F4];have h1:=I k;have h2:=B k;rw[O7]at h1 h2
 by_cases q:k < a.length
 ·rw[O2 (by rw[cs];omega),List.getElem_zip];rw[O2 q]at h1;rw[O2 (by omega)]at h2;have h1:0<=a[k]:=h1;have h2:0<=b[k]:=h2;show 0<=a[k] + b[k];omega
 ·rw[L7 (by rw[cs];omega)];exact cG _
theorem Qsu (Q:Qok xs rs ks) {V:Nat} {q:PV} (B:Nat) (b7:B<=rs.length) (b8:ms.length<=4000) (I:DI S0 L xs.length ks.length A Hc M V h ms sv) (a9 b2 a3 a6 a4 a5:Option PV) :
  ∃ A' b1 h' b3 b6 b9 b4 a1 U Y Z,Zv (dG L q (.tup (xs.map .int)) (.tup (rs.map tsV)) (.tup (ks.map trV)) (zo (.ref Hc)) (zo (.ref M)) (zo (.ref V)) (zo (.int (B:Int))) a9 b2 a3 a6 a4 a5) A=.nx (dG L q (.tup (xs.map .int)) (.tup (rs.map tsV)) (.tup (ks.map trV)) (zo (.ref b1)) (zo (.ref M)) (zo (.ref V)) (zo (.int (B:Int))) b9 b4 a1 U Y Z) A'/\DI S0 L xs.length ks.length A' b1 M V h' b3 b6/\b3.length<=ms.length + 100:=by
 have x4:=Q.x4;obtain⟨A1,h1,b0,b9,e1,J,l1⟩:=dr2 (λt ht=>⟨(Q.kb t ht).2.1,by have:=(Q.kb t ht).2.2.1;omega,(Q.kb t ht).2.2.2⟩) (q:=q) (s:=.tup (xs.map .int)) (r:=.tup (rs.map tsV)) B a9 b2 a3 a6 a4 a5 I (by have:=Q.k5;omega);have c2:=Jn (ga:=Q4 0) (me:=W8) (w:=[]) (Γ0:=[zl]) (st:=A1) (g:=PV.int) (f:=λ_=>PV.int 0) (Qs _) (ys:=xs) λx _=>⟨_,rfl,rfl⟩
 rw[show xs.map (λ_:Int=>PV.int 0)=(xs.map λ_=>(0:Int)).map .int by rw[F3];rfl]at c2
 obtain⟨A2,a7⟩:∃ A2,A1 ++ [Cell.lst ((xs.map λ_=>(0:Int)).map .int)]=A2:=⟨_,rfl⟩
 have lt:∀ {c:Nat} {o:Cell},A1[c]?=zo o->c < A1.length/\A2[c]?=zo o:=λ{c o} e=>by
  have:=(O1.mp e).1;exact⟨this,by rw[<- a7,O3 this];exact e⟩
 have I2:DI S0 L xs.length ks.length A2 Hc M V h1 ms b0:=by
  obtain⟨c,hc⟩:=J.T;refine⟨⟨c,(lt hc).2⟩,(lt J.hH).2,J.hn,J.h0,(lt J.mM).2,J.mi,(lt J.vV).2,J.vl,⟨by rw[<- a7,O5];have:=J.g.len;omega,λx hx hn=>?_⟩,J.dL,J.dH,J.dM,J.dV,J.e1,J.e2,J.e3⟩;rw[<- a7,O3 (E4 hx J.g.len)];exact J.g.keep x hx hn
 have J2:DC S0 xs.length A2 Hc M V A1.length (xs.map λ_=>0):=⟨by rw[<- a7];exact Xe _ _,O0 _,λk=>by
  rw[O7,F4];cases xs[k]? <;> exact cG _,J.g.len,λz=>by have:=(lt J.hH).1;omega,λz=>by have:=(lt J.mM).1;omega,λz=>by have:=(lt J.vV).1;omega⟩
 have step:∃ A3 h3 a2 cg a1 U Y Z,Z5 (toB (mOp oLt (Q2 8) (Qi Z0 (Q0 (Q2 3) Q5)))) (Yu (Qv (Q6 (Q4 11) (Q6 (Q4 12) (Q6 (Q4 13) Qw)))) (Yz (mOp oIx (Q2 3) (Q2 8))) Jx) Jf (dG L q (.tup (xs.map .int)) (.tup (rs.map tsV)) (.tup (ks.map trV)) (zo (.ref Hc)) (zo (.ref M)) (zo (.ref V)) (zo (.int (B:Int))) b9 (zo (.ref A1.length)) a3 a6 a4 a5) A2=.nx (dG L q (.tup (xs.map .int)) (.tup (rs.map tsV)) (.tup (ks.map trV)) (zo (.ref Hc)) (zo (.ref M)) (zo (.ref V)) (zo (.int (B:Int))) b9 (zo (.ref A1.length)) a1 U Y Z) A3/\DI S0 L xs.length ks.length A3 Hc M V h3 a2 b0/\DC S0 xs.length A3 Hc M V A1.length cg/\a2.length<=ms.length + 100:=by
  have c:=Qz (Q7 (o:=oLt) (a:=Q2 8) (b:=Qi Z0 (Q0 (Q2 3) Q5)) (Γ:=dG L q (.tup (xs.map .int)) (.tup (rs.map tsV)) (.tup (ks.map trV)) (zo (.ref Hc)) (zo (.ref M)) (zo (.ref V)) (zo (.int (B:Int))) b9 (zo (.ref A1.length)) a3 a6 a4 a5) rfl (Jz (Q3 rfl rfl) (by rw[Wa,O0])) (Q08 A2 B rs.length))
  by_cases p:(B:Int) < (rs.length:Int)
  ·rw[bR p]at c;have hm:rs.getD B []∈rs:=by rw[O7,O2 (by omega)];exact F9 _
   have tl:=(Q.rb _ hm).len;obtain⟨A3,h3,a2,cg,a1,U,Y,Z,e,O,J3,hl,_⟩:=dr3 (q:=q) (s:=.tup (xs.map .int)) (r:=.tup (rs.map tsV)) (k:=.tup (ks.map trV)) B (w:=[]) rfl b9 (rs.getD B []) A2 h1 ms b0 _ a3 a6 a4 a5 (λt ht=>by
    obtain⟨⟨g1,g2,_⟩,g3,g4⟩:=(Q.rb _ hm).ok t ht;exact⟨g1,g2,by omega,g4⟩) (by omega) I2 J2
   have ix:=Qi0 (rs:=rs) (t:=(B:Int)) ⟨by omega,p⟩ A2;rw[bh]at ix;exact⟨A3,h3,a2,cg,a1,U,Y,Z,Vr c (Ju (Ug (Q7 rfl rfl ix) rfl (by rw[O0];omega)) e),O,J3,by omega⟩
  ·rw[bQ p]at c;exact⟨A2,h1,ms,_,a3,a6,a4,a5,Y0 c rfl,I2,J2,by omega⟩
 obtain⟨A3,h3,a2,cg,a1,U,Y,Z,e3,O,J3,b5⟩:=step;have c4:=Jn (ga:=Qv (Q6 (Q4 0) (Q6 (Q4 1) Qw))) (me:=W7) (w:=[(Hc,.lst (h3.map .int))] ++ [(A1.length,.lst (cg.map .int))]) (Γ0:=[zl,zl]) (st:=A3) (g:=λz:Int × Int=>PV.tup [.int z.1,.int z.2]) (f:=λz=>PV.int (z.1 + z.2)) (λx hx=>by
  rcases D4.mp hx with hx | hx
  ·have:x=(Hc,.lst (h3.map .int)):=by simpa using hx
   rw[this];exact O.hH
  ·have:x=(A1.length,.lst (cg.map .int)):=by simpa using hx
   rw[this];exact J3.c) (ys:=h3.zip cg) λz _=>⟨_,rfl,Q7 rfl rfl (qx _ _ _)⟩
 rw[<- Qff PV.int PV.int,show(h3.zip cg).map (λz:Int × Int=>PV.int (z.1 + z.2))=((h3.zip cg).map λz=>z.1 + z.2).map .int by rw[F3];rfl]at c4
 have c3:=O.hn;have c1:=J3.cn;have a8:∀ {c:Nat} {o:Cell},A3[c]?=zo o->c < A3.length/\(A3 ++ [Cell.lst (((h3.zip cg).map λz=>z.1 + z.2).map .int)])[c]?=zo o:=λ{c o} e=>by
  have:=(O1.mp e).1;exact⟨this,by rw[O3 this];exact e⟩
 refine⟨A3 ++ [.lst (((h3.zip cg).map λz=>z.1 + z.2).map .int)],A3.length,(h3.zip cg).map λz=>z.1 + z.2,a2,b0,b9,zo (.ref A1.length),a1,U,Y,Z,?_,?_,b5⟩
 ·exact Q8 e1 (Q8 ((Qk (W1 (Zq (Ug rfl rfl (by rw[O0];omega)) c2))).trans (by rw[a7];rfl)) (Q8 e3 (Qk (W1 (Zq (Q2i rfl rfl (Ux O.hH) (Ux J3.c) (by rw[O0];omega)) c4)))))
 ·obtain⟨c,hc⟩:=O.T;refine⟨⟨c,(a8 hc).2⟩,Xe _ _,by rw[O0,cs];omega,Qn3 h3 cg (by omega) O.h0 J3.c0,(a8 O.mM).2,O.mi,(a8 O.vV).2,O.vl,⟨by rw[O5];have:=O.g.len;omega,λx hx hn=>?_⟩,O.dL,O.g.len,O.dM,O.dV,λz=>by have:=(a8 O.mM).1;omega,λz=>by have:=(a8 O.vV).1;omega,O.e3⟩
  rw[O3 (E4 hx O.g.len)];exact O.g.keep x hx hn
theorem Qiq(Q:Qok xs rs ks)(T:Tp S L):∃ (S':Q1) (ms:List Mv4) (sv:List Int) (Mq Vq:Nat),Zc [.ref L,qV xs rs ks] S=.ok (.tup [.ref Mq,.ref Vq]) S'/\S'[Mq]?=zo (.lst (ms.map mvV))/\S'[Vq]?=zo (.lst (sv.map .int))/\(∀ m∈ms,InN xs.length m)/\ms.length<=1000/\sv.length=ks.length/\Tp S' L/\Gw (λt=>t=L) S S'/\S.length<=Mq/\S.length<=Vq:=by
 have r4:=Q.r4;have hL:=T.lt;have c1:=Jn (ga:=Q4 0) (me:=Zp) (w:=[]) (Γ0:=[zl]) (st:=(S ++ [Cell.lst (xs.map .int)]) ++ [Cell.lst []]) (g:=trV) (f:=λ_=>PV.int 0) (Qs _) (ys:=ks) λx _=>⟨_,rfl,rfl⟩
 rw[show ks.map (λ_:Tr=>PV.int 0)=(ks.map λ_=>(0:Int)).map .int by rw[F3];rfl]at c1
 obtain⟨A,hA⟩:∃ A,((S ++ [Cell.lst (xs.map .int)]) ++ [Cell.lst []]) ++ [Cell.lst ((ks.map λ_=>(0:Int)).map .int)]=A:=⟨_,rfl⟩
 have a1:A=S ++ [Cell.lst (xs.map .int),.lst [],.lst ((ks.map λ_=>(0:Int)).map .int)]:=by rw[<- hA];simp
 have at_:∀ i,(A)[S.length + i]?=[Cell.lst (xs.map .int),.lst [],.lst ((ks.map λ_=>(0:Int)).map .int)][i]?:=λi=>by rw[a1,D7 (by omega)];congr 1;omega
 have I0:DI S L xs.length ks.length A S.length (S.length + 1) (S.length + 2) xs [] (ks.map λ_=>0):=by
  refine⟨T.of (by rw[a1,O3 hL]),at_ 0,rfl,λk=>?_,at_ 1,λm hm=>(by cases hm),at_ 2,O0 _,by rw[a1];exact Gw.add _ _ _,hL,O9 _,by omega,by omega,by omega,by omega,by omega⟩;rw[O7]
  by_cases p:k < xs.length
  ·rw[O2 p];exact(Q.xb _ (F9 p)).1
  ·rw[L7 (by omega)];exact cG _
 obtain⟨b3,A',e,Hc,h,ms,sv,a8,a9,B,J,Y,O,U,rfl,Z,hl⟩:=W6 (g:=λk:Nat=>PV.int (k:Int)) (xs:=bT (rs.length + 1)) (ga:=Q4 8) (body:=Zv) (w:=[]) (Γ:=dG L (qV xs rs ks) (.tup (xs.map .int)) (.tup (rs.map tsV)) (.tup (ks.map trV)) (zo (.ref S.length)) (zo (.ref (S.length + 1))) (zo (.ref (S.length + 2))) zl zl zl zl zl zl zl) (st:=A)
  (λi Γ st=>∃ Hc h ms sv a8 a9 B J Y O U,Γ=dG L (qV xs rs ks) (.tup (xs.map .int)) (.tup (rs.map tsV)) (.tup (ks.map trV)) (zo (.ref Hc)) (zo (.ref (S.length + 1))) (zo (.ref (S.length + 2))) a8 a9 B J Y O U/\DI S L xs.length ks.length st Hc (S.length + 1) (S.length + 2) h ms sv/\ms.length<=100 * i)
  (λ_ _ _ _=>Qs _)
  (λi x Γ st hx ⟨Hc,h,ms,sv,a8,a9,B,J,Y,O,U,b0,I,hl⟩=>by
   obtain⟨hm,rfl⟩:i < rs.length + 1/\x=i:=by
    obtain⟨h1,h2⟩:=O1.mp hx;rw[F6]at h1;rw[fN]at h2;exact⟨h1,h2.symm⟩
   subst b0;obtain⟨A1,b1,h1,a2,a5,b9,a4,b2,a3,a6,a7,e1,I1,b4⟩:=Qsu Q (q:=qV xs rs ks) x (by omega) (by omega) I a9 B J Y O U;exact⟨_,rfl,_,_,e1,b1,h1,a2,a5,_,b9,a4,b2,a3,a6,a7,rfl,I1,by omega⟩)
  ⟨_,_,_,_,_,_,_,_,_,_,_,rfl,I0,bb _⟩
 rw[F6]at hl;rw[<- Vc]at e;refine⟨A',ms,sv,S.length + 1,S.length + 2,?_,Z.mM,Z.vV,Z.mi,by omega,Z.vl,Z.T,Z.g,Z.dM,Z.dV⟩;have s1:Qm 5 (Y4 (W3 (Q2 2))) (dG L (qV xs rs ks) (.tup (xs.map .int)) (.tup (rs.map tsV)) (.tup (ks.map trV)) zl zl zl zl zl zl zl zl zl zl) S=.nx (dG L (qV xs rs ks) (.tup (xs.map .int)) (.tup (rs.map tsV)) (.tup (ks.map trV)) (zo (.ref S.length)) zl zl zl zl zl zl zl zl zl) (S ++ [.lst (xs.map .int)]):=Qk (W1 (jf rfl rfl));have s2:Qm 6 (Y4 (Uv Q5)) (dG L (qV xs rs ks) (.tup (xs.map .int)) (.tup (rs.map tsV)) (.tup (ks.map trV)) (zo (.ref S.length)) zl zl zl zl zl zl zl zl zl) (S ++ [.lst (xs.map .int)])=.nx (dG L (qV xs rs ks) (.tup (xs.map .int)) (.tup (rs.map tsV)) (.tup (ks.map trV)) (zo (.ref S.length)) (zo (.ref (S.length + 1))) zl zl zl zl zl zl zl zl) ((S ++ [.lst (xs.map .int)]) ++ [.lst []]):=by
  refine(Qk (W1 rfl)).trans ?_;rw[O5];rfl
 have s3:Qm 7 (Y4 (Qy [zl] (Q4 0) (Yz (Q2 4)) Js Zp)) (dG L (qV xs rs ks) (.tup (xs.map .int)) (.tup (rs.map tsV)) (.tup (ks.map trV)) (zo (.ref S.length)) (zo (.ref (S.length + 1))) zl zl zl zl zl zl zl zl) ((S ++ [.lst (xs.map .int)]) ++ [.lst []])=.nx (dG L (qV xs rs ks) (.tup (xs.map .int)) (.tup (rs.map tsV)) (.tup (ks.map trV)) (zo (.ref S.length)) (zo (.ref (S.length + 1))) (zo (.ref (S.length + 2))) zl zl zl zl zl zl zl) A:=by
  refine(Qk (W1 (Zq (Ug rfl rfl (by rw[O0];have:=Q.k5;omega)) c1))).trans ?_;rw[hA,O5,O5];rfl
 exact W9 (show V4 [zo (.ref L),zo (qV xs rs ks),zl,zl,zl,zl,zl,zl,zl,zl,zl,zl,zl,zl,zl] S=_ from Q8 (Qbb rfl rfl) (Q8 s1 (Q8 s2 (Q8 s3 (Q8 (Ju (Q56 (n:=rs.length + 1) (by omega) (Q7 (Jz (Q3 rfl rfl) (by rw[Wa,O0])) rfl (qx _ _ _))) e) (Ja (J8 (Q3 rfl (Q3 rfl rfl)) (D9 rfl))))))))
def lstM(l:List Mv4):PV:=.lst (l.map mvV)
def Ka(m:Mv4):List (List Mv4):=[[⟨m.t,m.i,m.j,m.k + 1⟩],[⟨m.t,m.i,m.j,m.k - 1⟩],[],[m,m],[⟨m.t,m.j,m.i,m.k⟩],[⟨m.t + 1,m.i,m.j,m.k⟩],[⟨m.t - 1,m.i,m.j,m.k⟩],[⟨m.t,m.i,m.j,1⟩,⟨m.t,m.i,m.j,m.k - 1⟩]]
structure BS(S:Q1)(L:Nat)(ms:List Mv4)(sv:List Int)(A:Q1):Prop where
 T:Tp A L
 m:A[S.length]?=zo (.lst (ms.map mvV))
 v:A[S.length + 1]?=zo (.lst (sv.map .int))
 g:Gw (λt=>t=L) S A
 l:A.length=S.length + 2
 d:L < S.length
theorem BS.mv{I:Q1}(B:BS S L ms sv A)(M:Mv L A I)(T:Tp I L):BS S L ms sv I:=by
 have:=B.d;exact⟨T,by rw[M.keep _ (by omega)];exact B.m,by rw[M.keep _ (by omega)];exact B.v,⟨by rw[M.len];exact B.g.len,λx J hn=>by rw[M.keep x hn];exact B.g.keep x J hn⟩,by rw[M.len];exact B.l,B.d⟩
theorem BS.dig(B:BS S L ms sv A)(m:Nat)(h1:1<=m)(h2:m < 1000000):∃ (d:Nat) (I:Q1),d < m/\BS S L ms sv I/\Q9 [.ref L,.int m] A=.ok (.int d) I:=by
 obtain⟨d,I,hd,T,M,e⟩:=Zf B.T m h1 (by omega);exact⟨d,I,hd,B.mv M T,e⟩
theorem Qcc(h:S[M]?=zo (.lst l))(B:J0 dep (.lst l)=zi):oNe S (.ref M) (.lst [])=.ok (.bl (!l.isEmpty)) S:=by
 unfold oNe;have hd:der S (.ref M)=.lst l:=by show(match S[M]? with | some (.lst xs)=>PV.lst xs | _=>.ref M)=_;rw[h]
 rw[hd,bO ⟨B,rfl⟩];cases l with
 | nil=>rfl
 | cons a l=>simp[peq,peqL,der]
theorem Qud(h:S[M]?=zo (.lst l)){mk:ME}(h1:mo Γ S=.ok (.ref M) S)(h2:mk Γ S=.ok (.int (k:Int)) S):mSl mo Jy (W2 mk) Γ S=.ok (.lst (l.take k)) S:=by
 rw[Qas,h1,Qp];show((W2 mk Γ S).bind λhi B=>oSl B (.ref M) zl hi)=_
 unfold W2;rw[h2];show(match Yk S (.ref M)with | some xs=>Res.ok (PV.lst (cut xs zl (zo (k:Int)))) S | none=>.stuck)=_
 rw[Jg h,];show Res.ok (PV.lst (cut l zl (zo (k:Int)))) S=_;rw[Q1e]
theorem Qbu(h:S[M]?=zo (.lst l)){mk:ME}(h1:mo Γ S=.ok (.ref M) S)(h2:mk Γ S=.ok (.int (k:Int)) S):mSl mo (W2 mk) Jy Γ S=.ok (.lst (l.drop k)) S:=by
 rw[Qas,h1,Qp];show((W2 mk Γ S).bind λlo I=>(Jy Γ I).bind λhi B=>oSl B (.ref M) lo hi)=_
 unfold W2;rw[h2];show(match Yk S (.ref M)with | some xs=>Res.ok (PV.lst (cut xs (zo (k:Int)) zl)) S | none=>.stuck)=_
 rw[Jg h];show Res.ok (PV.lst (cut l (zo (k:Int)) zl)) S=_;rw[Q9d]
theorem Qjp(S:Q1)(a b:List PV)(h:a.length + b.length<=1000000):Jj S (.lst a) (.lst b)=.ok (.lst (a ++ b)) S:=by
 show(if a.length + b.length<=lim then Res.ok (PV.lst (a ++ b)) S else .stuck)=_;rw[bO (by rw[Jr];exact h)]
theorem Qni(a b:List PV)(h:a.length + b.length<=1000000):Q5c S (.lst a) (.lst b)=.ok (a ++ b) S:=by
 show(if a.length + b.length<=lim then Res.ok (a ++ b) S else .stuck)=_;rw[bO (by rw[Jr];exact h)]
theorem Qnh{ma mb:ME}{y:PV}{r:Res (List PV)}(h1:ma Γ S=.ok x S1)(h2:mb Γ S1=.ok y S2)(B:Q5c S2 x y=r):Q1i ma mb Γ S=r:=by
 unfold Q1i;rw[h1,Qp,h2,Qp,B]
theorem Qjt{m:Mv4}(h:InN n m):∀ l∈Ka m,l.length<=2/\∀ x∈l,InN n x:=by
 intro l I;unfold Ka at I;obtain⟨⟨h1,h2⟩,h3,h4⟩:=h;simp only[E2,List.not_mem_nil,or_false]at I;rcases I with rfl | rfl | rfl | rfl | rfl | rfl | rfl | rfl <;> refine⟨by simp,λx B=>?_⟩ <;> simp at B <;> try rcases B with rfl | rfl <;> exact⟨⟨by assumption,by assumption⟩,by assumption,by assumption⟩
 all_goals (try subst B)
 all_goals exact⟨⟨by assumption,by assumption⟩,by assumption,by assumption⟩
abbrev nG(L:Nat)(q p:PV)(a3 a4 a5 a6 a7 a8 a9 a10 a11 a12:Option PV):Gam:=[zo (.ref L),zo q,zo p,a3,a4,a5,a6,a7,a8,a9,a10,a11,a12]
def Bnt(xs:List Int)(S:Q1)(L:Nat)(ms:List Mv4)(sv:List Int)(A:Q1)(Vm Vs:PV):Prop:=∃ (ms':List Mv4) (sv':List Int),LA A Vm (ms'.map mvV)/\LA A Vs (sv'.map .int)/\(∀ m∈ms',InN xs.length m)/\ms'.length<=ms.length + 2/\sv'.length<=sv.length + 1/\Tp A L/\Gw (λt=>t=L) S A
theorem Qcm{f:α->PV}{l:List α}(h:S[M]?=zo (.lst (l.map f))):Z0 S [.ref M]=.ok (.int (l.length:Nat)) S:=by
 rw[Qj4,h];show Res.ok (PV.int ((l.map f).length:Nat)) S=_;rw[O0]
theorem Qz3 (Q:Qok xs rs ks) (hM:∀ m∈ms,InN xs.length m) (a8:ms.length<=2000) (a9:sv.length<=100) {P:PV} (B:BS S L ms sv A) (a6:ms≠[]) (w:PV) :
  ∃ A' b7 b8 b9 a3 a7 a4 M',(Qb (Qm 7 (Qd 2 Q9 (Q0 (Q2 0) (Q0 (Qi Z0 (Q0 (Q2 3) Q5)) Q5))))
  (Qb (Q8v (Qv (Q6 (Q4 8) (Q6 (Q4 9) (Q6 (Q4 10) (Q6 (Q4 11) Qw))))) (mOp oIx (Q2 3) (Q2 7)))
  (Qb (Qm 12 (Z1 (Q0 (Z1 (Q0 (Je (Q0 (Q2 8) (Q0 (Q2 9) (Q0 (Q2 10) (Q0 (mOp Jj (Q2 11) (mC (.int 1))) Q5))))) Q5)) (Q0 (Z1 (Q0 (Je (Q0 (Q2 8) (Q0 (Q2 9) (Q0 (Q2 10) (Q0 (mOp (oI λa b=>.int (a - b)) (Q2 11) (mC (.int 1))) Q5))))) Q5)) (Q0 (Z1 Q5) (Q0 (Z1 (Q0 (mOp oIx (Q2 3) (Q2 7)) (Q0 (mOp oIx (Q2 3) (Q2 7)) Q5))) (Q0 (Z1 (Q0 (Je (Q0 (Q2 8) (Q0 (Q2 10) (Q0 (Q2 9) (Q0 (Q2 11) Q5))))) Q5)) Q5)))))))
  (Qb (Qm 12 (mOp Jj (Q2 12) (Z1 (Q0 (Z1 (Q0 (Je (Q0 (mOp Jj (Q2 8) (mC (.int 1))) (Q0 (Q2 9) (Q0 (Q2 10) (Q0 (Q2 11) Q5))))) Q5)) (Q0 (Z1 (Q0 (Je (Q0 (mOp (oI λa b=>.int (a - b)) (Q2 8) (mC (.int 1))) (Q0 (Q2 9) (Q0 (Q2 10) (Q0 (Q2 11) Q5))))) Q5)) (Q0 (Z1 (Q0 (Je (Q0 (Q2 8) (Q0 (Q2 9) (Q0 (Q2 10) (Q0 (mC (.int 1)) Q5))))) (Q0 (Je (Q0 (Q2 8) (Q0 (Q2 9) (Q0 (Q2 10) (Q0 (mOp (oI λa b=>.int (a - b)) (Q2 11) (mC (.int 1))) Q5))))) Q5))) Q5))))))
  (Qm 3 (Y4 (Q1i (mOp Jj (mSl (Q2 3) Jy (W2 (Q2 7))) (mOp oIx (Q2 12) (Qd 2 Q9 (Q0 (Q2 0) (Q0 (mC (.int 8)) Q5))))) (mSl (Q2 3) (W2 (mOp Jj (Q2 7) (mC (.int 1)))) Jy)))))))) (nG L (qV xs rs ks) P (zo (.ref S.length)) (zo (.ref (S.length + 1))) (zo w) (zo (.int xs.length)) zl zl zl zl zl zl) A=.nx (nG L (qV xs rs ks) P (zo (.ref M')) (zo (.ref (S.length + 1))) (zo w) (zo (.int xs.length)) b7 b8 b9 a3 a7 a4) A'/\Bnt xs S L ms sv A' (.ref M') (.ref (S.length + 1)):=by
 have l1:1<=ms.length:=dI.mpr a6;obtain⟨k,I,hk,B1,e1⟩:=B.dig ms.length l1 (by omega);obtain⟨m,hm⟩:∃ m,ms.getD k ⟨0,0,0,0⟩=m:=⟨_,rfl⟩;have a1:m∈ms:=by rw[<- hm,O7,O2 hk];exact F9 hk
 have ix:oIx I (.ref S.length) (.int (k:Int))=.ok (mvV m) I:=by
  rw[Q3g,B1.m];show okO I (atI (ms.map mvV) (k:Int))=_;rw[Wq mvV ⟨0,0,0,0⟩ ms hk,hm];rfl
 have s1:Qm 7 (Qd 2 Q9 (Q0 (Q2 0) (Q0 (Qi Z0 (Q0 (Q2 3) Q5)) Q5))) (nG L (qV xs rs ks) P (zo (.ref S.length)) (zo (.ref (S.length + 1))) (zo w) (zo (.int xs.length)) zl zl zl zl zl zl) A=.nx (nG L (qV xs rs ks) P (zo (.ref S.length)) (zo (.ref (S.length + 1))) (zo w) (zo (.int xs.length)) (zo (.int (k:Int))) zl zl zl zl zl) I:=
  Qk (Qq (n:=2) (Q3 rfl (Q3 (Jz (Q3 rfl rfl) (Qcm B.m)) rfl)) rfl e1)
 obtain⟨d,O,hd,U,e2⟩:=B1.dig 8 (by decide) (by decide);obtain⟨l,Z⟩:∃ l,(Ka m).getD d []=l:=⟨_,rfl⟩;have a5:l∈Ka m:=by rw[<- Z,O7,O2 (show d < (Ka m).length from hd)];exact F9 _
 obtain⟨v1,v2⟩:=Qjt (hM m a1) l a5;have Y:oIx O (.lst ((Ka m).map lstM)) (.int (d:Int))=.ok (lstM l) O:=by
  show okO O (atI ((Ka m).map lstM) (d:Int))=_;rw[Wq lstM [] (Ka m) hd,Z];rfl
 have s3:Qm 12 (Z1 (Q0 (Z1 (Q0 (Je (Q0 (Q2 8) (Q0 (Q2 9) (Q0 (Q2 10) (Q0 (mOp Jj (Q2 11) (mC (.int 1))) Q5))))) Q5)) (Q0 (Z1 (Q0 (Je (Q0 (Q2 8) (Q0 (Q2 9) (Q0 (Q2 10) (Q0 (mOp (oI λa b=>.int (a - b)) (Q2 11) (mC (.int 1))) Q5))))) Q5)) (Q0 (Z1 Q5) (Q0 (Z1 (Q0 (mOp oIx (Q2 3) (Q2 7)) (Q0 (mOp oIx (Q2 3) (Q2 7)) Q5))) (Q0 (Z1 (Q0 (Je (Q0 (Q2 8) (Q0 (Q2 10) (Q0 (Q2 9) (Q0 (Q2 11) Q5))))) Q5)) Q5)))))) (nG L (qV xs rs ks) P (zo (.ref S.length)) (zo (.ref (S.length + 1))) (zo w) (zo (.int xs.length)) (zo (.int (k:Int))) (zo (.int m.t)) (zo (.int m.i)) (zo (.int m.j)) (zo (.int m.k)) zl) I=.nx (nG L (qV xs rs ks) P (zo (.ref S.length)) (zo (.ref (S.length + 1))) (zo w) (zo (.int xs.length)) (zo (.int (k:Int))) (zo (.int m.t)) (zo (.int m.i)) (zo (.int m.j)) (zo (.int m.k)) (zo (.lst (((Ka m).take 5).map lstM)))) I:=
  Qk (Yv (Q3 (Yv (Q3 (J8 (Q3 rfl (Q3 rfl (Q3 rfl (Q3 (Q7 rfl rfl (qx _ _ _)) rfl)))) (D9 rfl)) rfl) (D9 rfl)) (Q3 (Yv (Q3 (J8 (Q3 rfl (Q3 rfl (Q3 rfl (Q3 (Q7 rfl rfl (Qk0 _ _ _)) rfl)))) (D9 rfl)) rfl) (D9 rfl)) (Q3 (Yv rfl) (Q3 (Yv (Q3 (Q7 rfl rfl ix) (Q3 (Q7 rfl rfl ix) rfl)) (D9 rfl)) (Q3 (Yv (Q3 (J8 (Q3 rfl (Q3 rfl (Q3 rfl (Q3 rfl rfl)))) (D9 rfl)) rfl) (D9 rfl)) rfl))))) (D9 rfl))
 have s4:Qm 12 (mOp Jj (Q2 12) (Z1 (Q0 (Z1 (Q0 (Je (Q0 (mOp Jj (Q2 8) (mC (.int 1))) (Q0 (Q2 9) (Q0 (Q2 10) (Q0 (Q2 11) Q5))))) Q5)) (Q0 (Z1 (Q0 (Je (Q0 (mOp (oI λa b=>.int (a - b)) (Q2 8) (mC (.int 1))) (Q0 (Q2 9) (Q0 (Q2 10) (Q0 (Q2 11) Q5))))) Q5)) (Q0 (Z1 (Q0 (Je (Q0 (Q2 8) (Q0 (Q2 9) (Q0 (Q2 10) (Q0 (mC (.int 1)) Q5))))) (Q0 (Je (Q0 (Q2 8) (Q0 (Q2 9) (Q0 (Q2 10) (Q0 (mOp (oI λa b=>.int (a - b)) (Q2 11) (mC (.int 1))) Q5))))) Q5))) Q5))))) (nG L (qV xs rs ks) P (zo (.ref S.length)) (zo (.ref (S.length + 1))) (zo w) (zo (.int xs.length)) (zo (.int (k:Int))) (zo (.int m.t)) (zo (.int m.i)) (zo (.int m.j)) (zo (.int m.k)) (zo (.lst (((Ka m).take 5).map lstM)))) I=.nx (nG L (qV xs rs ks) P (zo (.ref S.length)) (zo (.ref (S.length + 1))) (zo w) (zo (.int xs.length)) (zo (.int (k:Int))) (zo (.int m.t)) (zo (.int m.i)) (zo (.int m.j)) (zo (.int m.k)) (zo (.lst ((Ka m).map lstM)))) I:=
  Qk (Q7 rfl (Yv (Q3 (Yv (Q3 (J8 (Q3 (Q7 rfl rfl (qx _ _ _)) (Q3 rfl (Q3 rfl (Q3 rfl rfl)))) (D9 rfl)) rfl) (D9 rfl)) (Q3 (Yv (Q3 (J8 (Q3 (Q7 rfl rfl (Qk0 _ _ _)) (Q3 rfl (Q3 rfl (Q3 rfl rfl)))) (D9 rfl)) rfl) (D9 rfl)) (Q3 (Yv (Q3 (J8 (Q3 rfl (Q3 rfl (Q3 rfl (Q3 rfl rfl)))) (D9 rfl)) (Q3 (J8 (Q3 rfl (Q3 rfl (Q3 rfl (Q3 (Q7 rfl rfl (Qk0 _ _ _)) rfl)))) (D9 rfl)) rfl)) (D9 rfl)) rfl))) (D9 rfl)) (Qjp I _ _ (D9 rfl)))
 have t1:((ms.map mvV).take k).length + (l.map mvV).length<=1000000:=by rw[ca,O0,O0];omega
 have t2:((ms.map mvV).take k ++ l.map mvV).length + ((ms.map mvV).drop (k + 1)).length<=1000000:=by rw[O5,ca,cb,O0,O0];omega
 have a2:((ms.map mvV).take k ++ l.map mvV) ++ (ms.map mvV).drop (k + 1)=(ms.take k ++ l ++ ms.drop (k + 1)).map mvV:=by rw[E7,E7,gv,fM]
 have s5:Qm 3 (Y4 (Q1i (mOp Jj (mSl (Q2 3) Jy (W2 (Q2 7))) (mOp oIx (Q2 12) (Qd 2 Q9 (Q0 (Q2 0) (Q0 (mC (.int 8)) Q5))))) (mSl (Q2 3) (W2 (mOp Jj (Q2 7) (mC (.int 1)))) Jy))) (nG L (qV xs rs ks) P (zo (.ref S.length)) (zo (.ref (S.length + 1))) (zo w) (zo (.int xs.length)) (zo (.int (k:Int))) (zo (.int m.t)) (zo (.int m.i)) (zo (.int m.j)) (zo (.int m.k)) (zo (.lst ((Ka m).map lstM)))) I=.nx (nG L (qV xs rs ks) P (zo (.ref O.length)) (zo (.ref (S.length + 1))) (zo w) (zo (.int xs.length)) (zo (.int (k:Int))) (zo (.int m.t)) (zo (.int m.i)) (zo (.int m.j)) (zo (.int m.k)) (zo (.lst ((Ka m).map lstM)))) (O ++ [.lst ((ms.take k ++ l ++ ms.drop (k + 1)).map mvV)]):=by
  refine Qk (W1 (Qnh (Q7 (Qud B1.m rfl rfl) (Q7 rfl (Qq (n:=2) (Q3 rfl (Q3 rfl rfl)) rfl e2) Y) (Qjp O _ _ t1)) (Qbu U.m (k:=k + 1) rfl (Q7 rfl rfl (qx _ _ _))) ((Qni _ _ t2).trans (by rw[a2]))))
 have bd:=U.d;have bl:=U.l;refine⟨_,_,_,_,_,_,_,O.length,Q8 s1 (Q8 (Qbb (Q7 rfl rfl ix) rfl) (Q8 s3 (Q8 s4 s5))),ms.take k ++ l ++ ms.drop (k + 1),sv,.inr ⟨_,rfl,Xe _ _⟩,.inr ⟨_,rfl,?_⟩,λx J=>?_,?_,by omega,?_,?_⟩
 ·rw[O3 (by omega)];exact U.v
 ·rcases D4.mp J with J | J
  ·rcases D4.mp J with J | J
   ·exact hM x (List.mem_of_mem_take J)
   ·exact v2 x J
  ·exact hM x (List.mem_of_mem_drop J)
 ·rw[O5,O5,ca,cb];omega
 ·exact U.T.of (O3 (by omega))
 ·exact U.g.trans (Gw.add _ _ _)
theorem Qws (Q:Qok xs rs ks) (hM:∀ m∈ms,InN xs.length m) (a1:ms.length<=2000) (a2:sv.length<=100) {P:PV} (B:BS S L ms sv A) (w:PV) :
  ∃ Z b8,(Qb (Qm 8 (mOp (oI λa b=>.int (a - b)) (Qd 2 Q9 (Q0 (Q2 0) (Q0 (mOp Jj (Qi Z0 (Q0 (mOp oIx (Q2 1) (mC (.int 1))) Q5)) (mC (.int 2))) Q5))) (mC (.int 1))))
  (Yx (mBM Jb (Q2 3) (Q0 (Je (Q0 (Q2 8) (Q0 (Qd 2 Q9 (Q0 (Q2 0) (Q0 (Q2 6) Q5))) (Q0 (Qd 2 Q9 (Q0 (Q2 0) (Q0 (Q2 6) Q5))) (Q0 (Qd 2 Q9 (Q0 (Q2 0) (Q0 (mC (.int 3)) Q5))) Q5))))) Q5)))) (nG L (qV xs rs ks) P (zo (.ref S.length)) (zo (.ref (S.length + 1))) (zo w) (zo (.int xs.length)) zl zl zl zl zl zl) A=.nx (nG L (qV xs rs ks) P (zo (.ref S.length)) (zo (.ref (S.length + 1))) (zo w) (zo (.int xs.length)) zl b8 zl zl zl zl) Z/\Bnt xs S L ms sv Z (.ref S.length) (.ref (S.length + 1)):=by
 have x1:=Q.x1;have x4:=Q.x4;have r4:=Q.r4;obtain⟨t,A1,ht,U,e1⟩:=B.dig (rs.length + 2) (by omega) (by omega);obtain⟨i,A2,hi,B2,e2⟩:=U.dig xs.length x1 (by omega);obtain⟨j,A3,hj,B3,e3⟩:=B2.dig xs.length x1 (by omega);obtain⟨c,A4,hc,O,e4⟩:=B3.dig 3 (by decide) (by decide);obtain⟨m,Y⟩:∃ m:Mv4,m=⟨(t:Int) - 1,i,j,c⟩:=⟨_,rfl⟩;have I:=qp O.m (by rw[O0];omega) (mvV m);have bd:=O.d;have bl:=O.l;refine⟨A4.set S.length (.lst (ms.map mvV ++ [mvV m])),zo (.int ((t:Int) - 1)),Q8 (Qk (Q7 (Qq (n:=2) (Q3 rfl (Q3 (Q7 (Jz (Q3 (Q7 rfl rfl rfl) rfl) (by rw[Wa,O0])) rfl (qx _ _ _)) rfl)) rfl e1) rfl (Qk0 _ _ _))) (K7 rfl (Jg U.m) (Q3 (J8 (Q3 rfl (Q3 (Qq (n:=2) (Q3 rfl (Q3 rfl rfl)) rfl e2) (Q3 (Qq (n:=2) (Q3 rfl (Q3 rfl rfl)) rfl e3) (Q3 (Qq (n:=2) (Q3 rfl (Q3 rfl rfl)) rfl e4) rfl)))) (D9 rfl)) rfl) (by rw[Y]at I ⊢;exact I)),ms ++ [m],sv,.inr ⟨_,rfl,?_⟩,.inr ⟨_,rfl,?_⟩,λx J=>?_,?_,by omega,?_,?_⟩
 ·rw[D5 (by omega),E7];rfl
 ·rw[O8 (by omega)];exact O.v
 ·rcases D4.mp J with J | J
  ·exact hM x J
  ·have:x=m:=by simpa using J
   rw[this,Y];exact⟨⟨by show(0:Int)<=(i:Int);omega,by show(i:Int) < _;omega⟩,by show(0:Int)<=(j:Int);omega,by show(j:Int) < _;omega⟩
 ·rw[O5];show ms.length + 1<=_;omega
 ·exact O.T.of (O8 (by omega))
 ·exact⟨by rw[E9];exact O.g.len,λx J hn=>by rw[O8 (by omega)];exact O.g.keep x J hn⟩
theorem Qz2 (Q:Qok xs rs ks) (hM:∀ m∈ms,InN xs.length m) (a1:ms.length<=2000) (a2:sv.length<=100) {P:PV} (B:BS S L ms sv A) (U:sv≠[]) (w:PV) :
  ∃ A' b7,(Qb (Qm 7 (Qd 2 Q9 (Q0 (Q2 0) (Q0 (Qi Z0 (Q0 (Q2 4) Q5)) Q5))))
  (U5 (Q2 4) (Q2 7) (mOp Jj (mOp oIx (Q2 4) (Q2 7)) (mOp oIx (Z1 (Q0 (mC (.int 1)) (Q0 (Q8t (mC (.int 1))) (Q0 (mC (.int 2)) (Q0 (Q8t (mC (.int 3))) Q5))))) (Qd 2 Q9 (Q0 (Q2 0) (Q0 (mC (.int 4)) Q5))))))) (nG L (qV xs rs ks) P (zo (.ref S.length)) (zo (.ref (S.length + 1))) (zo w) (zo (.int xs.length)) zl zl zl zl zl zl) A=.nx (nG L (qV xs rs ks) P (zo (.ref S.length)) (zo (.ref (S.length + 1))) (zo w) (zo (.int xs.length)) b7 zl zl zl zl zl) A'/\Bnt xs S L ms sv A' (.ref S.length) (.ref (S.length + 1)):=by
 have l1:1<=sv.length:=dI.mpr U;obtain⟨k,A1,Y,Z,e1⟩:=B.dig sv.length l1 (by omega);obtain⟨d,O,hd,I,e2⟩:=Z.dig 4 (by decide) (by decide);have J:oIx O (.lst (([1,-1,2,-3]:List Int).map .int)) (.int (d:Int))=.ok (.int (([1,-1,2,-3]:List Int).getD d 0)) O:=by
  show okO O (atI (([1,-1,2,-3]:List Int).map PV.int) (d:Int))=_;rw[Wq PV.int 0 _ hd];rfl
 have bd:=I.d;have bl:=I.l;refine⟨O.set (S.length + 1) (.lst ((sv.set k (sv.getD k 0 + ([1,-1,2,-3]:List Int).getD d 0)).map .int)),zo (.int (k:Int)),Q8 (Qk (Qq (n:=2) (Q3 rfl (Q3 (Jz (Q3 rfl rfl) (Qcm B.v)) rfl)) rfl e1)) (j4 (Q7 (Q7 rfl rfl (yq Z.v Y)) (Q7 (Yv (Q3 rfl (Q3 rfl (Q3 rfl (Q3 rfl rfl)))) (D9 rfl)) (Qq (n:=2) (Q3 rfl (Q3 rfl rfl)) rfl e2) J) (qx _ _ _)) rfl rfl (xn I.v Y _)),ms,_,.inr ⟨_,rfl,?_⟩,.inr ⟨_,rfl,D5 (by omega)⟩,hM,by omega,?_,?_,?_⟩
 ·rw[O8 (by omega)];exact I.m
 ·rw[E9];omega
 ·exact I.T.of (O8 (by omega))
 ·exact⟨by rw[E9];exact I.g.len,λx hx hn=>by rw[O8 (by omega)];exact I.g.keep x hx hn⟩
theorem Qz1 (Q:Qok xs rs ks) (hM:∀ m∈ms,InN xs.length m) (a3:ms.length<=2000) (a4:sv.length<=100) {P:PV} (B:BS S L ms sv A) (w:PV) :
  ∃ A' Vs,(Qb (Qm 4 (mOp oIx (Z1 (Q0 (mOp Jj (Q2 4) (Z1 (Q0 (mC (.int 0)) Q5))) (Q0 (mSl (Q2 4) (W2 (mC (.int 1))) Jy) (Q0 (Q2 4) Q5)))) (Qd 2 Q9 (Q0 (Q2 0) (Q0 (mC (.int 3)) Q5)))))
  (Yx (mBM X4 (Q2 3) Q5))) (nG L (qV xs rs ks) P (zo (.ref S.length)) (zo (.ref (S.length + 1))) (zo w) (zo (.int xs.length)) zl zl zl zl zl zl) A=.nx (nG L (qV xs rs ks) P (zo (.ref S.length)) (zo Vs) (zo w) (zo (.int xs.length)) zl zl zl zl zl zl) A'/\Bnt xs S L ms sv A' (.ref S.length) Vs:=by
 obtain⟨d,J,hd,O,e1⟩:=B.dig 3 (by decide) (by decide);have bd:=O.d;have bl:=O.l;have U:Jj A (.ref (S.length + 1)) (.lst [.int 0])=.ok (.lst ((sv ++ [0]).map .int)) A:=by
  rw[Qtb (.inr ⟨_,rfl,B.v⟩) (.inl rfl) (by rw[O0];show _ + 1<=_;omega),E7];rfl
 obtain⟨Vs,Z⟩:∃ Vs,[PV.lst ((sv ++ [0]).map .int),.lst ((sv.map PV.int).drop 1),.ref (S.length + 1)].getD d .non=Vs:=⟨_,rfl⟩;have a1:oIx J (.lst [PV.lst ((sv ++ [0]).map .int),.lst ((sv.map PV.int).drop 1),.ref (S.length + 1)]) (.int (d:Int))=.ok Vs J:=by
  have:=Wq id PV.non [PV.lst ((sv ++ [0]).map .int),.lst ((sv.map PV.int).drop 1),.ref (S.length + 1)] (k:=d) hd;rw[iF]at this;show okO J (atI _ (d:Int))=_;rw[this,Z];rfl
 have Y:X4 J (.ref S.length) []=.ok .non (J.set S.length (.lst (ms.map mvV).reverse)):=by
  show(match J[S.length]? with | some (.lst xs)=>(match (zo (PV.non,xs.reverse):Option (PV × List PV))with | some (r,ys)=>Res.ok r (J.set S.length (.lst ys)) | none=>.stuck) | _=>.stuck)=_
  rw[O.m]
 have a2:∃ I:List Int,LA (J.set S.length (.lst (ms.map mvV).reverse)) Vs (I.map .int)/\I.length<=sv.length + 1:=by
  rw[<- Z]
  match d,hd with
  | 0,_=>exact⟨sv ++ [0],.inl rfl,by rw[O5];exact O9 _⟩
  | 1,_=>exact⟨sv.drop 1,.inl (by rw[fM];rfl),by rw[cb];omega⟩
  | 2,_=>exact⟨sv,.inr ⟨_,rfl,by rw[O8 (by omega)];exact O.v⟩,by omega⟩
 obtain⟨I,h1,h2⟩:=a2;refine⟨J.set S.length (.lst (ms.map mvV).reverse),Vs,Q8 (Qk (Q7 (Yv (Q3 (Q7 rfl (Yv (Q3 rfl rfl) (D9 rfl)) U) (Q3 (Qbu B.v (k:=1) rfl rfl) (Q3 rfl rfl))) (D9 rfl)) (Qq (n:=2) (Q3 rfl (Q3 rfl rfl)) rfl e1) a1)) (K7 rfl (Jg O.m) rfl Y),ms.reverse,I,.inr ⟨_,rfl,?_⟩,h1,λx hx=>hM x (List.mem_reverse.mp hx),by rw[gG];omega,h2,?_,?_⟩
 ·rw[D5 (by omega),List.map_reverse]
 ·exact O.T.of (O8 (by omega))
 ·exact⟨by rw[E9];exact O.g.len,λx hx hn=>by rw[O8 (by omega)];exact O.g.keep x hx hn⟩
theorem Qnb(Q:Qok xs rs ks)(hM:∀ m∈ms,InN xs.length m)(U:ms.length<=2000)(Y:sv.length<=100)(T:Tp S L)(b2:LA S Vm (ms.map mvV))(b5:LA S Vs (sv.map .int)):∃ S' Z J,X2 [.ref L,qV xs rs ks,.tup [Vm,Vs]] S=.ok (.tup [Z,J]) S'/\Bnt xs S L ms sv S' Z J:=by
 have hL:=T.lt;obtain⟨c,hc⟩:=T;have sq:∀ {V:PV} {l:List PV} (T:Q1),LA S V l->Yf (S ++ T) V=zo l:=λ{V l} T h=>by
  rcases h with rfl | ⟨i,rfl,e⟩
  ·rfl
  ·exact Jg (show(S ++ T)[i]?=_ by rw[O3 (O1.mp e).1];exact e)
 have B0:BS S L ms sv (S ++ [.lst (ms.map mvV),.lst (sv.map .int)]):=⟨⟨c,by rw[O3 hL];exact hc⟩,Q8q _ _ _,Qn0 _ _ _,Gw.add _ _ _,by rw[O5];rfl,hL⟩;obtain⟨w,A,hw,B,e⟩:=B0.dig 8 (by decide) (by decide);have s1:Qm 3 (Y4 (W3 (mOp oIx (Q2 2) (mC (.int 0))))) (nG L (qV xs rs ks) (.tup [Vm,Vs]) zl zl zl zl zl zl zl zl zl zl) S=.nx (nG L (qV xs rs ks) (.tup [Vm,Vs]) (zo (.ref S.length)) zl zl zl zl zl zl zl zl zl) (S ++ [.lst (ms.map mvV)]):=Qk (W1 (jf (Q7 rfl rfl rfl) (by have:=sq [] b2;rwa [G6]at this)));have s2:Qm 4 (Y4 (W3 (mOp oIx (Q2 2) (mC (.int 1))))) (nG L (qV xs rs ks) (.tup [Vm,Vs]) (zo (.ref S.length)) zl zl zl zl zl zl zl zl zl) (S ++ [.lst (ms.map mvV)])=.nx (nG L (qV xs rs ks) (.tup [Vm,Vs]) (zo (.ref S.length)) (zo (.ref (S.length + 1))) zl zl zl zl zl zl zl zl) (S ++ [.lst (ms.map mvV),.lst (sv.map .int)]):=by
  refine(Qk (W1 (jf (Q7 rfl rfl rfl) (sq _ b5)))).trans ?_;rw[O5,M0];rfl
 have s3:Qm 5 (Qd 2 Q9 (Q0 (Q2 0) (Q0 (mC (.int 8)) Q5))) (nG L (qV xs rs ks) (.tup [Vm,Vs]) (zo (.ref S.length)) (zo (.ref (S.length + 1))) zl zl zl zl zl zl zl zl) (S ++ [.lst (ms.map mvV),.lst (sv.map .int)])=.nx (nG L (qV xs rs ks) (.tup [Vm,Vs]) (zo (.ref S.length)) (zo (.ref (S.length + 1))) (zo (.int (w:Int))) zl zl zl zl zl zl zl) A:=Qk (Qq (n:=2) (Q3 rfl (Q3 rfl rfl)) rfl e);have s4:Qm 6 (Qi Z0 (Q0 (mOp oIx (Q2 1) (mC (.int 0))) Q5)) (nG L (qV xs rs ks) (.tup [Vm,Vs]) (zo (.ref S.length)) (zo (.ref (S.length + 1))) (zo (.int (w:Int))) zl zl zl zl zl zl zl) A=.nx (nG L (qV xs rs ks) (.tup [Vm,Vs]) (zo (.ref S.length)) (zo (.ref (S.length + 1))) (zo (.int (w:Int))) (zo (.int xs.length)) zl zl zl zl zl zl) A:=Qk (Jz (Q3 (Q7 rfl rfl rfl) rfl) (by rw[Wa,O0]));have done:∀ {a2:Gam} {I:Q1} {Z J:PV} {st:MS},st (nG L (qV xs rs ks) (.tup [Vm,Vs]) (zo (.ref S.length)) (zo (.ref (S.length + 1))) (zo (.int (w:Int))) (zo (.int xs.length)) zl zl zl zl zl zl) A=.nx a2 I->Je (Q0 (Q2 3) (Q0 (Q2 4) Q5)) a2 I=.ok (.tup [Z,J]) I->(Qb (Qm 3 (Y4 (W3 (mOp oIx (Q2 2) (mC (.int 0)))))) (Qb (Qm 4 (Y4 (W3 (mOp oIx (Q2 2) (mC (.int 1)))))) (Qb (Qm 5 (Qd 2 Q9 (Q0 (Q2 0) (Q0 (mC (.int 8)) Q5)))) (Qb (Qm 6 (Qi Z0 (Q0 (mOp oIx (Q2 1) (mC (.int 0))) Q5))) (Qb st (J9 (Je (Q0 (Q2 3) (Q0 (Q2 4) Q5))))))))) (nG L (qV xs rs ks) (.tup [Vm,Vs]) zl zl zl zl zl zl zl zl zl zl) S=.rt (.tup [Z,J]) I:=λh1 h2=>Q8 s1 (Q8 s2 (Q8 s3 (Q8 s4 (Q8 h1 (Ja h2)))))
 have b4:=Q08 A w 3;have O:=Qz (Q7 (o:=oLt) (a:=Q2 5) (b:=mC (.int 3)) (Γ:=nG L (qV xs rs ks) (.tup [Vm,Vs]) (zo (.ref S.length)) (zo (.ref (S.length + 1))) (zo (.int (w:Int))) (zo (.int xs.length)) zl zl zl zl zl zl) rfl rfl b4);have c2:=Qz (Q7 (o:=oNe) (a:=Q2 3) (b:=Z1 Q5) (Γ:=nG L (qV xs rs ks) (.tup [Vm,Vs]) (zo (.ref S.length)) (zo (.ref (S.length + 1))) (zo (.int (w:Int))) (zo (.int xs.length)) zl zl zl zl zl zl) rfl (Yv rfl) (Qcc B.m (by simp[J0,dep,mvV,qv])));have c3:=Qz (Q7 (o:=oEq) (a:=Q2 5) (b:=mC (.int 3)) (Γ:=nG L (qV xs rs ks) (.tup [Vm,Vs]) (zo (.ref S.length)) (zo (.ref (S.length + 1))) (zo (.int (w:Int))) (zo (.int xs.length)) zl zl zl zl zl zl) rfl rfl (Qcz A w 3));have c4:=Qz (Q7 (o:=oLt) (a:=Q2 5) (b:=mC (.int 7)) (Γ:=nG L (qV xs rs ks) (.tup [Vm,Vs]) (zo (.ref S.length)) (zo (.ref (S.length + 1))) (zo (.int (w:Int))) (zo (.int xs.length)) zl zl zl zl zl zl) rfl rfl (Q08 A w 7))
 have c5:=Qz (Q7 (o:=oNe) (a:=Q2 4) (b:=Z1 Q5) (Γ:=nG L (qV xs rs ks) (.tup [Vm,Vs]) (zo (.ref S.length)) (zo (.ref (S.length + 1))) (zo (.int (w:Int))) (zo (.int xs.length)) zl zl zl zl zl zl) rfl (Yv rfl) (Qcc B.v (by simp[J0,dep])));have tb:∀ (a3 a4 a5 a6 a7 a8 a9 b0 b1 b3:Option PV) (x y:PV) (I:Q1),Je (Q0 (Q2 3) (Q0 (Q2 4) Q5)) (nG L (qV xs rs ks) (.tup [Vm,Vs]) (zo x) (zo y) a5 a6 a7 a8 a9 b0 b1 b3) I=.ok (.tup [x,y]) I:=λ_ _ _ _ _ _ _ _ _ _ x y I=>J8 (Q3 rfl (Q3 rfl rfl)) (D9 rfl)
 by_cases p:(w:Int) < 3
 ·rw[bR p]at O
  by_cases q:ms=[]
  ·have:(!(ms.map mvV).isEmpty)=zb:=by rw[q];rfl
   rw[this]at c2;obtain⟨I,b8,e1,R⟩:=Qws Q hM U Y B (P:=.tup [Vm,Vs]) (.int (w:Int));have p3:¬ w=3:=by omega
   rw[bQ p3]at c3;exact⟨I,_,_,W9 (done (Y0 (Q0n O c2) (Vr (Q3b c3 O) e1)) (tb zl zl _ _ _ _ _ _ _ _ _ _ I)),R⟩
  ·have:(!(ms.map mvV).isEmpty)=zi:=by cases ms with
    | nil=>exact absurd rfl q
    | cons _ _=>rfl
   rw[this]at c2;obtain⟨I,b7,b8,b9,b6,c7,c6,M',e1,R⟩:=Qz3 Q hM U Y B q (P:=.tup [Vm,Vs]) (.int (w:Int));exact⟨I,_,_,W9 (done (Vr (Q0n O c2) e1) (tb zl zl _ _ _ _ _ _ _ _ _ _ I)),R⟩
 ·rw[bQ p]at O
  by_cases p3:w=3
  ·rw[bR p3]at c3;obtain⟨I,b8,e1,R⟩:=Qws Q hM U Y B (P:=.tup [Vm,Vs]) (.int (w:Int));exact⟨I,_,_,W9 (done (Y0 (Q1s O) (Vr (Qma c3) e1)) (tb zl zl _ _ _ _ _ _ _ _ _ _ I)),R⟩
  ·rw[bQ p3]at c3;have a1:∀ {t:MT} {s0:MS},t (nG L (qV xs rs ks) (.tup [Vm,Vs]) (zo (.ref S.length)) (zo (.ref (S.length + 1))) (zo (.int (w:Int))) (zo (.int xs.length)) zl zl zl zl zl zl) A=.ok zb A->∃ I J,(Z5 t s0 (Qb (Qm 4 (mOp oIx (Z1 (Q0 (mOp Jj (Q2 4) (Z1 (Q0 (mC (.int 0)) Q5))) (Q0 (mSl (Q2 4) (W2 (mC (.int 1))) Jy) (Q0 (Q2 4) Q5)))) (Qd 2 Q9 (Q0 (Q2 0) (Q0 (mC (.int 3)) Q5))))) (Yx (mBM X4 (Q2 3) Q5)))) (nG L (qV xs rs ks) (.tup [Vm,Vs]) (zo (.ref S.length)) (zo (.ref (S.length + 1))) (zo (.int (w:Int))) (zo (.int xs.length)) zl zl zl zl zl zl) A=.nx (nG L (qV xs rs ks) (.tup [Vm,Vs]) (zo (.ref S.length)) (zo J) (zo (.int (w:Int))) (zo (.int xs.length)) zl zl zl zl zl zl) I/\Bnt xs S L ms sv I (.ref S.length) J:=λh=>by
    obtain⟨I,J,e1,R⟩:=Qz1 Q hM U Y B (P:=.tup [Vm,Vs]) (.int (w:Int));exact⟨I,J,Y0 h e1,R⟩
   by_cases p7:(w:Int) < 7
   ·rw[bR p7]at c4
    by_cases q:sv=[]
    ·have:(!(sv.map PV.int).isEmpty)=zb:=by rw[q];rfl
     rw[this]at c5;obtain⟨I,J,e1,R⟩:=a1 (Q0n c4 c5);exact⟨I,_,_,W9 (done (Y0 (Q1s O) (Y0 (Q3b c3 O) e1)) (tb zl zl _ _ _ _ _ _ _ _ _ _ I)),R⟩
    ·have:(!(sv.map PV.int).isEmpty)=zi:=by cases sv with
      | nil=>exact absurd rfl q
      | cons _ _=>rfl
     rw[this]at c5;obtain⟨I,b7,e1,R⟩:=Qz2 Q hM U Y B q (P:=.tup [Vm,Vs]) (.int (w:Int));exact⟨I,_,_,W9 (done (Y0 (Q1s O) (Y0 (Q3b c3 O) (Vr (Q0n c4 c5) e1))) (tb zl zl _ _ _ _ _ _ _ _ _ _ I)),R⟩
   ·rw[bQ p7]at c4;obtain⟨I,J,e1,R⟩:=a1 (Q1s c4);exact⟨I,_,_,W9 (done (Y0 (Q1s O) (Y0 (Q3b c3 O) e1)) (tb zl zl _ _ _ _ _ _ _ _ _ _ I)),R⟩
abbrev wG(ns:List Int)(a1 a2 a3 a4 a5 a6 a7 a8 a9:Option PV):Gam:=[zo (.fro (ns.map .int)),a1,a2,a3,a4,a5,a6,a7,a8,a9]
theorem Qs6{V:PV}(h:LA S V l):Yf S V=zo l:=by
 rcases h with rfl | ⟨i,rfl,e⟩
 ·rfl
 ·exact Jg e
theorem Qcp{V:PV}(h:LA S V l):Xi S [V]=.ok (.lst l) S:=by
 show(match Yf S V with | some xs=>Res.ok (PV.lst xs) S | none=>.stuck)=_
 rw[Qs6 h]
theorem Qp9{V:PV}(h:LA S V l)(g:J0 12 (.lst l)=zi):fz 0 S 15 V=zo (.lst l):=by
 rcases h with rfl | ⟨i,rfl,e⟩
 ·exact Uc g (by decide)
 ·have:fz 0 S 15 (.ref i)=fz 0 S 15 (.lst l):=by simp only[fz,bP (show ¬ i < 0 by omega),e]
  rw[this];exact Uc g (by decide)
theorem Qmi{V W:PV}{a b:List PV}(O:LA S V a)(U:LA S W b)(I:J0 12 (.lst a)=zi)(J:J0 12 (.lst b)=zi)(B:J0 dep (.tup [.lst a,.lst b])=zi):Qea S (.tup [.lst a,.lst b]) (.tup [V,W])=.ok (.bl zb) S:=by
 have h1:fz 0 S 16 (.tup [V,W])=zo (.tup [.lst a,.lst b]):=by
  simp only[fz,fzL,Qp9 O I,Qp9 U J];rfl
 have h2:fz 0 S 16 (.tup [.lst a,.lst b])=zo (.tup [.lst a,.lst b]):=Uc B (by decide);unfold Qea;rw[h1,h2];show(if J0 dep (PV.tup [.lst a,.lst b])=zi/\J0 dep (PV.tup [.lst a,.lst b])=zi then Res.ok (PV.bl (!peq (.tup [.lst a,.lst b]) (.tup [.lst a,.lst b]))) S else .stuck)=_;rw[bO ⟨B,B⟩,xw B];rfl
theorem Qix (Q:Qok xs rs ks) {ns:List Int} {L:Nat} {a1 a4:Option PV} (Z:∀ m∈ms,InN xs.length m) (J:ms.length<=5000) (Y:sv.length<=1000) (B:LA S Vm (ms.map mvV)) (I:LA S Vs (sv.map .int)) (U O a8 a9:Option PV) :
  ∃ b8 b9,(Qb (Qm 8 (Je (Q0 (Qi Xi (Q0 (mOp oIx (Q2 7) (mC (.int 0))) Q5)) (Q0 (Qi Xi (Q0 (mOp oIx (Q2 7) (mC (.int 1))) Q5)) Q5))))
  (Qb (Qm 9 (Qd 2 X8 (Q0 (Q2 3) (Q0 (Q2 8) Q5))))
  (Qb (Z5 (xg (V7 (toB (Q4v "bool" (Q2 9)))) (toB (mOp Qea (Q2 8) (Je (Q0 (mOp oIx (Q2 7) (mC (.int 0))) (Q0 (mOp oIx (Q2 7) (mC (.int 1))) Q5)))))) (J9 (mC (.bl zb))) Jf)
  (Z5 (toB (mOp oNe (Q2 9) (Qd 3 Jc (Q0 (Q2 3) (Q0 (mOp oIx (Q2 7) (mC (.int 0))) (Q0 (mOp oIx (Q2 7) (mC (.int 1))) Q5)))))) (J9 (mC (.bl zb))) Jf)))) (wG ns a1 (zo (.ref L)) (zo (qV xs rs ks)) a4 U O (zo (.tup [Vm,Vs])) a8 a9) S=.nx (wG ns a1 (zo (.ref L)) (zo (qV xs rs ks)) a4 U O (zo (.tup [Vm,Vs])) b8 b9) S:=by
 have e1:=Qem Q Z J (sv:=sv) S;have e2:=Qn1 Q Z J Y B I;rw[Qe2 Q Z sv]at e1;have gm:∀ n,J0 (n + 2) (.lst (ms.map mvV))=zi:=λn=>by simp[J0,mvV,qv]
 have gs:∀ n,J0 (n + 1) (.lst (sv.map PV.int))=zi:=λn=>by simp[J0]
 have a2:=Qmi B I (gm 10) (gs 11) (by simp[J0,dep,mvV,qv]);have c1:V7 (toB (Q4v "bool" (Q2 9))) (wG ns a1 (zo (.ref L)) (zo (qV xs rs ks)) a4 U O (zo (.tup [Vm,Vs])) (zo (.tup [.lst (ms.map mvV),.lst (sv.map .int)])) (zo (.bl (Q3y xs rs ks ms sv)))) S=.ok zb S:=Q3h (b:=zi) (Qz rfl);refine⟨_,_,Q8 (Qk (J8 (Q3 (Jz (Q3 (Q7 rfl rfl rfl) rfl) (Qcp B)) (Q3 (Jz (Q3 (Q7 rfl rfl rfl) rfl) (Qcp I)) rfl)) (D9 rfl))) (Q8 (Qk (Qq (n:=2) (Q3 rfl (Q3 rfl rfl)) rfl e1)) (Q8 (Y0 (Q3b c1 (Qz (Q7 rfl (J8 (Q3 (Q7 rfl rfl rfl) (Q3 (Q7 rfl rfl rfl) rfl)) (D9 rfl)) a2))) rfl) (Y0 (Qz (Q7 rfl (Qq (n:=3) (Q3 rfl (Q3 (Q7 rfl rfl rfl) (Q3 (Q7 rfl rfl rfl) rfl))) rfl e2) ((Qrs S _ _).trans (by rw[show(Q3y xs rs ks ms sv == Q3y xs rs ks ms sv)=zi by simp];rfl)))) rfl)))⟩
theorem Qjw (Q:Qok xs rs ks) {ns:List Int} {a1 a4:Option PV} (T:Tp S L) (hM:∀ m∈ms,InN xs.length m) (a2:ms.length<=1000) (Y:sv.length<=100) (I:LA S Vm (ms.map mvV)) (O:LA S Vs (sv.map .int)) (t:Nat) (a7 a8 Z:Option PV) :
  ∃ U b7 J B,Q2f (wG ns a1 (zo (.ref L)) (zo (qV xs rs ks)) a4 (zo (.tup [Vm,Vs])) (zo (.int (t:Int))) a7 a8 Z) S=.nx (wG ns a1 (zo (.ref L)) (zo (qV xs rs ks)) a4 (zo (.tup [Vm,Vs])) (zo (.int (t:Int))) b7 J B) U/\Tp U L/\Gw (λx=>x=L) S U:=by
 by_cases p:0 < (t:Int)
 ·obtain⟨U,a3,a6,e,a5,b0,h1,h2,h3,h4,h5,h6,h7⟩:=Qnb Q hM (by omega) Y T I O;obtain⟨J,B,ec⟩:=Qix Q (ns:=ns) (L:=L) (a1:=a1) (a4:=a4) h3 (by omega) (by omega) h1 h2 (zo (.tup [Vm,Vs])) (zo (.int (t:Int))) a8 Z;exact⟨U,_,J,B,Q8 (Qk rfl) (Q8 (Vr (Qz (Q7 rfl rfl (Qp7 S p))) (Qk (Qq (n:=3) (Q3 rfl (Q3 rfl (Q3 rfl rfl))) rfl e))) ec),h6,h7⟩
 ·obtain⟨J,B,ec⟩:=Qix Q (ns:=ns) (L:=L) (a1:=a1) (a4:=a4) hM (by omega) (by omega) I O (zo (.tup [Vm,Vs])) (zo (.int (t:Int))) a8 Z;exact⟨S,_,J,B,Q8 (Qk rfl) (Q8 (Y0 (Qz (Q7 rfl rfl (Qp8 S p))) rfl) ec),T,Gw.refl _ _⟩
theorem Q7q (Q:Qok xs rs ks) {ns:List Int} {a1 a4:Option PV} (T:Tp S L) (hM:∀ m∈ms,InN xs.length m) (Y:ms.length<=1000) (Z:sv.length<=100) (a2:LA S Vm (ms.map mvV)) (a5:LA S Vs (sv.map .int)) (nm:∀ i,Vm=.ref i->¬ i=L) (nv:∀ i,Vs=.ref i->¬ i=L) (a6 a7 a8 a9:Option PV) :
  ∃ U O B J I,Q2g (wG ns a1 (zo (.ref L)) (zo (qV xs rs ks)) a4 (zo (.tup [Vm,Vs])) a6 a7 a8 a9) S=.nx (wG ns a1 (zo (.ref L)) (zo (qV xs rs ks)) a4 (zo (.tup [Vm,Vs])) O B J I) U/\Tp U L/\Gw (λx=>x=L) S U:=by
 obtain⟨b0,U,e,O,B,J,I,rfl,T',g⟩:=W6 (g:=λk:Nat=>PV.int (k:Int)) (xs:=bT 4) (ga:=Q4 6) (body:=Q2f) (w:=[]) (Γ:=wG ns a1 (zo (.ref L)) (zo (qV xs rs ks)) a4 (zo (.tup [Vm,Vs])) a6 a7 a8 a9) (st:=S)
  (λ_ Γ st=>∃ O B J I,Γ=wG ns a1 (zo (.ref L)) (zo (qV xs rs ks)) a4 (zo (.tup [Vm,Vs])) O B J I/\Tp st L/\Gw (λx=>x=L) S st)
  (λ_ _ _ _=>Qs _)
  (λi t Γ st _ ⟨O,B,J,I,a3,T,g⟩=>by
   subst a3;obtain⟨S2,c7,c8,c9,e,T2,g2⟩:=Qjw Q (ns:=ns) (a1:=a1) (a4:=a4) T hM Y Z (Q8y a2 g nm) (Q8y a5 g nv) t B J I;exact⟨_,rfl,_,_,e,_,c7,c8,c9,rfl,T2,g.trans g2⟩)
  ⟨_,_,_,_,rfl,T,Gw.refl _ _⟩
 rw[<- Vc]at e;exact⟨U,O,B,J,I,Ju (Q56 (n:=4) (by decide) rfl) e,T',g⟩
theorem Qk9(ns:List Int)(k:Nat)(S:Q1)(a2 a3 a4 a5 J a7 a8 a9:Option PV):∃ b2 b3 b4 b5 U O b8 Y S',Q2h (wG ns (zo (.int (k:Int))) a2 a3 a4 a5 J a7 a8 a9) S=.nx (wG ns (zo (.int (k:Int))) b2 b3 b4 b5 U O b8 Y) S':=by
 obtain⟨c,e1⟩:=Q9j ns k S;have T1:Tp (S ++ [.lst [.int c]]) S.length:=⟨c,Xe _ _⟩;obtain⟨xs,rs,ks,S2,Q,T2,e2⟩:=Qgk T1;have k5:=Q.k5;obtain⟨I,ls,F,e3,h1,h2,_⟩:=Qna Q (λ_ _ _=>True) trivial (λ_ _ _ _ _ _ _ _ _ _ _ _ _ _ _ _=>trivial) (λ_ _ _ _ _ _ _ _ _ _ _ _=>trivial) S2;obtain⟨m1,m2⟩:=Qrw Q ls;obtain⟨c',e4⟩:=Q9j ns (k + 1) S2;have T4:Tp (S2 ++ [.lst [.int c']]) S2.length:=⟨c',Xe _ _⟩;obtain⟨S5,ms,sv,M,V,e5,q1,q2,q3,q4,q5,_,g5,q6,q7⟩:=Qiq Q T4;have hL:=T2.lt;rw[O5]at q6 q7;have T5:Tp S5 S.length:=by
  obtain⟨x,hx⟩:=T2;exact⟨x,g5.at (by rw[O3 hL];exact hx) (by show ¬ S.length=S2.length;omega)⟩
 obtain⟨B,ht⟩:∃ B,PV.tup [.lst ((mvs (wsQ xs rs) ls).map mvV),.lst (I.map .int)]=B:=⟨_,rfl⟩;obtain⟨S6,U,O,b8,Y,e6,T6,g6⟩:=Q7q Q (ns:=ns) (L:=S.length) (a1:=zo (.int (k:Int))) (a4:=zo B) T5 m1 (by omega) (sv:=I) (by omega) (.inl rfl) (.inl rfl) (λi z=>by cases z) (λi z=>by cases z) J a7 a8 a9;obtain⟨S7,d6,d7,d8,d9,e7,T7,g7⟩:=Q7q Q (ns:=ns) (L:=S.length) (a1:=zo (.int (k:Int))) (a4:=zo B) T6 q3 q4 (sv:=sv) (by omega) (Q8y (.inr ⟨M,rfl,q1⟩) g6 (λi z=>by cases z;omega)) (Q8y (.inr ⟨V,rfl,q2⟩) g6 (λi z=>by cases z;omega)) (λi z=>by cases z;omega) (λi z=>by cases z;omega) U O b8 Y;rw[ht]at e6;have Z:Jj S2 (.int (k:Int)) (.int 1)=.ok (.int ((k + 1:Nat):Int)) S2:=by rw[qx];rfl
 have f:Jt (Q4 5) Q2g [] [B,.tup [.ref M,.ref V]] (wG ns (zo (.int (k:Int))) (zo (.ref S.length)) (zo (qV xs rs ks)) (zo B) a5 J a7 a8 a9) S5=.nx (wG ns (zo (.int (k:Int))) (zo (.ref S.length)) (zo (qV xs rs ks)) (zo B) (zo (.tup [.ref M,.ref V])) d6 d7 d8 d9) S7:=Y7 (Qs _) rfl e6 (Y7 (Qs _) rfl e7 (Wv (Qs _)));refine⟨_,_,_,_,_,_,_,_,S7,Q8 (Qk (Qq (n:=2) (Q3 rfl (Q3 rfl rfl)) rfl e1)) (Q8 (Qk (Qq (n:=2) (Q3 rfl (Q3 rfl rfl)) rfl e2)) (Q8 (Qk (Q7 (Qq (n:=1) (Q3 rfl rfl) rfl e3) rfl (by rw[<- ht];rfl))) (Ju (Ug (Yv (Q3 rfl (Q3 (Qq (n:=2) (Q3 (Qq (n:=2) (Q3 rfl (Q3 (Q7 rfl rfl Z) rfl)) rfl e4) (Q3 rfl rfl)) rfl e5) rfl)) (D9 rfl)) rfl (D9 rfl)) f)))⟩
theorem Qhw(ns:List Int):Qd8 [.fro (ns.map .int)] []=.ok (.bl zi) []:=by
 obtain⟨j,a2,a4,a1⟩:∃ j:Int,1<=j/\j<=12/\Qi Qf4 (Q0 (mC (.int 1)) (Q0 (Qi jt (Q0 (mC (.int 12)) (Q0 (Qi Z0 (Q0 (Q2 0) Q5)) Q5))) Q5)) (wG ns zl zl zl zl zl zl zl zl zl) []=.ok (.int j) []:=by
  refine⟨if(if(ns.length:Int) < 12 then(ns.length:Int)else 12) > 1 then(if(ns.length:Int) < 12 then(ns.length:Int)else 12)else 1,by split <;> omega,by split <;> (try split) <;> omega,?_⟩;exact Jz (Q3 rfl (Q3 (Jz (Q3 rfl (Q3 (Jz (Q3 rfl rfl) (by rw[Qj6,O0])) rfl)) (Q0j _ _ _)) rfl)) (Qj3 _ _ _)
 obtain⟨m,hm⟩:∃ m,rsz 0 j 2=m:=⟨_,rfl⟩;obtain⟨a3,S1,e1,c1,J,U,Z,I,c6,B,Y,O,rfl⟩:=W6 (g:=λk:Nat=>PV.int (0 + (k:Int) * 2)) (xs:=bT m) (ga:=Q4 1) (body:=Q2h) (w:=[]) (Γ:=wG ns zl zl zl zl zl zl zl zl zl) (st:=[])
  (λ_ Γ st'=>∃ c1 J U Z I c6 B Y O,Γ=wG ns c1 J U Z I c6 B Y O)
  (λ_ _ _ _=>Qs _)
  (λi k Γ st' _ ⟨c1,J,U,Z,I,c6,B,Y,O,g1⟩=>by
   subst g1;obtain⟨d2,d3,d4,d5,d6,d7,d8,d9,S2,h⟩:=Qk9 ns (2 * k) st' J U Z I c6 B Y O;rw[show((2 * k:Nat):Int)=0 + (k:Int) * 2 by omega]at h;exact⟨_,rfl,_,S2,h,_,_,_,_,_,_,_,_,_,rfl⟩)
  ⟨_,_,_,_,_,_,_,_,_,rfl⟩
 have hr:Q06 (Q0 (mC (.int 0)) (Q0 (Qi Qf4 (Q0 (mC (.int 1)) (Q0 (Qi jt (Q0 (mC (.int 12)) (Q0 (Qi Z0 (Q0 (Q2 0) Q5)) Q5))) Q5))) (Q0 (mC (.int 2)) Q5))) (wG ns zl zl zl zl zl zl zl zl zl) []=.ok (K0 0 2 m,[]) []:=by
  unfold Q06;rw[Q3 (p:=.int 0) rfl (Q3 a1 (Q3 (p:=.int 2) rfl (show Q5 _ _=.ok [] _ from rfl))),Qp];show(if(2:Int)≠0/\-1000000<=(0:Int)/\(0:Int)<=1000000/\-1000000<=j/\j<=1000000/\-1000000<=(2:Int)/\(2:Int)<=1000000 then Res.ok (K0 0 2 (rsz 0 j 2),[]) []else .stuck)=_;rw[bO (by omega),hm]
 have step:Qcf (wG ns zl zl zl zl zl zl zl zl zl) []=.rt (.bl zi) S1:=Q8 (Ju hr e1) (Ja rfl);exact(J7 (m:=Qcf) (nl:=10) (ps:=[.fro (ns.map .int)]) step).trans (by have:=Q78 (S:=[]) (T:=S1) (v:=.bl zi) rfl;rwa [dE]at this)
theorem Qmx:∀ ns:List Int,ns.length<=63->∃ st',Qd8 [.fro (ns.map .int)] []=.ok (.bl zi) st':=λns _=>⟨[],Qhw ns⟩
theorem all_mk {l:fA} {w:aJ} {h:Heap} {fa f1 f2 f3 f4 f5 f6 f7 f8 f9 q0 q7 u8 q6 r2 v1 s7 r9 u5 v5 v7 p9 s0 v8 t4 t8 t7 r8 u4 p4 r6 q4 s9 p1 q1 r1 r3 t6 r5 t9 p8 k0:aB} (X:K.In h) (G:h.Ns aS mg) (u9:mg "law" = zo (.ref fa))
  {m5 i4:Option aB} {n7:Array (Option aA)} {n3 i0 i5 i6 g5 i3:aA}
  {c8:aB}
  {a2:Tok}
  {a1:Tok}
  {b5:Tok}
  {b3:Tok}
  {g0:Tok}
  (o4:bZ K aS "law" = zo (zo (.ref k0)))
  (q3:K.lookup k0=zo ⟨n3,m5,.func (bc "law" "law" (Wf xr) (Ze xr) (Qe xr) .none i0 i5 i6 i4 g5 i3),n7⟩)
  (v0:cP K g5 "law" = zi)
  (s8:cC K (.ref k0)=zi)
  (j2:bZ K aS "all" = zo zl)
  (i8:bZ K aS "any" = zo zl)
  (g9:bZ K aS "bool" = zo zl)
  (c9:bZ K aS "enumerate" = zo zl)
  (i9:bZ K aS "int" = zo zl)
  (c4:bZ K aS "isinstance" = zo zl)
  (k6:bZ K aS "len" = zo zl)
  (g7:bZ K aS "list" = zo zl)
  (j1:bZ K aS "max" = zo zl)
  (k3:bZ K aS "min" = zo zl)
  (g4:bZ K aS "range" = zo zl)
  (g1:bZ K aS "sorted" = zo zl)
  (k4:bZ K aS "sum" = zo zl)
  (g6:bZ K aS "tuple" = zo zl)
  (i7:bZ K aS "zip" = zo zl)
  (Y:bZ K aS "MOST_HOUSES_OF_PLAN" = zo (zo (.int 6 a2)))
  (Z:bZ K aS "MOST_ROUNDS_OF_PLAN" = zo (zo (.int 10 a1)))
  (b4:bZ K aS "MOST_TAKINGS" = zo (zo (.int 20 b5)))
  (b2:bZ K aS "MOST_AT_ONCE" = zo (zo (.int 1000000 b3)))
  (e9:bZ K aS "SPRING" = zo (zo (.str "spring" g0)))
  (f0:bZ K aS "NoPlan" = zo (zo (.ref c8)))
  (h1:FA K "is_whole" y9 f1)
  (h2:FA K "is_between" Kw f2)
  (h3:FA K "is_rising" j8 f3)
  (h4:FA K "is_sized_tuple" Vv f4)
  (h5:FA K "is_road" Q0u f5)
  (h6:FA K "behind_round" Xc f6)
  (h7:FA K "is_start" yc f7)
  (h8:FA K "is_road_with_most" Wk f8)
  (h9:FA K "are_roads_of_one_round" Zy f9)
  (u0:FA K "are_roads_of_plan" Wm q0)
  (r7:FA K "is_place" yd q7)
  (s6:FA K "is_taking" j7 u8)
  (u3:FA K "are_takings" Xy q6)
  (s2:FA K "is_question" Xx r2)
  (u2:FA K "need_question" Uq v1)
  (s3:FA K "loads_of" y8 s7)
  (v3:FA K "most_by" Q0t r9)
  (u7:FA K "do_roads_bear" Ur u5)
  (v6:FA K "are_served" Kx v5)
  (s4:FA K "behind_takings" Vx v7)
  (o7:FA K "do_houses_have" Vw p9)
  (t3:FA K "is_plan" Q0v s0)
  (p7:FA K "ways_of" Q0q v8)
  (p6:FA K "ways_by_end" Xw t4)
  (o6:FA K "other_end" j6 t8)
  (o8:FA K "reached" Q0s t7)
  (s5:FA K "steps_back" Kv r8)
  (t5:FA K "room_by" Q0r u4)
  (r0:FA K "serve" Q6k p4)
  (q5:FA K "moves_by" y6 r6)
  (p0:FA K "all_served" Ky q4)
  (q8:FA K "best" Qa3 s9)
  (t0:FA K "_law_acell" q9 p1)
  (v2:FA K "_law_atape" Kz q1)
  (v4:FA K "_law_adigit" Xz r1)
  (u1:FA K "_law_ahow" j9 r3)
  (u6:FA K "_law_aquestion" Vy t6)
  (o9:FA K "_law_aplan_holds" V0 r5)
  (p3:FA K "_law_adrawn_plan" V2 t9)
  (p5:FA K "_law_abent" qa p8)
  (e7:cU K c8 Qjf "ValueError.__new__" = zi)
  (hL:noL K=zi) :
  ∃ fd:aO,(∀ (s:aD) (v:aA),BindsTo s fd ⟨[v],[]⟩ [("script",v)])/\∀ base:Heap,K.In base->base.Ns aS mg->FnOk l.prog w K mg base (CXD l.prog w) 10 fa fd ["script"] (Q6h K):=by
 have e:=u9.symm.trans (cB X G o4);cases e;have T:Txt mg:=⟨be X G j2,be X G i8,be X G g9,be X G c9,be X G i9,be X G c4,be X G k6,be X G g7,be X G j1,be X G k3,be X G g4,be X G g1,be X G k4,be X G g6,be X G i7,⟨_,cB X G Y⟩,⟨_,cB X G Z⟩,⟨_,cB X G b4⟩,⟨_,cB X G b2⟩,⟨_,cB X G e9⟩⟩;have e8:∃ C,mg "NoPlan" = zo (.ref C)/\cU K C Qjf "ValueError.__new__" = zi:=⟨_,cB X G f0,e7⟩;obtain⟨_,A1⟩:=Ye ["thing"] X G h1;obtain⟨_,A2⟩:=Ye ["thing", "least", "most"] X G h2
 obtain⟨_,A3⟩:=Ye ["things"] X G h3;obtain⟨_,A4⟩:=Ye ["thing", "least", "most"] X G h4;obtain⟨_,A5⟩:=Ye ["n", "thing"] X G h5;obtain⟨_,A6⟩:=Ye ["has", "moves"] X G h6;obtain⟨_,A7⟩:=Ye ["thing"] X G h7;obtain⟨_,A8⟩:=Ye ["n", "thing"] X G h8;obtain⟨_,A9⟩:=Ye ["n", "thing"] X G h9;obtain⟨_,k7⟩:=Ye ["n", "thing"] X G u0;obtain⟨_,k8⟩:=Ye ["n", "rounds", "house", "moment"] X G r7;obtain⟨_,n4⟩:=Ye ["n", "rounds", "thing"] X G s6;obtain⟨_,m0⟩:=Ye ["n", "rounds", "thing"] X G u3;obtain⟨_,l4⟩:=Ye ["thing"] X G s2;obtain⟨_,l8⟩:=Ye ["question"] X G u2;obtain⟨_,o3⟩:=Ye ["moves"] X G s3;obtain⟨_,n9⟩:=Ye ["roads", "number", "i", "j"] X G v3;obtain⟨_,n5⟩:=Ye ["roads", "moves"] X G u7;obtain⟨_,m8⟩:=Ye ["takings", "served"] X G v6;obtain⟨_,l0⟩:=Ye ["takings", "served", "has", "moment"] X G s4;obtain⟨_,m6⟩:=Ye ["question", "moves", "served"] X G o7;obtain⟨_,k9⟩:=Ye ["question", "plan"] X G t3
 obtain⟨_,o5⟩:=Ye ["question"] X G p7;obtain⟨_,l9⟩:=Ye ["ways"] X G p6;obtain⟨_,m7⟩:=Ye ["way", "load", "end"] X G o6;obtain⟨_,n0⟩:=Ye ["ways", "loads"] X G o8;obtain⟨_,l6⟩:=Ye ["ways", "found", "place"] X G s5;obtain⟨_,n2⟩:=Ye ["ways", "loads", "steps"] X G t5;obtain⟨_,m9⟩:=Ye ["ways", "loads", "taking"] X G r0;obtain⟨_,n6⟩:=Ye ["ways", "loads"] X G q5;obtain⟨_,l7⟩:=Ye ["question"] X G p0;obtain⟨_,m3⟩:=Ye ["question"] X G q8;obtain⟨_,l5⟩:=Ye ["script", "k"] X G t0;obtain⟨_,l3⟩:=Ye ["script", "k"] X G v2;obtain⟨_,o1⟩:=Ye ["tape", "many"] X G v4;obtain⟨_,m4⟩:=Ye ["tape", "few"] X G u1;obtain⟨_,o0⟩:=Ye ["tape", "most"] X G u6;obtain⟨_,o2⟩:=Ye ["question", "moves", "served"] X G o9;obtain⟨_,n8⟩:=Ye ["tape", "question"] X G p3;obtain⟨_,m2⟩:=Ye ["tape", "question", "plan"] X G p5;have q2:=Qt8 (st:=xr) (ps:=["script"]) X G o4 q3 v0 s8 λ_ _ _ _ _ _ us hl=>match us,hl with | [_],_=>rfl
 refine⟨bc "law" "law" (Wf xr) (Ze xr) (Qe xr) .none i0 i5 i6 i4 g5 i3,λs v=>.of_eq rfl,λbase kb nb=>?_⟩;have d5:=A1.d l.prog w base rfl (Q8e A1.F T    );have I:=A2.d l.prog w base rfl (Q4n A2.F T   d5 );have d3:=A3.d l.prog w base rfl (Q6u A3.F T    );have B:=A4.d l.prog w base rfl (xy A4.F T    );have e0:=A5.d l.prog w base rfl (Qai A5.F T   I );have b1:=A6.d l.prog w base rfl (Q1v A6.F T    );have d7:=A7.d l.prog w base rfl (Q8f A7.F T   B I );have a3:=A8.d l.prog w base rfl (jb A8.F T   B e0 I );have O:=A9.d l.prog w base rfl (Xm A9.F T   a3 d3 );have a4:=k7.d l.prog w base rfl (jc k7.F T   B O )
 have d4:=k8.d l.prog w base rfl (Q8g k8.F T   I );have d0:=n4.d l.prog w base rfl (Q6t n4.F T   B d4 I );have b6:=m0.d l.prog w base rfl (Q3e m0.F T   B d0 );have b9:=l4.d l.prog w base rfl (Q3d l4.F T   B d7 a4 b6 );have U:=l8.d l.prog w base rfl (Q0x l8.F T  e8 b9 );have d6:=o3.d l.prog w base rfl (Q8d o3.F T    );have e6:=n9.d l.prog w base rfl (Qah n9.F T    );have b0:=n5.d l.prog w base rfl (Q0y n5.F T   d6 e6 );have c7:=m8.d l.prog w base rfl (Q4p m8.F T    );have a9:=l0.d l.prog w base rfl (Q00 l0.F T    );have a7:=m6.d l.prog w base rfl (xz m6.F T   a9 b1 );have e5:=k9.d l.prog w base rfl (Qaj k9.F T   U c7 b0 a7 )
 have e4:=o5.d l.prog w base rfl (Qae o5.F T    );have b8:=l9.d l.prog w base rfl (Q3c l9.F T    );have d2:=m7.d l.prog w base rfl (Q6s m7.F T    );have b7:=n0.d l.prog w base rfl (Qag n0.F T   b8 d2 );have c2:=l6.d l.prog w base rfl (Q4m l6.F T    );have d9:=n2.d l.prog w base rfl (Qaf n2.F T    );have g3:=m9.d l.prog w base rfl (Qhf m9.F T   b7 c2 d9 );have d8:=n6.d l.prog w base rfl (Q8c n6.F T    );have c1:=l7.d l.prog w base rfl (Q4q l7.F T   e4 g3 b7 d8 );have g8:=m3.d l.prog w base rfl (Qmf m3.F T   U c1 );have c3:=l5.d l.prog w base rfl (Q4s l5.F T    );have c6:=l3.d l.prog w base rfl (Q4r l3.F T   c3 );have J:=o1.d l.prog w base rfl (Q3f o1.F T    )
 have d1:=m4.d l.prog w base rfl (Q6v m4.F T   J );have a8:=o0.d l.prog w base rfl (Q01 o0.F T   J d1 );have a6:=o2.d l.prog w base rfl (zk o2.F T    );have a5:=n8.d l.prog w base rfl (zm n8.F T   J );have c5:=m2.d l.prog w base rfl (Q4t m2.F T   J );exact Qmw hL (Qrr q2.F T   c6 a8 g8 a5 c5 e5 a6 ) Qmx
end Lw
namespace PySem.W.Fast
local macro_rules|`(command|open $n*)=>return Lean.mkNullNode (<-n.mapM λn=>`(command|theorem $n:ident:True:=trivial))
open tw16817604912645942901 tw12115481078083488458 tw1701209201582089323 tw14648954201572617053 tw17767123648002711149 tw7854875928282801733 tw1655830057908684626 tw4703716673640586170 tw6075373509971546932 te10250968611339489254 te2033580553437333360 te9814217069484716210 te8498385124372759036 te2688421944664818696 te8062613737549239665 te2904671445517925122 te7715702520526673577 te9006599885492099430 te9196569735549572975 te4476975453569825014 te5510079688130821071 te3802199889524219941 te11805735306484370954 te9534302817179443194 te10142148790311566636 te7157642165293656189 te14851980540397005812 te16112696806600501659 te4670296653895665465 te377775818085892042 te10624877330424490244 te619394824074959067 te2548151356606021218 te12150515935991665544 te111070351802834513 te9774484137744787624 te7285115051048321238 te2654450842190024107 te15478100897553639877 te16683530778967103579 te17575143118169515101 te10921297065994674368 te3194381768021077938 te17677219449341602307 te328297622329607898 te4908899574313736660 te13416665198820759806 te3266233417255443422 te13618459881219677377 te6838965676365771647 te16088517607718768919 te339327920981788345 te7853740046651587801 te9441075365562808078 te13554754719372415401 te15016833709056878429 te12859131953634143667 te7148172777374830599 te11416245247955144260 te2147240415709929868 te10914265876906403525 te10714930817923699844 te6203459717461760784 te10133611469292964076 te8586697679613830212 te12004439617336246811 te1811265280651392231 te3610146184714897599 te12083734796441447374 te12855533003611791100 te16899606784378369366 te3529815000562960999 te1346072735679130286 te5626107133443199683 te4959753954225776897 te13333522346377217652 te15945588467087325058 te11713762536152991909 te990878636192911722 te10939484920591748481 te10845911211629887687 te16200993670922343143 te8612696672389688187 te1282218661234528481 te4238734499475225339 te9266701523094334099 te18049854999975100102 te9794013623560900071 te14215700423245902205 te1866909006816943143 te18164528710155657991 te16072009334880391717 te16786911609672706522 te5796617581664074295 te10605254104156378106 te18054275274111652883 te8243111167701426485 te17943501895340482944 te15792099062120152436 te14567700898589969068 te14340473504782113403 te9462307059621173874 te15507875770394020481 te3127442027315859791 te8311622251723210971 te8400162560901388488 te13330042878158610690 te52717295354394297 te4079467943307664250 te9667518499934742737 te3677167897426855117 te3924551387434658307 te16972710914615661096 te15866732662659241768 te1923002462155087079 te6920296615330396864 te2060058972867773718 te8261617511084537009 te12607252228252843430 te4322546404209725918 te13441389558524815187 te5565625222887456424 te11700403398374150200 te3787684303580234971 te12112878931591477371 te8849766351538548114 te15398015987328529121 te4187202246750360246 te4136633656314378809 te12050351701082576029 te6472469604792907431 te2815605783834186212 te16889926427371098 te15144212422416135712 te5122396463718473896
end PySem.W.Fast
open PySem PySem.W PyProof.Rows Sm
set_option maxRecDepth 100000 in
set_option maxHeartbeats 0 in
theorem PySem.Challenge.cw_lendwharf_k45_plans_looked_at_holds : PySem.Challenge.rw_lendwharf_k45_plans_looked_at.Holds := by
 w_on; o_law; k_head; (case hw=>w_witness2)
 k_fill
 refine Sm.walkS (l:=PySem.Challenge.rw_lendwharf_k45_plans_looked_at) (k:=10) rfl ⟨rfl,by decide,by decide⟩ rfl (fun w h Y=>PySem.W.kIn_of Y) ?F
 case F=>
  intro w mg fa h KX G hmg;refine' Lw.all_mk KX G hmg ..
  any_goals k_is
  any_goals exact FA.mk (by k_is) (by k_is) (by k_is) (by k_is)
  any_goals k_exc
  all_goals first | rfl | decide
