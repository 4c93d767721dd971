import PyProof.Rows.All
import Wide.All
import OpenK.AllK
import Wide.FinOn
import Lean
import PyProof.EqAt
import PyProof.EqKinds
import PyProof.TupleCall
import PyProof.ZipIter
import PyProof.Draws
import PyProof.SumAny
import PyProof.EnumMake
import PyProof.WalkInts
import PyProof.ExcArgsOwn
import PyProof.ExcAttrAll.ValueError
import PyProof.NsDelKeeps
import KE.KTryMore
import OpenK.KOwn
import PyProof.ListMulRoad
import PyProof.FactsAll.tuple_2
import PyProof.NeKinds
import PyProof.Rows.RuleIs
import PyProof.ExcInit
import PyProof.ExcClass3
import OpenK.KCls
import PyProof.InstStoreFacts
import OpenK.KMake
import PyProof.DictRoads
import PyProof.Rows.CountFlat
import PyProof.ListRange
import PyProof.Rows.SetFrom
import PyProof.CollectStr
import PyProof.Rows.TupMore
import PyProof.AttrMissHeap
import KE.KDictOf
import PyProof.DictWalks
import KE.KSortTup
import PyProof.DictItemsLoops
import KE.KDictList
import PyProof.CallStr
import PyProof.Conv_int_bool
import PySem.Challenge.RW_lendwharf_k43_whole_gathered_first
noncomputable section
open Lean Parser Command in
local macro_rules|`(command|def $i:declId $s:optDeclSig $v:declVal)=>`(command|noncomputable def $i $s:optDeclSig $v:declVal)
open Lean Parser Command in
local macro_rules|`(command|abbrev $i:declId $s:optDeclSig $v:declVal)=>`(command|noncomputable abbrev $i $s:optDeclSig $v:declVal)
section
local macro_rules|`(())=>`(by omega)
set_option Elab.async false
set_option linter.all false
set_option maxRecDepth 100000
set_option maxHeartbeats 4000000
open Option renaming some -> zo, none -> zl
open Bool renaming true -> zi, false -> zb
open List renaming getElem?_eq_some_iff -> O0, getElem?_eq_getElem -> O2, length_map -> O3, getElem?_append_left -> O4, map_cons -> O5, mem_cons_of_mem -> O7, size_toArray -> O8, getElem?_append_right -> D0, mem_cons -> D3, length_append -> D4, getD_eq_getElem?_getD -> D5, getElem?_set_self -> D6, mem_of_getElem? -> D8, getElem?_map -> E2, mem_cons_self -> E3, getElem?_set_ne -> E4, sum_cons -> E5, mem_append -> E6, length_cons -> E7, all_eq_true -> E8, append_nil -> E9, append_assoc -> F4, map_append -> F5, mem_append_right -> F6, length_range -> F7, pairwise_cons -> F9, mem_singleton -> G6, map_map -> G7, find?_cons -> G8, set_append_right -> L0, length_set -> L3, getElem?_range -> L8, mem_map -> L9, filter_cons -> M0, mem_append_left -> M6, map_congr_left -> M9
open PySem.Heap renaming get?_push_of_some -> O1, lt_size -> O9, get?_push_size -> D2, size_push -> F1, get?_update_other -> L4
open Nat renaming le_refl -> O6, lt_of_lt_of_le -> D7, ne_of_lt -> D9, le_trans -> F3, zero_le -> L5, lt_succ_of_lt -> L6, ne_of_gt -> L7, lt_irrefl -> M8
open Bool renaming false_ne_true -> E1, false_and -> F8, true_and -> G9, and_eq_true -> L1
open PySem renaming Value -> aA, Addr -> aB, Shared -> aC, wpAny_bind -> aD, wpAny -> aF, Expr -> aH, model -> aI, wpAny_pure -> aJ, World -> aK, Program -> aL, Stmt -> aM, eval -> aO, Around -> aP, starEach -> aQ, FuncData -> aR, rawInt -> aS, compareOp -> aU, mainGlobals -> aV, SetTable -> aW, cLine -> aX, Paired -> aY, bootBuiltins -> aZ, binaryOp -> aa, IsPair -> ae, valueAt -> af, backTo -> ag, wpAny_field -> ah, wpAny_holding -> ak, pyNext -> ao, cellsFrom -> aq, wpAny_call_entry -> au, sysModules -> av, holding -> aw, wpAny_mono -> ay, NameKind -> az, wpAny_newObj_type -> bA, assignEach -> bB, wpAny_setField_rec -> bC, scanBound -> bD, wpAny_seqItems -> bE, attributeBase -> bF, call_meets -> bG, wpAny_truthy_bool -> bH, foldedSetIterable -> bI, wpAny_rule -> bJ, codeAny_builtin -> bK, isSubtype_type -> bL, wpAny_passesOwn -> bM, codeAny_mono -> bN, wpAny_typeOf -> bO, sliceBounds -> bP, plainId_quiet -> bQ, wpAny_pyIter_tuple -> bR, behindInMarks -> bS, wpAny_isInstance -> bT, wpAny_ite_split -> bU, tupleKind_room_in1 -> bV, raiseNew -> bW
open List renaming range -> bc, replicate -> bg, range' -> bn, map_nil -> bz, all_map -> cC, toArray -> cD, mem_filter -> cF, length_nil -> cH, lookup_cons -> cK, getElem_mem -> cP, nodup_cons -> cT, length_take -> cU, foldl_cons -> cV, all_cons -> cY, map -> cZ, prefix_refl -> ca, prefix_append -> ce, length -> cj, replicate_succ -> cn, getElem_of_mem -> cq, length_drop -> cr, flatten_cons -> cu, getD -> cw, take_length -> cx, any_map -> cy, ext_getElem? -> dA, not_mem_nil -> dB, any_eq_true -> dC, filterMap_cons -> dG, nil_append -> dI, sum_append -> dJ, any_cons -> dL, pairwise_map -> dR, getElem?_eq_none -> dS, nodup_append -> dU, range_succ -> dY, mem_filterMap -> di, foldl -> dk, forIn_cons -> dm, take_succ -> dn, getElem?_cons_succ -> dq, pairwise_iff_getElem -> dy, pairwise_append -> dz, length_eq_zero_iff -> eA, range'_succ -> eC, all_eq_false -> eD, getElem?_set -> eE, drop_zero -> eF, length_filter_le -> eJ, filter_eq_nil_iff -> eK, range'_append_1 -> eL, mem_range'_1 -> eM, sum_nil -> eN, mem_range -> eQ, any_eq_false -> eS, of_mem_zip -> eU, zip_cons_cons -> eW, length_singleton -> ee, forIn_nil -> fD, range_succ_eq_map -> fE, length_pos_iff -> fF, foldl_append -> fH, mem_of_mem_drop -> fM, Pairwise -> fN, drop_length -> fV, nodup_nil -> fY, set_set -> fZ, map_id -> fb, nodup_range -> fe, range_eq_range' -> fg, getElem?_replicate -> gB, take_sublist -> gC, zipIdx_cons -> gK, zipIdx_nil -> gL, mem_iff_getElem -> gN, isEmpty_toArray -> gS, isEmpty_iff -> gT, pairwise_singleton -> gZ, nil_perm -> gc, perm_nil -> gd, pairwise_lt_range -> gg, length_eraseIdx_of_lt -> gi, findIdx?_eq_some_iff_getElem -> gl, getElem?_toArray -> gp, findIdx?_cons -> gt, drop_eq_getElem_cons -> gz, map_drop -> hC, map_take -> hJ, take_of_length_le -> hZ, filter_sublist -> iE, map_id' -> iF, getD_cons_succ -> iG, mem_of_mem_take -> iH
open PySem.W renaming Frag -> be, nsIn -> bo, mg_none_of -> bt, fnOf -> bu, kia_one -> cG, keepIn -> cS, codeIn -> cm, mg_of -> dX, hideAll -> dg, hideAll_get -> dh, instObj -> eO, methodObj -> eP, lookIn -> eR, kitOne -> eT, cellsFrom_some -> eV, OpenLaw -> fB, of_hideAll -> fm, hideAll_none -> fo, plainGet -> fv, findIn -> fw, kitx_list -> fx, kitx_dict -> fy, WalkO -> gI
open Prod renaming fst -> bh, snd -> cA
open PySem.Value renaming none -> bi, ref -> bj, type -> bw, bool -> ci, int -> dD, isInt -> dZ, str -> df, isStrOf -> fh, isInt_shape -> fi, float -> fj, notImplemented -> gD
open Option.some renaming inj -> bm, injEq -> iN
open PySem.Obj renaming mapSeq -> bp, data_mapFields -> cv, mapFields -> cz, putSet -> eB, isFreed_of_fields -> fC, cls_mapFields -> gJ
open Int renaming le_refl -> bq, toNat_natCast -> bx, le_trans -> fP, toNat -> fT, fdiv_eq_ediv_of_nonneg -> fu, add_zero -> iI
open Array renaming getElem?_eq_getElem -> bv, length_toList -> cB, getElem?_toList -> cQ, getElem?_eq_some_iff -> cp, getD_eq_getD_getElem? -> dO, getElem?_eq_none -> dw, getElem_toList -> fJ, getD -> fK, append_assoc -> fq, toList -> ft, getElem?_setIfInBounds_ne -> gV, perm_iff_toList_perm -> gY, toList_push -> gj
open List.Perm renaming refl -> cE, swap -> dQ, cons_inv -> gf, append_left -> iO
open Nat renaming le_succ -> cI, sub_self -> cJ, lt_succ_self -> cX, le_of_lt -> dF, zero_add -> dN, add_sub_cancel -> du, mul_comm -> eh, le_of_not_lt -> er, le_of_eq -> fA, not_lt_zero -> fL, sub_zero -> fQ, lt_or_ge -> fR, eq_zero_or_pos -> fS, min_eq_left -> fX, succ_mul -> gH, lt_of_le_of_lt -> gM, not_lt -> gO, lt_trans -> gW, mod_lt -> gh, le_total -> hU, min_eq_right -> hX, mul_le_mul -> iA, le_add_right -> iB, strongRecOn -> iC
open PySem renaming mem_of_lookup -> cL, Env -> eG, call -> eu, evalArgs_none -> fI, Within -> fk, list_append -> gG, seqSlot_of -> gP
open PySem.Str renaming ofString -> cM
open Bool renaming and_false -> cN, false_eq_true -> cO, eq_iff_iff -> fU, not_false -> fc, or_false -> gE, or_eq_true_iff -> gQ, bne_false -> gy, and_self -> iD
open List.Pairwise renaming nil -> cW
open Sum renaming inl -> cf, inr -> cg
open Sum.inl renaming inj -> dE
open PyProof.Rows renaming callWith_type1 -> dH, slot_tuple_getitem -> dj, envOfC -> eH, callWith_builtin1 -> iJ, lt_int -> iK, is_bool -> iL, isnot_bool -> iM
open Array.Perm renaming refl -> dP
open List.cons renaming inj -> dW
open Option renaming bind_some -> eI, isSome_map -> fG, isSome_iff_exists -> gA, getD_none -> gF, isSome_some -> gU
open PySem.F renaming slot_tuple_add -> eX, entry_tuple_add -> eY, args_tuple_add_2 -> eZ, plainAttrs_list -> fW, slot_dict_clear -> gX, slot_set_iter -> gm, plain_extend_loop -> gq, plain_list_iadd -> gr, slot_dict_eq -> gu, slot_dict_ne -> gw
open PyProof.Rows.F renaming plain_set_update_loop -> fO, entry_set_update_loop -> gn
noncomputable section
local macro_rules|`(tactic|simp! [$a,*])=>`(tactic|simp -implicitDefEqProofs [$a,*])
def bX {c:Prop}{h:Decidable c}(q:c){α:Sort _}{t e:α}:ite c t e=t:=if_pos q
def bY {c:Prop}{h:Decidable c}(q:¬c){α:Sort _}{t e:α}:ite c t e=e:=if_neg q
def bZ {p:Prop}[i:Decidable p](h:¬p):decide p=zb:=decide_eq_false h
def ba {p:Prop}[i:Decidable p](h:p):decide p=zi:=decide_eq_true h
namespace L2
open PySem PySem.Spec PyProof.Rows
abbrev zAA:=List (List (Nat × Nat))
abbrev zAB:=List (Nat × Nat)
abbrev zAC:=List (aB × Obj)
abbrev zAD:=Array (Int × aA)
abbrev zAE:=List (Option Nat)
abbrev zAF:=aA->aC->Prop
abbrev zAG:=Str->Option aA
abbrev zAH:=Nat->Option Nat
variable {us:List aA} {u:aA} {a b it dx:aB} {g':Array GenState} {t' n:Nat} {d':Drawn} {ch fp:List aB} {M:Model} {A:aP} {E:zAF} {Q:Unit->aC->Prop} {c tg l:aH} {K:be} {es:List aH} {g:Int->Int->Int} {op:CmpOp} {f:aA->aA->Sem aA} {mA mg:zAG} {fd:aR} {ps:List Str}
abbrev Key:=Sum Int Str
def Q5v:Key->aA->Bool
 | .inl k,v=>dZ k v
 | .inr x,v=>fh x v
def Qyg (w:aK):Key->Int
 | .inl k=>hashInt k
 | .inr x=>hashStr w x
def Zn:∀ {k:Key} {v:aA},Q5v k v=zi->(∃ i t,k=cf i/\v=dD i t)\/(∃ x t,k=cg x/\v=df x t)
 | .inl i,v,h=>by
  obtain ⟨t,e⟩:=fi (k:=i) (v:=v) h;exact .inl ⟨i,t,rfl,e⟩
 | .inr x,v,h=>by
  obtain ⟨t,e⟩:=Value.isStrOf_shape (x:=x) (v:=v) h;exact .inr ⟨x,t,rfl,e⟩
def Qe8 (i:Int) (t:Tok):Q5v (.inl i) (.int i t)=zi:=by simp [Q5v,dZ]
def Qe7 (x:Str) (t:Tok):Q5v (.inr x) (.str x t)=zi:=by simp [Q5v,fh]
def Qs3 (a b:Int):decide ((cf a:Key)=cf b)=(a == b):=by
 by_cases e:a=b
 ·subst e; simp
 ·have h:¬ (cf a:Key)=cf b:=λq=>e (dE q)
  rw [bZ h];exact (beq_eq_false_iff_ne.mpr e).symm
def Qs0 (a b:Str):decide ((cg a:Key)=cg b)=decide (a=b):=by
 by_cases e:a=b
 ·subst e; simp
 ·have h:¬ (cg a:Key)=cg b:=λq=>e (Sum.inr.inj q)
  rw [bZ h,bZ e]
def Qs2 (a:Int) (b:Str):decide ((cf a:Key)=cg b)=zb:=bZ (λq=>nomatch q)
def Qs1 (a:Str) (b:Int):decide ((cg a:Key)=cf b)=zb:=bZ (λq=>nomatch q)
def Jy (prog:aL) (w:aK):PySem.KeyKind prog w Key where
 is:=Q5v
 hash:=Qyg w
 inj:=λv a b ha hb=>by
  rcases Zn ha with ⟨i,t,rfl,rfl⟩ | ⟨x,t,rfl,rfl⟩
  ·rcases Zn hb with ⟨j,u,rfl,e⟩ | ⟨y,u,rfl,e⟩
   ·injection e with e1 _; rw [e1]
   ·exact nomatch e
  ·rcases Zn hb with ⟨j,u,rfl,e⟩ | ⟨y,u,rfl,e⟩
   ·exact nomatch e
   ·injection e with e1 _; rw [e1]
 byValue:=λk v h=>by
  rcases Zn h with ⟨i,t,rfl,rfl⟩ | ⟨x,t,rfl,rfl⟩ <;> rfl
 pyHash:=λhv h=>by
  rcases Zn hv with ⟨i,t,rfl,rfl⟩ | ⟨x,t,rfl,rfl⟩
  ·exact wpAny_pyHash_int h
  ·exact wpAny_pyHash_str h
 eqBool:=λhu hv h=>by
  rcases Zn hu with ⟨i,t,rfl,rfl⟩ | ⟨x,t,rfl,rfl⟩
  ·rcases Zn hv with ⟨j,u,rfl,rfl⟩ | ⟨y,u,rfl,rfl⟩
   ·rw [Qs3] at h; exact wpAny_eqBool_int h
   ·rw [Qs2] at h; exact SeqAt.EqAt.int_str i t y u _ _ _ _ h
  ·rcases Zn hv with ⟨j,u,rfl,rfl⟩ | ⟨y,u,rfl,rfl⟩
   ·rw [Qs1] at h; exact SeqAt.EqAt.str_int x t j u _ _ _ _ h
   ·rw [Qs0] at h; exact wpAny_eqBool_str h
 «strs»:=λk x t v h=>by
  rcases Zn h with ⟨i,u,rfl,e⟩ | ⟨y,u,rfl,e⟩
  ·exact nomatch e
  ·injection e with e1 _
   subst e1;cases v <;> rfl
def Q8n (prog:aL) (w:aK) (i:Int) (t:Tok):(Jy prog w).is (.inl i) (.int i t)=zi:=Qe8 i t
def Q8m (prog:aL) (w:aK) (x:Str) (t:Tok):(Jy prog w).is (.inr x) (.str x t)=zi:=Qe7 x t
inductive V where
 | non | bl (b:Bool) | int (i:Int) | str (x:Str) | byt (b:Array UInt8) | flt (b:UInt64) | ref (a:aB) | ty (n:String)
 deriving DecidableEq
variable {v:V} {vs:List V}
def RelV:V->aA->Prop
 | .non,u=>u=bi
 | .bl b,u=>u=ci b
 | .int i,u=>∃ t,u=dD i t
 | .str x,u=>∃ t,u=df x t
 | .byt b,u=>∃ t,u=Value.bytes b t
 | .flt b,u=>∃ t,u=fj b t
 | .ref a,u=>u=bj a
 | .ty n,u=>u=bw n
abbrev Vals:List V->List aA->Prop:=aY RelV
def Vals.length {xs:List V} (r:Vals xs us):xs.length=us.length:=Paired.length r
theorem Vals.get:∀ {xs:List V} {us:List aA} {i:Nat} {x:V},Vals xs us->xs[i]?=zo x->∃ u,us[i]?=zo u/\RelV x u
 | _,_,_,_,.nil,e=>by simp at e
 | _,_,0,_,.cons r _,e=>by simp at e; subst e; exact ⟨_,rfl,r⟩
 | _,_,i + 1,x,.cons _ t,e=>by
  obtain ⟨u,h1,h2⟩:=Vals.get (i:=i) (x:=x) t (by simpa using e);exact ⟨u,by simpa using h1,h2⟩
theorem Vals.set {x:V} (r:RelV x u):∀ {xs:List V} {us:List aA} (i:Nat),Vals xs us->Vals (xs.set i x) (us.set i u)
 | _,_,_,.nil=>.nil
 | _,_,0,.cons _ t=>.cons r t
 | _,_,i + 1,.cons q t=>.cons q (Vals.set r i t)
theorem Vals.append:∀ {xs ys:List V} {us q:List aA},Vals xs us->Vals ys q->Vals (xs ++ ys) (us ++ q)
 | _,_,_,_,.nil,s=>s
 | _,_,_,_,.cons r t,s=>.cons r (Vals.append t s)
theorem Vals.take:∀ {xs:List V} {us:List aA} (n:Nat),Vals xs us->Vals (xs.take n) (us.take n)
 | _,_,0,_=>.nil
 | _,_,_ + 1,.nil=>.nil
 | _,_,n + 1,.cons r t=>.cons r (Vals.take n t)
theorem Vals.drop:∀ {xs:List V} {us:List aA} (n:Nat),Vals xs us->Vals (xs.drop n) (us.drop n)
 | _,_,0,r=>r
 | _,_,_ + 1,.nil=>.nil
 | _,_,n + 1,.cons _ t=>Vals.drop n t
def RelO:Option V->Option aA->Prop
 | some v,zo u=>RelV v u
 | none,zl=>True
 | _,_=>False
def KV {κ:Type}:List (κ × V)->List (κ × aA)->Prop:=aY λ(p:κ × V) (q:κ × aA)=>p.1=q.1/\RelV p.2 q.2
def kV:Key->V
 | .inl i=>.int i
 | .inr x=>.str x
inductive HO where
 | lst (xs:List V)
 | tup (xs:List V)
 | dK (kvs:List (Key × V)) | dT (kvs:List (List Key × V))
 | set (S:Int->Bool) (n:Nat)
 | ins (C dx:aB) (fs:List (Str × V))
 | own (x:aB)
 | xd (fs:List (Str × V))
 | met (f x:aB)
 | rng (lo hi:Int)
 | frz (o:Obj) (u:HO)
 | tbl (ps:Array aA)
 | ext (φ:Heap->Prop)
variable {o:HO}
abbrev Hp:=aB->Option HO
variable {H:Hp}
def upd (H:Hp) (a:aB) (o:HO):Hp:=λb=>if b=a then zo o else H b
def Qm :upd H a o a=zo o:=by unfold upd; rw [bX rfl]
def Q6 (h:b≠a):upd H a o b=H b:=by unfold upd; rw [bY h]
def Qvp {u:HO} (h:H a=zo o) (h':H b=zo u) (d:o≠u):a≠b:=by
 intro e; subst e; rw [h] at h'; exact d (bm h')
def Qd (h:H a=zo o) (h':H b=zl):a≠b:=by
 intro e; subst e; rw [h] at h'; cases h'
section
variable (P:aL) (w:aK)
def ObjOk (H:Hp) (h:Heap) (a:aB):HO->Prop
 | .lst xs=>xs.length<=sizeLine/\∃ (its:List aA) (n:Nat),Vals xs its/\h.get? a=zo { cls:=.type "list",data:=.seq its.toArray n }
 | .tup xs=>xs.length<=sizeLine/\∃ its:List aA,Vals xs its/\IsTup h a its.toArray
 | .dK kvs=>kvs.length<=sizeLine/\(a == av)=zb/\∃ vs,KV kvs vs/\h.DictOf (Jy P w) a vs
 | .dT kvs=>kvs.length<=sizeLine/\(a == av)=zb/\∃ xs:List (List Key × aB × aA),
   aY (λ(p:List Key × V) (q:List Key × aB × aA)=>p.1=q.1/\H q.2.1=zo (.tup (p.1.map kV))/\RelV p.2 q.2.2) kvs xs /\
   ∃ o es ep,h.get? a=zo o/\o.ExactDict/\o.data=.dict es ep/\es.toList=xs.map (entryOfKey (tupleKind (Jy P w)))/\(xs.map (·.1)).Nodup
 | .set S n=>h.SetOf (intKind P w) a S n
 | .ins C dx fs=>H dx=zo (.own a)/\fs.length<=1000/\dx≠a/\h.get? a=zo (eO C dx) /\
   ∃ mA,h.Ns1 dx mA/\(∀ f,RelO (fs.lookup f) (mA f))/\fk mA (fs.map (·.1))
 | .own _=>∃ o,h.get? a=zo o
 | .xd fs=>∃ mA,h.Ns1 a mA/\∀ f,RelO (fs.lookup f) (mA f)
 | .rng lo hi=>∃ t u v,h.get? a=zo { cls:=.type "range",data:=.fields #[.int lo t,.int hi u,.int 1 v] }
 | .frz o u=>h.get? a=zo o/\ObjOk H h a u
 | .tbl ps=>h.get? a=zo { cls:=.none,data:=.fields ps }
 | .met f x=>h.get? a=zo (eP (.ref f) (.ref x))
 | .ext φ=>φ h/\(∃ o,h.get? a=zo o)/\∀ h1 h2:Heap,φ h1->(∀ o,h1.get? a=zo o->h2.get? a=zo o)->φ h2
def HOk (H:Hp) (h:Heap):Prop:=∀ a o,H a=zo o->ObjOk P w H h a o
end
variable {P:aL} {H H':Hp} {h h':Heap} {a:aB} {o:HO}
section
variable {w:aK}
def ObjOk.lt (x:ObjOk P w H h a o):a < h.objs.size:=by
 cases o with
 | lst xs=>obtain ⟨_,_,_,_,e⟩:=x; exact O9 e
 | tup xs=>obtain ⟨_,_,_,p⟩:=x; exact p.lt
 | dK kvs=>obtain ⟨_,_,_,_,o,_,_,e,_⟩:=x; exact O9 e
 | dT kvs=>obtain ⟨_,_,_,_,o,_,_,e,_⟩:=x; exact O9 e
 | set S n=>obtain ⟨o,_,_,_,e,_⟩:=x; exact O9 e
 | ins C dx fs=>obtain ⟨_,_,_,e,_⟩:=x; exact O9 e
 | own y=>obtain ⟨_,e⟩:=x; exact O9 e
 | xd fs=>obtain ⟨_,⟨_,_,_,e,_⟩,_⟩:=x; exact O9 e
 | rng lo hi=>obtain ⟨_,_,_,e⟩:=x; exact O9 e
 | frz ob u=>obtain ⟨e,_⟩:=x; exact O9 e
 | tbl ps=>exact O9 (show h.get? a=zo _ from x)
 | met f y=>exact O9 (show h.get? a=zo _ from x)
 | ext q=>obtain ⟨_,⟨_,e⟩,_⟩:=x; exact O9 e
theorem Paired.mapP {α β:Type} {F G:α->β->Prop}:∀ {B:List α} {q:List β},aY F B q->(∀ a b,F a b->G a b)->aY G B q
 | _,_,.nil,_=>.nil
 | _,_,.cons r t,f=>.cons (f _ _ r) (Paired.mapP t f)
def ObjOk.stay (x:ObjOk P w H h a o) (k:∀ b u,(b=a\/H b=zo (.own a))->h.get? b=zo u->h'.get? b=zo u)
  (J:∀ b,H b=zo (.own a)->H' b=zo (.own a)) (I:∀ b xs,H b=zo (.tup xs)->H' b=zo (.tup xs)):ObjOk P w H' h' a o:=by
 induction o with
 | lst xs=>obtain ⟨z,its,n,r,e⟩:=x; exact ⟨z,its,n,r,k _ _ (.inl rfl) e⟩
 | tup xs=>obtain ⟨z,its,r,ob,e,c⟩:=x; exact ⟨z,its,r,ob,k _ _ (.inl rfl) e,c⟩
 | dK kvs=>obtain ⟨z,y,vs,r,ob,es,ep,e,c⟩:=x; exact ⟨z,y,vs,r,ob,es,ep,k _ _ (.inl rfl) e,c⟩
 | dT kvs=>
  obtain ⟨z,y,xs,r,ob,es,ep,e,c⟩:=x;exact ⟨z,y,xs,Paired.mapP r λp q z=>⟨z.1,I _ _ z.2.1,z.2.2⟩,ob,es,ep,k _ _ (.inl rfl) e,c⟩
 | set S n=>obtain ⟨ob,es,ep,t,e,c⟩:=x; exact ⟨ob,es,ep,t,k _ _ (.inl rfl) e,c⟩
 | ins C dx fs=>
  obtain ⟨d,z,ne,e,mA,⟨B,es,ep,G,c⟩,r⟩:=x;exact ⟨J _ d,z,ne,k _ _ (.inl rfl) e,mA,⟨B,es,ep,k _ _ (.inr d) G,c⟩,r⟩
 | own y=>obtain ⟨ob,e⟩:=x; exact ⟨ob,k _ _ (.inl rfl) e⟩
 | xd fs=>obtain ⟨mA,⟨B,es,ep,e,c⟩,r⟩:=x; exact ⟨mA,⟨B,es,ep,k _ _ (.inl rfl) e,c⟩,r⟩
 | rng lo hi=>obtain ⟨t,u,v,e⟩:=x; exact ⟨t,u,v,k _ _ (.inl rfl) e⟩
 | frz ob u O=>obtain ⟨e,q⟩:=x; exact ⟨k _ _ (.inl rfl) e,O q⟩
 | tbl ps=>
  have e:h.get? a=zo { cls:=.none,data:=.fields ps }:=x;show h'.get? a=zo { cls:=.none,data:=.fields ps };exact k a _ (.inl rfl) e
 | met f y=>
  have e:h.get? a=zo (eP (.ref f) (.ref y)):=x;show h'.get? a=zo (eP (.ref f) (.ref y));exact k a _ (.inl rfl) e
 | ext U=>obtain ⟨p,⟨o,e⟩,st⟩:=x; exact ⟨st _ _ p λo q=>k _ _ (.inl rfl) q,⟨o,k _ _ (.inl rfl) e⟩,st⟩
def HOk.lt (x:HOk P w H h) (e:H a=zo o):a < h.objs.size:=(x a o e).lt
def HOk.fresh (x:HOk P w H h) (e:h.objs.size<=a):H a=zl:=by
 cases q:H a with
 | none=>rfl
 | some u=>exact absurd (D7 (x.lt q) e) (M8 _)
def HOk.kept (x:HOk P w H h) (k:∀ b u,h.get? b=zo u->h'.get? b=zo u):HOk P w H h':=λa o e=>
 (x a o e).stay (λb u _ q=>k b u q) (λ_ q=>q) λ_ _ q=>q
def HOk.laid (x:HOk P w H h) (k:∀ b u,h.get? b=zo u->h'.get? b=zo u) (I:h.objs.size<=a) (new:ObjOk P w (upd H a o) h' a o):HOk P w (upd H a o) h':=λb u e=>by
 have G:=x.fresh I
 by_cases B:b=a
 ·subst B; rw [Qm] at e; cases e; exact new
 ·rw [Q6 B] at e;exact (x b u e).stay (λc v _ q=>k c v q) (λc q=>by rw [Q6 (Qd q G)]; exact q) λc xs q=>by rw [Q6 (Qd q G)]; exact q
end
def Rd (H:Hp) (a:aB) (u:HO):Prop:=H a=zo u\/∃ o,H a=zo (.frz o u)
def Rd.ok {w:aK} {u:HO} (r:Rd H a u) (x:HOk P w H h):ObjOk P w H h a u:=by
 rcases r with r | ⟨o,r⟩
 ·exact x a u r
 ·obtain ⟨_,q⟩:=x a _ r;exact q
def Mut:Option HO->Prop
 | some (.lst _)=>True
 | some (.dK _)=>True
 | some (.dT _)=>True
 | some (.set _ _)=>True
 | some (.ins _ _ _)=>True
 | some (.ext _)=>True
 | _=>False
variable {x e:aB} {o':HO}
section
variable {w:aK}
def HOk.write (ok:HOk P w H h) (J:Mut (H x)) (Z:e=x\/H e=zo (.own x)) (k:∀ b u,b≠e->h.get? b=zo u->h'.get? b=zo u) (Y:∃ u,h'.get? e=zo u)
  (new:ObjOk P w (upd H x o') h' x o'):HOk P w (upd H x o') h':=λb u q=>by
 have G:∀ c y,H c=zo (.own y)->c≠x:=λc y r z=>by subst z; rw [r] at J; exact J
 have I:∀ c xs,H c=zo (.tup xs)->c≠x:=λc xs r z=>by subst z; rw [r] at J; exact J
 by_cases O:b=x
 ·subst O; rw [Qm] at q; cases q; exact new
 ·rw [Q6 O] at q
  by_cases B:b=e
  ·have q':H b=zo (.own x):=by
    rcases Z with z | z
    ·exact absurd (B.trans z) O
    ·rw [B]; exact z
   rw [q] at q'; cases q';obtain ⟨v,hv⟩:=Y;exact ⟨v,by rw [B]; exact hv⟩
  ·refine (ok b u q).stay (λc v U r=>k c v ?_ r) (λc r=>by rw [Q6 (G c b r)]; exact r) λc xs r=>by rw [Q6 (I c xs r)]; exact r
   rcases U with rfl | U
   ·exact B
   ·rintro rfl;rcases Z with z | z
    ·exact G c b U z
    ·rw [U] at z; cases z; exact O rfl
end
structure Un (fs ex:List aB) (H H':Hp) (h h':Heap):Prop where
 keep:∀ b o,h.get? b=zo o->H b=zl->b∉fs->b∉ex->h'.get? b=zo o
 slot:∀ b o,h.get? b=zo o->H b=zl->b∈fs->b∉ex->∃ sl,h'.get? b=zo { o with slots:=sl }
 free:∀ b o,h.get? b=zo o->H b=zl->b∉ex->H' b=zl
 there:∀ b o,h.get? b=zo o->b∉ex->∃ o',h'.get? b=zo o'
 tups:∀ b xs,H b=zo (.tup xs)->H' b=zo (.tup xs)
 frzs:∀ b o u,H b=zo (.frz o u)->H' b=zo (.frz o u)
 tbls:∀ b ps,H b=zo (.tbl ps)->∃ more,H' b=zo (.tbl (ps ++ more))
variable {fs' ex ex':List aB} {H1 H2:Hp} {h1 h2:Heap}
section
variable {fs:List aB}
def Un.any (u:Un fs ex H H1 h h1) {ob:Obj} (q:h.get? b=zo ob) (n:H b=zl) (G:b∉ex):∃ sl,h1.get? b=zo { ob with slots:=sl }:=by
 by_cases B:b∈fs
 ·exact u.slot b ob q n B G
 ·exact ⟨ob.slots,u.keep b ob q n B G⟩
def Un.kept (k:∀ b u,h.get? b=zo u->h'.get? b=zo u):Un fs ex H H h h':=
 ⟨λb ob q _ _ _=>k b ob q,λb ob q _ _ _=>⟨ob.slots,k b ob q⟩,λ_ _ _ n _=>n,λb ob q _=>⟨ob,k b ob q⟩,λ_ _ q=>q,λ_ _ _ q=>q,λ_ ps q=>⟨#[],by rw [q]; simp⟩⟩
def Un.refl:Un fs ex H H h h:=Un.kept λ_ _ q=>q
def Un.laid (k:∀ b u,h.get? b=zo u->h'.get? b=zo u) (G:h.objs.size<=a) (B:H a=zl):Un fs ex H (upd H a o) h h' where
 keep:=λb u q _ _ _=>k b u q
 slot:=λb u q _ _ _=>⟨u.slots,k b u q⟩
 free:=λb u q n _=>by rw [Q6 (D9 (D7 (O9 q) G))]; exact n
 there:=λb u q _=>⟨u,k b u q⟩
 tups:=λb xs q=>by rw [Q6 (Qd q B)]; exact q
 frzs:=λb u xs q=>by rw [Q6 (Qd q B)]; exact q
 tbls:=λb ps q=>⟨#[],by rw [Q6 (Qd q B),q]; simp⟩
def Un.write (G:Mut (H x)) (Z:e=x\/H e=zo (.own x)) (k:∀ b u,b≠e->h.get? b=zo u->h'.get? b=zo u) (J:∃ u,h'.get? e=zo u):Un fs ex H (upd H x o) h h':=by
 have U:∀ b,H b=zl->b≠x:=λb n z=>by subst z; rw [n] at G; exact G
 have O:∀ b,H b=zl->b≠e:=λb n z=>by
  subst z;rcases Z with r | r
  ·exact U b n r
  ·rw [n] at r; cases r
 have I:∀ b u,H b=zo u->¬ Mut (zo u)->b≠x:=λb u q Y z=>by subst z; rw [q] at G; exact Y G
 refine ⟨λb u q n _ _=>k b u (O b n) q,λb u q n _ _=>⟨u.slots,k b u (O b n) q⟩,λb u q n _=>by rw [Q6 (U b n)]; exact n,λb u q _=>?_,
  λb xs q=>by rw [Q6 (I b _ q λz=>z)]; exact q,λb u xs q=>by rw [Q6 (I b _ q λz=>z)]; exact q,λb ps q=>⟨#[],by rw [Q6 (I b _ q λz=>z),q]; simp⟩⟩
 by_cases B:b=e
 ·subst B; exact J
 ·exact ⟨u,k b u B q⟩
end
def trk (h:Heap) (H:Hp):List aB:=(bc h.objs.size).filter λa=>(H a).isSome
def Q76 (h:Heap) (H:Hp):Heap:=dg h (trk h H)
def Qed (h:Heap) (H:Hp):(Q76 h H).objs.size=h.objs.size:=PySem.W.hideAll_size _ _
def Qhy {o:Obj} (e:h.get? b=zo o) (n:H b=zl):(Q76 h H).get? b=zo o:=
 dh _ e λB=>by
  have q:(H b).isSome=zi:=(cF.mp B).2;rw [n] at q; simp at q
def Qmp {o:Obj} (e:(Q76 h H).get? b=zo o):h.get? b=zo o/\H b=zl:=by
 have B:h.get? b=zo o:=fm (trk h H) e;refine ⟨B,?_⟩;cases q:H b with
 | none=>rfl
 | some x=>
  have G:b∈trk h H:=cF.mpr ⟨eQ.mpr (O9 B),by simp [q]⟩;have z:(Q76 h H).get? b=zl:=fo (trk h H) G;rw [z] at e; cases e
def Qnq (g h:Heap) (L:aB):zAC:=(bc h.objs.size).filterMap λa=>if a=L\/(g.get? a).isSome=zi then zl else (h.get? a).map λo=>(a,o)
def rest (g h:Heap) (L d:aB):zAC:=(Qnq g h L).filter λp=>decide (p.1≠d)
structure Mod (K:be) (mg:zAG) (base:Heap):Prop where
 kin:K.In base
 glob:base.Ns aV mg
 blt:∃ mb,base.Ns builtinsNs mb/\∀ x:Str,x≠"__name__" -> mb x=aZ x
 nolimit:base.NoLimit
structure Cx where
 prog:aL
 w:aK
 K:be
 mg:Str->Option aA
 base:Heap
 A:aP
 N:List Str
 s₀:aC
 H₀:Hp
 env:Env
 outer:List Env
 stack:List Env
 ex:List aB
 fn:Str->Bool
 calm:Bool
 pn:zAC
 xe:aA->aC->Prop
def frs (l:List Env):List aB:=l.filterMap (·.frame)
abbrev Cx.fs (X:Cx):List aB:=frs X.outer
def Vis (sc:Scope) (x:Str):Prop:=sc.names.lookup x=zo .local\/sc.names.lookup x=zo .cell\/sc.names.lookup x=zo .free
def Loc (sc:Scope) (x:Str):Prop:=sc.names.lookup x=zo .local\/sc.names.lookup x=zo .cell
def Qys (env:Env) (h:Heap) (m:zAG) (x:Str) (u:aA):Prop:=
 (env.kindOf x=zo .local/\m x=zo u)\/((env.kindOf x=zo .cell\/env.kindOf x=zo .free)/\∃ c,env.cells.lookup x=zo c/\h.IsCell c (zo u))
structure Cx.Ok (X:Cx):Prop where
 mod:Mod X.K X.mg X.base
 kind:X.env.scope.kind=.function
 glob:X.env.globals=aV
 blt:X.env.builtins=builtinsNs
 above:X.s₀.heap.objs.size<=X.env.locals
 inj:∀ x y c,X.env.cells.lookup x=zo c->X.env.cells.lookup y=zo c->x=y
 has:∀ x,(X.env.kindOf x=zo .cell\/X.env.kindOf x=zo .free)->∃ c,X.env.cells.lookup x=zo c
 cab:∀ x c,X.fn x=zi->X.env.cells.lookup x=zo c->X.s₀.heap.objs.size<=c
 hd:X.calm=zi->X.A.handled=zl
 frames:X.A.frames=zo X.stack
 stk:X.stack=X.outer\/(X.stack=X.env :: X.outer/\X.env.frame=zo X.env.locals)
 exf:∀ b∈X.ex,b≠X.env.locals/\∀ x c,X.env.cells.lookup x=zo c->c≠b
 bs:∀ b o,X.base.get? b=zo o->X.s₀.heap.get? b=zo o/\X.H₀ b=zl
 bsz:X.base.objs.size<=X.s₀.heap.objs.size
 noex:∀ b o,X.base.get? b=zo o->b∉X.ex
 exfs:∀ b∈X.ex,b∉X.fs
 funs:X.s₀.heap.FunFrames X.base X.outer
 frf:∀ b∈X.fs,X.H₀ b=zl
structure Inv (X:Cx) (pins:zAC) (σ:List (Option V)) (H:Hp) (s:aC):Prop where
 ok:X.Ok
 os:s.os=X.s₀.os
 bare:AllBare s.gens
 base:Un X.fs X.ex X.H₀ H X.s₀.heap s.heap
 loc:∃ m,s.heap.Ns X.env.locals m/\∀ (i:Nat) (x:Str) (v:V),X.N[i]?=zo x->σ[i]?=zo (zo v)->Vis X.env.scope x->∃ u,RelV v u/\Qys X.env s.heap m x u
 cell:∀ x c,X.env.cells.lookup x=zo c->∃ v,s.heap.IsCell c v
 free:H X.env.locals=zl
 freeC:∀ x c,X.env.cells.lookup x=zo c->H c=zl
 pin:∀ p∈X.pn ++ pins,s.heap.get? p.1=zo p.2/\H p.1=zl/\p.1≠X.env.locals/\p.1∉X.fs/\∀ v,p.2.data≠.cell v
 hok:HOk X.prog X.w H s.heap
 len:σ.length=X.N.length
variable {X:Cx} {pins:zAC} {σ:List (Option V)} {s:aC}
def Cx.Ok.nofr (ok:X.Ok) {o:Obj} (e:X.base.get? b=zo o):b∉X.fs:=λq=>by
 have:=(ok.funs.mem q).1;rw [e] at this; cases this
def Inv.bs (I:Inv X pins σ H s):∀ b o,X.base.get? b=zo o->s.heap.get? b=zo o/\H b=zl:=λb o e=>
 ⟨I.base.keep b o (I.ok.bs b o e).1 (I.ok.bs b o e).2 (I.ok.nofr e) (I.ok.noex b o e),I.base.free b o (I.ok.bs b o e).1 (I.ok.bs b o e).2 (I.ok.noex b o e)⟩
def Inv.bk (I:Inv X pins σ H s):∀ b o,X.base.get? b=zo o->s.heap.get? b=zo o:=λb o e=>(I.bs b o e).1
def Inv.mod (I:Inv X pins σ H s):Mod X.K X.mg X.base:=I.ok.mod
def Inv.kIn (I:Inv X pins σ H s):X.K.In s.heap:=I.ok.mod.kin.keeps I.bk
def Inv.lt (I:Inv X pins σ H s):X.env.locals < s.heap.objs.size:=let ⟨_,q,_⟩:=I.loc; q.lt
def Inv.sz (I:Inv X pins σ H s):X.s₀.heap.objs.size<=s.heap.objs.size:=F3 I.ok.above (dF I.lt)
def Inv.nofs (I:Inv X pins σ H s) (h:s.heap.objs.size<=a):a∉X.fs:=λB=>by
 obtain ⟨_,o,q,_⟩:=I.ok.funs.mem B;exact absurd (D7 (O9 q) (F3 I.sz h)) (M8 _)
def Inv.cne (I:Inv X pins σ H s):∀ x c,X.env.cells.lookup x=zo c->c≠X.env.locals:=λx c e z=>by
 obtain ⟨v,o,G,hd⟩:=I.cell x c e;obtain ⟨m,⟨o',es,ep,B,q,_⟩,_⟩:=I.loc;rw [z,B] at G; cases G; rw [q] at hd; cases hd
def Inv.funs (I:Inv X pins σ H s):s.heap.FunFrames X.base X.outer:=by
 have all:∀ (l:List Env),(∀ b∈frs l,b∈X.fs)->X.s₀.heap.FunFrames X.base l->s.heap.FunFrames X.base l:=by
  intro l
  induction l with
  | nil=>intro _ _; trivial
  | cons env r U=>
   intro hs hl;obtain ⟨Y,⟨L,o,q,O,J,hd⟩,hr⟩:=hl;have G:L∈X.fs:=hs L (by unfold frs; rw [dG,q]; exact E3);obtain ⟨sl,e⟩:=I.base.slot L o J (I.ok.frf L G) G λz=>I.ok.exfs L z G
   exact ⟨Y,⟨L,_,q,O,e,hd⟩,U (λb B=>hs b (by unfold frs; rw [dG,q]; exact O7 _ B)) hr⟩
 exact all X.outer (λ_ B=>B) I.ok.funs
def Inv.stack (I:Inv X pins σ H s):s.heap.FunFrames X.base X.stack:=by
 rcases I.ok.stk with e | ⟨e,q⟩
 ·rw [e]; exact I.funs
 ·rw [e];obtain ⟨m,B,_⟩:=I.loc;refine .cons (by rw [I.ok.kind]; decide) q B ?_ I.funs;exact Heap.get?_none_of_le (F3 I.ok.bsz I.ok.above)
def Inv.stkSub (I:Inv X pins σ H s):∀ b∈frs X.stack,b∈X.env.locals :: X.fs:=λb q=>by
 rcases I.ok.stk with e | ⟨e,B⟩
 ·rw [e] at q; exact O7 _ q
 ·rw [e] at q;unfold frs at q;rw [dG,B] at q;exact q
def Inv.stkFree (I:Inv X pins σ H s):∀ b∈frs X.stack,H b=zl:=λb q=>by
 rcases D3.mp (I.stkSub b q) with e | q
 ·rw [e]; exact I.free
 ·obtain ⟨_,o,B,_⟩:=I.ok.funs.mem q;exact I.base.free b o B (I.ok.frf b q) λz=>I.ok.exfs b z q
def Inv.step {g':Array GenState} {t':Nat} {d':Drawn} {ch:List aB} (I:Inv X pins σ H s)
  (G:∀ b∈ch,(b∈X.ex\/X.s₀.heap.objs.size<=b)/\b≠X.env.locals/\(∀ x c,X.env.cells.lookup x=zo c->c≠b)/\∀ p∈X.pn ++ pins,p.1≠b)
  (keep:∀ b o,b≠X.env.locals->b∉X.fs->b∉ch->s.heap.get? b=zo o->H b=zl->h'.get? b=zo o)
  (slot:∀ b o,b≠X.env.locals->b∈X.fs->b∉ch->s.heap.get? b=zo o->H b=zl->∃ sl,h'.get? b=zo { o with slots:=sl }) (free:∀ b o,b∉ch->s.heap.get? b=zo o->H b=zl->H' b=zl)
  (there:∀ b o,b∉ch->s.heap.get? b=zo o->∃ o',h'.get? b=zo o')
  (tups:∀ b xs,H b=zo (.tup xs)->H' b=zo (.tup xs)) (frzs:∀ b o u,H b=zo (.frz o u)->H' b=zo (.frz o u)) (tbls:∀ b ps,H b=zo (.tbl ps)->∃ more,H' b=zo (.tbl (ps ++ more)))
  (ns:∀ m,s.heap.Ns X.env.locals m->h'.Ns X.env.locals m) (hok:HOk X.prog X.w H' h') (hg:AllBare g') :
  Inv X pins σ H' { s with heap:=h',gens:=g',drawn:=d',toks:=t' }:=by
 have a1:∀ b o,X.s₀.heap.get? b=zo o->b≠X.env.locals:=λb o e=>D9 (D7 (O9 e) I.ok.above)
 have Y:∀ b o,X.s₀.heap.get? b=zo o->b∉X.ex->b∉ch:=λb o e B Z=>by
  rcases (G b Z).1 with z | z
  ·exact B z
  ·exact absurd (D7 (O9 e) z) (M8 _)
 have O:∀ x c,X.env.cells.lookup x=zo c->∀ v,s.heap.IsCell c v->h'.IsCell c v:=λx c e v ⟨o,ho,hd⟩=>by
  have J:c∉ch:=λz=>(G c z).2.2.1 x c e rfl
  by_cases hc:c∈X.fs
  ·obtain ⟨sl,q⟩:=slot c o (I.cne x c e) hc J ho (I.freeC x c e);exact ⟨_,q,hd⟩
  ·exact ⟨o,keep c o (I.cne x c e) hc J ho (I.freeC x c e),hd⟩
 refine ⟨I.ok,I.os,hg,⟨λb o e n Z B=>?_,λb o e n Z B=>?_,λb o e n B=>?_,λb o e B=>?_,λb xs e=>tups b xs (I.base.tups b xs e),λb o xs e=>frzs b o xs (I.base.frzs b o xs e),λb ps e=>?_⟩,?_,λx c e=>?_,?_,λx c e=>?_,λp hp=>?_,hok,I.len⟩
 ·exact keep b o (a1 b o e) Z (Y b o e B) (I.base.keep b o e n Z B) (I.base.free b o e n B)
 ·obtain ⟨sl,U⟩:=I.base.slot b o e n Z B;obtain ⟨a2,e2⟩:=slot b _ (a1 b o e) Z (Y b o e B) U (I.base.free b o e n B);exact ⟨a2,e2⟩
 ·obtain ⟨o',U⟩:=I.base.there b o e B;exact free b o' (Y b o e B) U (I.base.free b o e n B)
 ·obtain ⟨o',U⟩:=I.base.there b o e B;exact there b o' (Y b o e B) U
 ·obtain ⟨m1,U⟩:=I.base.tbls b ps e;obtain ⟨m2,e2⟩:=tbls b _ U;exact ⟨m1 ++ m2,by rw [e2,fq]⟩
 ·obtain ⟨m,hn,hl⟩:=I.loc;refine ⟨m,ns m hn,λi x v U e2 e3=>?_⟩;obtain ⟨u,r,l⟩:=hl i x v U e2 e3;refine ⟨u,r,?_⟩;rcases l with l | ⟨k,c,e,z⟩
  ·exact .inl l
  ·exact .inr ⟨k,c,e,O x c e _ z⟩
 ·obtain ⟨v,z⟩:=I.cell x c e;exact ⟨v,O x c e v z⟩
 ·obtain ⟨m,⟨o,_,_,ho,_⟩,_⟩:=I.loc;exact free _ o (λz=>(G _ z).2.1 rfl) ho I.free
 ·obtain ⟨v,o,ho,hd⟩:=I.cell x c e;exact free c o (λz=>(G c z).2.2.1 x c e rfl) ho (I.freeC x c e)
 ·obtain ⟨e,n,ne,nf,d⟩:=I.pin p hp;have J:p.1∉ch:=λz=>(G p.1 z).2.2.2 p hp rfl
  exact ⟨keep p.1 p.2 ne nf J e n,free p.1 p.2 J e n,ne,nf,d⟩
def Inv.un (I:Inv X pins σ H s) (u:Un X.fs [] H H' s.heap h') (hok:HOk X.prog X.w H' h'):Inv X pins σ H' { s with heap:=h',toks:=t' }:=by
 obtain ⟨m,⟨o,es,ep,O,r⟩,_⟩:=id I.loc;obtain ⟨sl,Z⟩:=u.any O I.free (by simp);exact I.step (g':=s.gens) (d':=s.drawn) (ch:=[]) (λ_ z=>nomatch z) (λb o _ G _ e n=>u.keep b o e n G (by simp)) (λb o _ G _ e n=>u.slot b o e n G (by simp)) (λb o _ e n=>u.free b o e n (by simp)) (λb o _ e=>u.there b o e (by simp)) u.tups u.frzs u.tbls (λm' U=>by
  obtain ⟨o',B,J,q,Y⟩:=U;rw [O] at q; cases q;exact ⟨_,B,J,Z,Y⟩) hok I.bare
def Inv.call {t':Nat} {d':Drawn} (I:Inv X pins σ H s) (u:Un (frs X.stack) ch H H' s.heap h') (hok:HOk X.prog X.w H' h') (hg:AllBare g')
  (G:∀ b∈ch,(b∈X.ex\/X.s₀.heap.objs.size<=b)/\b≠X.env.locals/\(∀ x c,X.env.cells.lookup x=zo c->c≠b)/\∀ p∈X.pn ++ pins,p.1≠b) :
  Inv X pins σ H' { s with heap:=h',gens:=g',drawn:=d',toks:=t' }:=by
 obtain ⟨m,⟨o,es,ep,Y,r⟩,_⟩:=id I.loc;obtain ⟨sl,O⟩:=u.any Y I.free λz=>(G _ z).2.1 rfl
 exact I.step (ch:=ch) G (λb o O hb q e n=>u.keep b o e n (λz=>(D3.mp (I.stkSub b z)).elim O hb) q) (λb o _ _ q e n=>u.any e n q) (λb o q e n=>u.free b o e n q) (λb o q e=>u.there b o e q) u.tups u.frzs u.tbls (λm' Z=>by
  obtain ⟨o',J,U,B,r'⟩:=Z;rw [Y] at B; cases B;exact ⟨_,J,U,O,r'⟩) hok hg
def Inv.turned {t':Nat} (I:Inv X pins σ H s) (k:∀ b o,b≠it->s.heap.get? b=zo o->h'.get? b=zo o) (Z:H it=zl) (J:it≠X.env.locals)
  (h1:it∈X.ex\/X.s₀.heap.objs.size<=it) (h2:∀ x c,X.env.cells.lookup x=zo c->c≠it) (h3:∀ p∈X.pn ++ pins,p.1≠it):Inv X pins σ H { s with heap:=h',toks:=t' }:=by
 have G:∀ b u,H b=zo u->b≠it:=λb u e z=>by rw [z,Z] at e; cases e
 refine I.step (g':=s.gens) (d':=s.drawn) (ch:=[it]) (λb Y=>?_) (λb o _ _ B e _=>k b o (λz=>B (by simp [z])) e) (λb o _ _ B e _=>⟨o.slots,k b o (λz=>B (by simp [z])) e⟩) (λ_ _ _ _ n=>n)
  (λb o B e=>⟨o,k b o (λz=>B (by simp [z])) e⟩) (λ_ _ e=>e) (λ_ _ _ e=>e) (λb ps e=>⟨#[],by rw [e]; simp⟩) (λm O=>?_) (λb u e=>?_) I.bare
 ·have e:b=it:=by simpa using Y
  subst e;exact ⟨h1,J,h2,h3⟩
 ·obtain ⟨o,es,ep,U,r⟩:=O;exact ⟨o,es,ep,k _ o (Ne.symm J) U,r⟩
 ·refine (I.hok b u e).stay (λc v B q=>k c v ?_ q) (λ_ q=>q) λ_ _ q=>q
  rcases B with z | z
  ·rw [z]; exact G b u e
  ·exact G c _ z
def Inv.tok (I:Inv X pins σ H s) (t:Nat):Inv X pins σ H { s with toks:=t }:=I.un (h':=s.heap) (t':=t) Un.refl I.hok
def Inv.kept (I:Inv X pins σ H s) (k:∀ b u,s.heap.get? b=zo u->h'.get? b=zo u):Inv X pins σ H { s with heap:=h',toks:=t' }:=I.un (Un.kept k) (I.hok.kept k)
def Inv.laid {t':Nat} (I:Inv X pins σ H s) (k:∀ b u,s.heap.get? b=zo u->h'.get? b=zo u) (q:s.heap.objs.size<=a) (new:ObjOk X.prog X.w (upd H a o) h' a o) :
  Inv X pins σ (upd H a o) { s with heap:=h',toks:=t' }:=I.un (Un.laid k q (I.hok.fresh q)) (I.hok.laid k q new)
def Inv.write {o:HO} {t':Nat} (I:Inv X pins σ H s) (B:Mut (H x)) (G:e=x\/H e=zo (.own x)) (k:∀ b u,b≠e->s.heap.get? b=zo u->h'.get? b=zo u) (q:∃ u,h'.get? e=zo u)
  (new:ObjOk X.prog X.w (upd H x o) h' x o):Inv X pins σ (upd H x o) { s with heap:=h',toks:=t' }:=I.un (Un.write B G k q) (I.hok.write B G k q new)
def Inv.pins_of {q:zAC} (I:Inv X pins σ H s) (h:∀ p∈q,s.heap.get? p.1=zo p.2/\H p.1=zl/\p.1≠X.env.locals/\p.1∉X.fs/\∀ v,p.2.data≠.cell v):Inv X q σ H s:=
 ⟨I.ok,I.os,I.bare,I.base,I.loc,I.cell,I.free,I.freeC,λp B=>(E6.mp B).elim (λz=>I.pin p (M6 _ z)) (h p),I.hok,I.len⟩
def Q8j {N:List Str} (q:N.Nodup) {i j:Nat} {x:Str} (a:N[i]?=zo x) (b:N[j]?=zo x):i=j:=by
 obtain ⟨h1,G⟩:=O0.mp a;obtain ⟨h2,B⟩:=O0.mp b;exact (List.getElem_inj q).mp (G.trans B.symm)
def Q5a {M:Model} {A:aP} {E:zAF} {i:Nat} {x:Str} {Q:Unit->aC->Prop} (I:Inv X pins σ H s) (hN:X.N.Nodup) (hi:X.N[i]?=zo x) (O:Loc X.env.scope x) (r:RelV v u)
  (h:∀ s',Inv X pins (σ.set i (zo v)) H s'->(∃ a,Heap.SameBut a s.heap s'.heap/\(a=X.env.locals\/X.env.cells.lookup x=zo a))->Q PUnit.unit s') (hf:X.fn x=zi\/X.env.scope.names.lookup x=zo .local):aF M A (storeName X.env x u) Q E s:=by
 obtain ⟨m,hn,hl⟩:=id I.loc;have a6:(X.env.scope.kind == .class || (X.env.scope.kind == .module && X.env.locals != X.env.globals))=zb:=by rw [I.ok.kind]; rfl
 have a1:i < σ.length:=by rw [I.len]; exact (O0.mp hi).1
 have cne:=I.cne;have G:∀ {a:aB} {h':Heap},(∃ o,s.heap.get? a=zo o/\H a=zl)->Heap.SameBut a s.heap h'->HOk X.prog X.w H h':=λ{a h'} ha hs b ob e=>by
  obtain ⟨_,_,U⟩:=ha;refine (I.hok b ob e).stay (λc w' J q=>(hs.2 c ?_).trans q) (λ_ q=>q) λ_ _ q=>q
  rintro rfl;rcases J with rfl | J
  ·rw [U] at e; cases e
  ·rw [U] at J; cases J
 rcases O with Z | Z
 ·refine wpAny_storeName_local Z hn (λh' a9 hs=>?_) a6;obtain ⟨oL,_,_,a8,_⟩:=id hn;refine h _ ⟨I.ok,I.os,I.bare,⟨λb o e n hb O=>?_,λb o e n hb O=>?_,I.base.free,λb o e O=>?_,I.base.tups,I.base.frzs,I.base.tbls⟩,⟨_,a9,λj y v' B Y e3=>?_⟩,λy c e=>?_,I.free,I.freeC,λp hp=>?_,G ⟨oL,a8,I.free⟩ hs,by simpa using I.len⟩ ⟨_,hs,.inl rfl⟩
  ·exact (hs.2 b (D9 (D7 (O9 e) I.ok.above))).trans (I.base.keep b o e n hb O)
  ·obtain ⟨sl,B⟩:=I.base.slot b o e n hb O;exact ⟨sl,(hs.2 b (D9 (D7 (O9 e) I.ok.above))).trans B⟩
  ·obtain ⟨o',B⟩:=I.base.there b o e O;exact ⟨o',(hs.2 b (D9 (D7 (O9 e) I.ok.above))).trans B⟩
  ·by_cases hj:j=i
   ·subst hj;rw [hi] at B; cases B;rw [D6 a1] at Y;cases Y;exact ⟨u,r,.inl ⟨Z,by simp⟩⟩
   ·rw [E4 (Ne.symm hj)] at Y;obtain ⟨u',r',q⟩:=hl j y v' B Y e3;refine ⟨u',r',?_⟩;rcases q with ⟨k,e⟩ | ⟨k,c,e,z⟩
    ·refine .inl ⟨k,?_⟩;have:y≠x:=λe=>hj (Q8j hN B (e ▸ hi))
     simp [this,e]
    ·exact .inr ⟨k,c,e,z.sameBut hs (cne y c e)⟩
  ·obtain ⟨w',z⟩:=I.cell y c e;exact ⟨w',z.sameBut hs (cne y c e)⟩
  ·obtain ⟨e,n,ne,nf,d⟩:=I.pin p hp;exact ⟨(hs.2 p.1 ne).trans e,n,ne,nf,d⟩
 ·have a2:X.fn x=zi:=by
   rcases hf with z | z
   ·exact z
   ·rw [z] at Z; cases Z
  obtain ⟨c,J⟩:=I.ok.has x (.inl Z);obtain ⟨w',z⟩:=I.cell x c J;refine wpAny_storeName_cell I.ok.kind Z J z (λh' a5 hs=>?_);obtain ⟨oc,a3,a4⟩:=id z;refine h { s with heap:=h' } ⟨I.ok,I.os,I.bare,⟨λb o e n hb O=>?_,λb o e n hb O=>?_,I.base.free,λb o e O=>?_,I.base.tups,I.base.frzs,I.base.tbls⟩,⟨m,hn.sameBut hs (Ne.symm (cne x c J)),λj y v' B Y e3=>?_⟩,λy c' e=>?_,I.free,I.freeC,λp hp=>?_,G ⟨oc,a3,I.freeC x c J⟩ hs,by simpa using I.len⟩ ⟨c,hs,.inr J⟩
  ·exact (hs.2 b (D9 (D7 (O9 e) (I.ok.cab x c a2 J)))).trans (I.base.keep b o e n hb O)
  ·obtain ⟨sl,B⟩:=I.base.slot b o e n hb O;exact ⟨sl,(hs.2 b (D9 (D7 (O9 e) (I.ok.cab x c a2 J)))).trans B⟩
  ·obtain ⟨o',B⟩:=I.base.there b o e O;exact ⟨o',(hs.2 b (D9 (D7 (O9 e) (I.ok.cab x c a2 J)))).trans B⟩
  ·by_cases hj:j=i
   ·subst hj;rw [hi] at B; cases B;rw [D6 a1] at Y;cases Y;exact ⟨u,r,.inr ⟨.inl Z,c,J,a5⟩⟩
   ·rw [E4 (Ne.symm hj)] at Y;obtain ⟨u',r',q⟩:=hl j y v' B Y e3;refine ⟨u',r',?_⟩;rcases q with q | ⟨k,c',e,z'⟩
    ·exact .inl q
    ·refine .inr ⟨k,c',e,z'.sameBut hs ?_⟩;rintro rfl;exact hj (Q8j hN B (I.ok.inj _ _ _ e J ▸ hi))
  ·by_cases a7:c'=c
   ·subst a7; exact ⟨_,a5⟩
   ·obtain ⟨w2,z2⟩:=I.cell y c' e;exact ⟨w2,z2.sameBut hs a7⟩
  ·obtain ⟨e,n,ne,nf,d⟩:=I.pin p hp;refine ⟨(hs.2 p.1 ?_).trans e,n,ne,nf,d⟩;intro q;rw [q,a3] at e;have q':oc=p.2:=bm e;exact d w' (by rw [<- q']; exact a4)
def Q7t {M:Model} {A:aP} {E:zAF} {i:Nat} {x:Str} {Q:Unit->aC->Prop} (I:Inv X pins σ H s) (G:X.N.Nodup) (hi:X.N[i]?=zo x) (J:Loc X.env.scope x) (r:RelV v u)
  (h:∀ s',Inv X pins (σ.set i (zo v)) H s'->Q PUnit.unit s') (B:X.fn x=zi\/X.env.scope.names.lookup x=zo .local):aF M A (storeName X.env x u) Q E s:=
 Q5a I G hi J r (λs' q _=>h s' q) B
def Inv.call' {s':aC} (I:Inv X pins σ H s) (B:s'.os=s.os) (u:Un (frs X.stack) ch H H' s.heap s'.heap) (hok:HOk X.prog X.w H' s'.heap) (G:AllBare s'.gens)
  (q:∀ b∈ch,(b∈X.ex\/X.s₀.heap.objs.size<=b)/\b≠X.env.locals/\(∀ x c,X.env.cells.lookup x=zo c->c≠b)/\∀ p∈X.pn ++ pins,p.1≠b):Inv X pins σ H' s':=by
 obtain ⟨h',g',d',t',o'⟩:=s';have e:o'=s.os:=B;subst e;exact I.call (g':=g') (t':=t') (d':=d') u hok G q
abbrev XK:=aA->Option aB->Hp->Prop
abbrev St:=List (Option V)
abbrev VK:=V->Hp->Prop
abbrev TE:=St->Hp->VK->Prop
variable {tl:TE}
abbrev TT:=St->Hp->(Bool->Hp->Prop)->Prop
variable {tc:TT}
abbrev TA:=St->Hp->(List V->Hp->Prop)->Prop
variable {ta:TA}
structure Ends where
 nx:St->Hp->Prop
 rt:VK
 bk:St->Hp->Prop:=λ_ _=>False
 ct:St->Hp->Prop:=λ_ _=>False
abbrev TS:=Ends->St->Hp->Prop
variable {tb:TS}
def EP (X:Cx) (pins:zAC) (σ:St) (Q:VK) (u:aA) (s':aC):Prop:=∃ v H',Inv X pins σ H' s'/\RelV v u/\Q v H'
def TP (X:Cx) (pins:zAC) (σ:St) (Q:Bool->Hp->Prop) (b:Bool) (s':aC):Prop:=∃ H',Inv X pins σ H' s'/\Q b H'
def AP (X:Cx) (pins:zAC) (σ:St) (Q:List V->Hp->Prop) (us:List aA) (s':aC):Prop:=∃ vs H',Inv X pins σ H' s'/\Vals vs us/\Q vs H'
def SP (X:Cx) (pins:zAC) (D:Ends) (f:Flow) (s':aC):Prop:=
 match f with
 | .next=>∃ σ' H',Inv X pins σ' H' s'/\D.nx σ' H'
 | .brk=>∃ σ' H',Inv X pins σ' H' s'/\D.bk σ' H'
 | .cont=>∃ σ' H',Inv X pins σ' H' s'/\D.ct σ' H'
 | .ret u=>∃ v σ' H',Inv X pins σ' H' s'/\RelV v u/\D.rt v H'
def PE (X:Cx) (e:aH) (t:TE):Prop:=
 ∀ (pins:zAC) (s:aC) (σ:St) (H:Hp) (Q:VK),Inv X pins σ H s->t σ H Q->aF (aI X.prog X.w) X.A (aO e X.env) (EP X pins σ Q) X.xe s
def PT (X:Cx) (e:aH) (t:TT):Prop:=
 ∀ (pins:zAC) (s:aC) (σ:St) (H:Hp) (Q:Bool->Hp->Prop),Inv X pins σ H s->t σ H Q->aF (aI X.prog X.w) X.A (isTrue e X.env (aO e X.env)) (TP X pins σ Q) X.xe s
def PW (X:Cx) (e:aH) (t:TT):Prop:=
 ∀ (whole:Sem aA) (pins:zAC) (s:aC) (σ:St) (H:Hp) (Q:Bool->Hp->Prop),Inv X pins σ H s->t σ H Q->aF (aI X.prog X.w) X.A (isTrue e X.env whole) (TP X pins σ Q) X.xe s
def PA (X:Cx) (es:List aH) (t:TA):Prop:=
 ∀ (pos:Pos) (pins:zAC) (s:aC) (σ:St) (H:Hp) (Q:List V->Hp->Prop),Inv X pins σ H s->t σ H Q->aF (aI X.prog X.w) X.A (spliced (ag pos (aQ es X.env))) (AP X pins σ Q) X.xe s
def PS (X:Cx) (st:aM) (t:TS):Prop:=
 ∀ (pins:zAC) (s:aC) (σ:St) (H:Hp) (D:Ends),Inv X pins σ H s->t D σ H->aF (aI X.prog X.w) X.A (exec st X.env) (SP X pins D) X.xe s
def PSs (X:Cx) (st:List aM) (t:TS):Prop:=
 ∀ (pins:zAC) (s:aC) (σ:St) (H:Hp) (D:Ends),Inv X pins σ H s->t D σ H->aF (aI X.prog X.w) X.A (execs st X.env) (SP X pins D) X.xe s
def thn {α:Type} {t:Sem α} {Q q:α->aC->Prop} (h:aF M A t Q E s) (B:∀ a s,Q a s->q a s):aF M A t q E s:=ay h B λ_ _ x=>x
section
variable {X:Cx}
def Qty (i:Nat):TE:=λσ H Q=>∃ v,σ[i]?=zo (zo v)/\Q v H
def tC (v:V):TE:=λ_ H Q=>Q v H
def Qgw {i:Nat} {x:Str} {pos:Pos} (Y:X.N[i]?=zo x) (U:Vis X.env.scope x) (hd:(x == ("__debug__" : Str))=zb:=by decide) (G:(x == ("__classdict__" : Str))=zb:=by decide):PE X (.Name x pos) (Qty i):=by
 intro pins s σ H Q I h;obtain ⟨v,e,h⟩:=h;obtain ⟨m,Z,hl⟩:=I.loc;obtain ⟨u,r,l⟩:=hl i x v Y e U;have fin:EP X pins σ Q u s:=⟨v,H,I,r,h⟩;rcases l with ⟨B,O⟩ | ⟨B,c,J,q⟩
 ·exact wpAny_Name (wpAny_loadName_local I.ok.kind B Z O fin) hd
 ·rcases B with B | B
  ·exact wpAny_Name (wpAny_loadName_cell I.ok.kind B J q fin) hd
  ·exact wpAny_Name (wpAny_loadName_free I.ok.kind B J q fin G) hd
def Qr1 {i j pos}:PE X (.Constant (.int i) j pos) (tC (.int i)):=λ_ _ _ H _ I h=>wpAny_Constant_int ⟨.int i,H,I.tok _,⟨_,rfl⟩,h⟩
def Quy {b j pos}:PE X (.Constant (.bool b) j pos) (tC (.bl b)):=λ_ _ _ H _ I h=>Constant_bool ⟨.bl b,H,I,rfl,h⟩
def Qr0 {j pos}:PE X (.Constant .none j pos) (tC .non):=λ_ _ _ H _ I h=>Constant_none ⟨.non,H,I,rfl,h⟩
def Qqx {x j pos}:PE X (.Constant (.str x) j pos) (tC (.str x)):=λ_ _ _ H _ I h=>Calls.Constant_str ⟨.str x,H,I.tok _,⟨_,rfl⟩,h⟩
def Gl (X:Cx) (x:Str):Prop:=X.env.kindOf x=zo .globalImplicit
def Qc9 {E:zAF} {σ:St} {x:Str} {pos:Pos} {Q:zAF} (I:Inv X pins σ H s) (B:Gl X x) (q:X.mg x=zo u) (h:Q u s)
  (hd:(x == ("__debug__" : Str))=zb:=by decide):aF (aI X.prog X.w) X.A (aO (.Name x pos) X.env) Q E s:=
 Calls.Name_function_global I.ok.kind B (Calls.loadGlobal_global (by rw [I.ok.glob]; exact I.mod.glob.keeps I.bk) q h) hd
def yj {E:zAF} {σ:St} {x:Str} {pos:Pos} {Q:zAF} (I:Inv X pins σ H s) (B:Gl X x) (q:X.mg x=zl) (G:aZ x=zo u) (h:Q u s)
  (J:x≠"__name__" := by decide) (hd:(x == ("__debug__" : Str))=zb:=by decide):aF (aI X.prog X.w) X.A (aO (.Name x pos) X.env) Q E s:=by
 obtain ⟨mb,h1,h2⟩:=I.mod.blt;exact Calls.Name_function_global I.ok.kind B (Calls.loadGlobal_builtin (by rw [I.ok.glob]; exact I.mod.glob.keeps I.bk) q (by rw [I.ok.blt]; exact h1.keeps I.bk) ((h2 x J).trans G) h) hd
def Qm8 {x:Str} {pos:Pos} (B:Gl X x) (q:X.mg x=zo u) (r:RelV v u) (hd:(x == ("__debug__" : Str))=zb:=by decide):PE X (.Name x pos) (tC v):=
 λ_ _ _ H _ I h=>Qc9 I B q ⟨v,H,I,r,h⟩ hd
def Qmd {x:Str} {pos:Pos} (B:Gl X x) (q:X.mg x=zl) (G:aZ x=zo u) (r:RelV v u) (J:x≠"__name__" := by decide) (hd:(x == ("__debug__" : Str))=zb:=by decide):PE X (.Name x pos) (tC v):=
 λ_ _ _ H _ I h=>yj I B q G ⟨v,H,I,r,h⟩ J hd
variable {a b:aH} {ta tb:TE} {pos:Pos}
def tB (t:TE):TT:=λσ H Q=>t σ H λx H1=>∃ c,x=.bl c/\Q c H1
def Qqk {e:aH} {t:TE} (h:PE X e t) (J:∀ B,isTrue e X.env B=(do let v <- B; standAt e.pos; aw [v] (truthy v)):=by intro _; rfl):PT X e (tB t):=by
 intro pins s σ H Q I U;refine isTrue_plain (thn (h pins s σ H _ I U) λv s1 ⟨x,H1,Y,O,G⟩=>?_) (J _)
 obtain ⟨d,rfl,q⟩:=G;cases O;exact bH ⟨H1,Y,q⟩
variable {tA tB':TT} {rest:List aH}
def Qy2 (t u:TT):TT:=λσ H Q=>t σ H λc H1=>if c=zi then u σ H1 Q else Q zb H1
def tOr (t u:TT):TT:=λσ H Q=>t σ H λc H1=>if c=zi then Q zi H1 else u σ H1 Q
def Qxx (t:TT):TT:=λσ H Q=>t σ H λc H1=>Q (!c) H1
def Qkp (q:PT X a tA):PW X (.BoolOp .And [a] pos) tA:=by
 intro B pins s σ H Q I h;refine isTrue_and (thn (q pins s σ H Q I h) λc s1 e=>?_)
 cases c with
 | true=>exact isTrue_and_nil e
 | false=>exact e
def Qqi (q:PT X a tA):PW X (.BoolOp .Or [a] pos) tA:=by
 intro B pins s σ H Q I h;refine isTrue_or (thn (q pins s σ H Q I h) λc s1 e=>?_)
 cases c with
 | false=>exact isTrue_or_nil e
 | true=>exact e
def Qqj (G:PT X a tA) (J:PW X (.BoolOp .And (b :: rest) pos) tB'):PW X (.BoolOp .And (a :: b :: rest) pos) (Qy2 tA tB'):=by
 intro O pins s σ H Q I h;refine isTrue_and (thn (G pins s σ H _ I h) λc s1 ⟨H1,B,q⟩=>?_)
 cases c with
 | true=>exact J O pins s1 σ H1 Q B q
 | false=>exact ⟨H1,B,q⟩
def Quq (G:PT X a tA) (J:PW X (.BoolOp .Or (b :: rest) pos) tB'):PW X (.BoolOp .Or (a :: b :: rest) pos) (tOr tA tB'):=by
 intro O pins s σ H Q I h;refine isTrue_or (thn (G pins s σ H _ I h) λc s1 ⟨H1,B,q⟩=>?_)
 cases c with
 | true=>exact ⟨H1,B,q⟩
 | false=>exact J O pins s1 σ H1 Q B q
def Qqm (q:PT X a tA):PT X (.UnaryOp .Not a pos) (Qxx tA):=by
 intro pins s σ H Q I h;exact isTrue_not (q pins s σ H (λc H1=>Q (!c) H1) I h)
def Qu9 (ta tb:TE):TE:=λσ H Q=>ta σ H λx H1=>∃ c,x=.bl c/\if c=zi then tb σ H1 Q else Q (.bl zb) H1
def Qu1 (ta:TE):TE:=λσ H Q=>ta σ H λx H1=>∃ c,x=.bl c/\Q (.bl (!c)) H1
def Qqy {op} {t:TE} (h:PE X a t):PE X (.BoolOp op [a] pos) t:=λpins s σ H Q I q=>BoolOp_one (h pins s σ H Q I q)
def Qr3 (G:PE X a ta) (J:PE X (.BoolOp .And (b :: rest) pos) tb):PE X (.BoolOp .And (a :: b :: rest) pos) (Qu9 ta tb):=by
 intro pins s σ H Q I h;refine BoolOp_and (thn (G pins s σ H _ I h) λv s1 ⟨x,H1,B,O,q⟩=>?_)
 obtain ⟨c,rfl,q⟩:=q;cases O;refine bH ?_;cases c with
 | true=>exact J pins s1 σ H1 Q B q
 | false=>exact ⟨.bl zb,H1,B,rfl,q⟩
def Qqz (B:PE X a ta):PE X (.UnaryOp .Not a pos) (Qu1 ta):=by
 intro pins s σ H Q I h;refine UnaryOp_ (thn (B pins s σ H _ I h) λv s1 ⟨x,H1,J,G,q⟩=>?_)
 obtain ⟨c,rfl,q⟩:=q;cases G;exact not_of (bH ⟨.bl (!c),H1,J,rfl,q⟩)
def tIf (t:TT) (ta tb:TE):TE:=λσ H Q=>t σ H λc H1=>if c=zi then ta σ H1 Q else tb σ H1 Q
def Qgz (O:PT X c tA) (G:PE X a ta) (J:PE X b tb):PE X (.IfExp c a b pos) (tIf tA ta tb):=by
 intro pins s σ H Q I h;refine wpAny_IfExp (thn (O pins s σ H _ I h) λd s1 ⟨H1,B,q⟩=>?_)
 cases d with
 | true=>exact G pins s1 σ H1 Q B q
 | false=>exact J pins s1 σ H1 Q B q
end
def SqL (K:be) (H:Hp) (a:aB) (xs:List V):Prop:=
 Rd H a (.lst xs) \/
  ∃ (o:Obj) (its:Array aA) (n:Nat),K.lookup a=zo o/\o.cls=.type "list" /\ o.dict=zl/\o.data=.seq its n/\its.size<=sizeLine/\Vals xs its.toList
def SqT (K:be) (H:Hp) (a:aB) (xs:List V):Prop:=
 Rd H a (.tup xs) \/
  ∃ (o:Obj) (its:Array aA) (n:Nat),K.lookup a=zo o/\o.cls=.type "tuple" /\ o.data=.seq its n/\its.size<=sizeLine/\Vals xs its.toList
def Qyq:aA->Option V
 | .none=>zo .non
 | .bool b=>zo (.bl b)
 | .int i _=>zo (.int i)
 | .str x _=>zo (.str x)
 | .bytes b _=>zo (.byt b)
 | .float b _=>zo (.flt b)
 | .ref a=>zo (.ref a)
 | .type n=>zo (.ty n)
 | _=>zl
def RelV.abs {x:V} (r:RelV x u):Qyq u=zo x:=by
 cases x with
 | non=>cases r; rfl
 | bl _=>cases r; rfl
 | int _=>obtain ⟨t,rfl⟩:=r; rfl
 | str _=>obtain ⟨t,rfl⟩:=r; rfl
 | byt _=>obtain ⟨t,rfl⟩:=r; rfl
 | flt _=>obtain ⟨t,rfl⟩:=r; rfl
 | ref _=>cases r; rfl
 | ty _=>cases r; rfl
def RelV.inj {x y:V} (r:RelV x u) (q:RelV y u):x=y:=bm (r.abs.symm.trans q.abs)
theorem Vals.inj:∀ {xs ys:List V} {us:List aA},Vals xs us->Vals ys us->xs=ys
 | _,_,_,.nil,.nil=>rfl
 | _,_,_,.cons r t,.cons q t'=>by rw [r.inj q,Vals.inj t t']
variable {xs ys:List V}
section
variable {σ:St}
def SqL.of (h:H a=zo (.lst xs)):SqL K H a xs:=.inl (.inl h)
def SqT.of (h:H a=zo (.tup xs)):SqT K H a xs:=.inl (.inl h)
def Inv.list (I:Inv X pins σ H s) (h:SqL X.K H a xs):∃ its:List aA,Vals xs its/\PlainL s.heap a its.toArray/\xs.length<=sizeLine:=by
 rcases h with h | ⟨o,its,n,B,q,hd,hs,hz,r⟩
 ·obtain ⟨z,its,n,r,e⟩:=h.ok I.hok;exact ⟨its,r,⟨_,n,e,rfl,rfl,rfl⟩,z⟩
 ·refine ⟨its.toList,r,⟨o,n,I.kIn a o B,q,hd,by simpa using hs⟩,?_⟩;have e:=r.length;simp only [cB] at e;omega
def Inv.tuple (I:Inv X pins σ H s) (h:SqT X.K H a xs):∃ its:List aA,Vals xs its/\IsTup s.heap a its.toArray/\xs.length<=sizeLine:=by
 rcases h with h | ⟨o,its,n,B,q,hs,hz,r⟩
 ·obtain ⟨z,its,r,p⟩:=h.ok I.hok;exact ⟨its,r,p,z⟩
 ·refine ⟨its.toList,r,⟨o,I.kIn a o B,q,n,by simpa using hs⟩,?_⟩;have e:=r.length;simp only [cB] at e;omega
def Inv.list_inj (I:Inv X pins σ H s) (h:SqL X.K H a xs) (h':SqL X.K H a ys):xs=ys:=by
 obtain ⟨its,r,⟨o,n,e,_,_,d⟩,_⟩:=I.list h;obtain ⟨its',B,⟨o',J,q,_,_,d'⟩,_⟩:=I.list h';rw [e] at q; cases q;rw [d] at d';injection d' with G _
 have:its=its':=by simpa using congrArg ft G
 subst this;exact r.inj B
def Inv.tuple_inj (I:Inv X pins σ H s) (h:SqT X.K H a xs) (h':SqT X.K H a ys):xs=ys:=by
 obtain ⟨its,r,⟨o,e,_,n,d⟩,_⟩:=I.tuple h;obtain ⟨its',B,⟨o',q,_,J,d'⟩,_⟩:=I.tuple h';rw [e] at q; cases q;rw [d] at d';injection d' with G _
 have:its=its':=by simpa using congrArg ft G
 subst this;exact r.inj B
end
variable {st:aM} {u:TS} {te:TE} {pos:Pos}
section
variable {rest:List aM} {t:TS} {e:aH}
def Qu2:TS:=λD σ H=>D.nx σ H
def Qxv (t u:TS):TS:=λD σ H=>t { D with nx:=u D } σ H
def Qku:PSs X [] Qu2:=λ_ _ σ H _ I h=>wpAny_execs_nil ⟨σ,H,I,h⟩
def Qgk (h1:PS X st t) (h2:PSs X rest u):PSs X (st :: rest) (Qxv t u):=by
 intro pins s σ H D I h;refine wpAny_execs_cons (thn (h1 pins s σ H { D with nx:=u D } I h) λf s1 q=>?_)
 cases f with
 | next=>
  obtain ⟨B,H',G,q⟩:=q;exact h2 pins s1 B H' D G q
 | ret v=>exact q
 | brk=>exact q
 | cont=>exact q
def Qkt (h1:PS X st t):PSs X [st] t:=by
 intro pins s σ H D I h;refine wpAny_execs_cons (thn (h1 pins s σ H D I h) λf s1 q=>?_)
 cases f with
 | next=>exact wpAny_execs_nil q
 | ret v=>exact q
 | brk=>exact q
 | cont=>exact q
def Qp9:TS:=λD σ H=>D.bk σ H
def Qgp:PS X (.Break pos) Qp9:=λ_ _ σ H _ I h=>wpAny_Break ⟨σ,H,I,h⟩
def Inv.quiet {σ:St} (I:Inv X pins σ H s):interactive X.env=zb:=by simp [interactive,I.ok.kind]
def Qu3 (te:TE):TS:=λD σ H=>te σ H λ_ H1=>D.nx σ H1
def Qkv (B:PE X e te) (hs:swapsWith e zl pos.line X.env=pure zb:=by rfl):PS X (.Expr e pos) (Qu3 te):=by
 intro pins s σ H D I h;exact wpAny_Expr_any (thn (B pins s σ H _ I h) λv s1 ⟨x,H1,G,J,q⟩=>⟨σ,H1,G,q⟩) I.quiet hs
def Qxw (te:TE):TS:=λD σ H=>te σ H D.rt
def Qqp (B:PE X e te):PS X (.Return (zo e) pos) (Qxw te):=by
 intro pins s σ H D I h;exact wpAny_Return_some (thn (B pins s σ H _ I h) λv s1 ⟨x,H1,J,G,q⟩=>⟨x,σ,H1,J,G,q⟩)
def Qy0 (c:TT) (t u:TS):TS:=λD σ H=>c σ H λb H1=>if b=zi then t D σ H1 else u D σ H1
def Qus {a b:List aM} (O:PT X c tc) (G:PSs X a t) (J:PSs X b u):PS X (.If c a b pos) (Qy0 tc t u):=by
 intro pins s σ H D I h;refine wpAny_If (thn (O pins s σ H _ I h) λd s1 ⟨H1,B,q⟩=>?_)
 cases d with
 | true=>exact G pins s1 σ H1 D B q
 | false=>exact J pins s1 σ H1 D B q
end
abbrev TG:=V->St->Hp->(St->Hp->Prop)->Prop
abbrev TGs:=List V->St->Hp->(St->Hp->Prop)->Prop
def PG (X:Cx) (target:aH) (t:TG):Prop:=
 ∀ (pins:zAC) (s:aC) (σ:St) (H:Hp) (v:V) (u:aA) (Q:St->Hp->Prop),Inv X pins σ H s->RelV v u->t v σ H Q ->
  aF (aI X.prog X.w) X.A (assign target X.env u) (λ_ s'=>∃ σ' H',Inv X pins σ' H' s'/\Q σ' H') X.xe s
def PGs (X:Cx) (ts:List aH) (t:TGs):Prop:=
 ∀ (pins:zAC) (s:aC) (σ:St) (H:Hp) (vs:List V) (us:List aA) (Q:St->Hp->Prop),Inv X pins σ H s->Vals vs us->t vs σ H Q ->
  aF (aI X.prog X.w) X.A (assignInOrder ((bB ts X.env).map (·.2)) us) (λ_ s'=>∃ σ' H',Inv X pins σ' H' s'/\Q σ' H') X.xe s
abbrev Qjd:=V->V->V->Hp->(Hp->Prop)->Prop
def Qt4 (X:Cx) (t:Qjd):Prop:=
 ∀ (pins:zAC) (s:aC) (σ:St) (H:Hp) (o i v:V) (ov iv u:aA) (Q:Hp->Prop),Inv X pins σ H s->RelV o ov->RelV i iv->RelV v u->t o i v H Q ->
  aF (aI X.prog X.w) X.A (setItem ov iv u) (λ_ s'=>∃ H',Inv X pins σ H' s'/\Q H') X.xe s
abbrev TIp:=V->V->Hp->VK->Prop
def PIp (X:Cx) (op:Operator) (t:TIp):Prop:=
 ∀ (pins:zAC) (s:aC) (σ:St) (H:Hp) (x y:V) (v u:aA) (Q:VK),Inv X pins σ H s->RelV x v->RelV y u->t x y H Q ->
  aF (aI X.prog X.w) X.A (inplaceOp op v u) (EP X pins σ Q) X.xe s
def Q96 (i:Nat):TG:=λv σ H Q=>Q (σ.set i (zo v)) H
def Qm7 {i:Nat} {x:Str} (G:X.N.Nodup) (hi:X.N[i]?=zo x) (J:Loc X.env.scope x) (B:X.fn x=zi\/X.env.scope.names.lookup x=zo .local:=by first | exact .inl rfl | exact .inr rfl | assumption):PG X (.Name x pos) (Q96 i):=by
 intro pins s σ H v u Q I r h;exact wpAny_assign_Name (Q7t I G hi J r (λs' q=>⟨_,H,q,h⟩) B)
def Qw9:TGs:=λvs σ H Q=>vs=[]/\Q σ H
def Qi1 (t:TG) (u:TGs):TGs:=λvs σ H Q=>∃ v r,vs=v :: r/\t v σ H λσ' H'=>u r σ' H' Q
def Qm5:PGs X [] Qw9:=by
 intro pins s σ H vs us Q I r h;obtain ⟨e,h⟩:=h;subst e;cases r;exact assignInOrder_nil ⟨σ,H,I,h⟩
def Qgv {e:aH} {t:TG} {u:TGs} (h1:PG X e t) (h2:PGs X es u)
  (hs:(bB (e :: es) X.env).map (·.2)=assign e X.env :: (bB es X.env).map (·.2):=by rfl):PGs X (e :: es) (Qi1 t u):=by
 intro pins s σ H vs us Q I r h;obtain ⟨v,U,G,h⟩:=h;subst G;cases r with
 | cons r J=>
  rw [hs];refine assignInOrder_cons (thn (h1 pins s σ H _ _ _ I r h) λ_ s1 ⟨q,H1,O,B⟩=>?_)
  exact h2 pins s1 q H1 _ _ Q O J B
def Qw8 (K:be) (n:Nat) (t:TGs):TG:=λv σ H Q=>∃ a xs,v=.ref a/\SqT K H a xs/\xs.length=n/\t xs σ H Q
def Qqu {k:Nat} {t:TGs} {n:Nat} (U:X.calm=zi) (h:PGs X es t)
  (hn:(bB es X.env).length=n:=by rfl) (q:(bB es X.env).findIdx? (·.1)=zl:=by rfl):PG X (.Tuple es k pos) (Qw8 X.K n t):=by
 intro pins s σ H v u Q I r B;obtain ⟨a,xs,J,Z,hl,B⟩:=B;subst J;cases r;obtain ⟨its,G,O,hz⟩:=I.tuple Z;refine assign_Tuple_tuple (I.ok.hd U) O (by simp [hn,<- hl,G.length]) q λh' Y=>?_
 have I1:Inv X pins σ H { s with heap:=h' }:=I.kept (t':=s.toks) λb o e=>Y b o (D9 (O9 e)) e
 exact h pins _ σ H xs _ Q I1 (by simpa using G) B
def Qyj (to ti:TE) (t:Qjd):TG:=λv σ H Q=>to σ H λo H1=>ti σ H1 λi H2=>t o i v H2 λH3=>Q σ H3
def Qqv {o i:aH} {to G:TE} {t:Qjd} (ho:PE X o to) (hi:PE X i G) (hs:Qt4 X t)
  (J:∀ v,assign (.Subscript o i pos) X.env v=(do
   let q <- aw [v] (aO o X.env)
   let B <- aw [v,q] (aO i X.env)
   standAt pos
   aw [v,q,B] (setItem q B v)
   release [v,q,B] []):=by intro _; rfl):PG X (.Subscript o i pos) (Qyj to G t):=by
 intro pins s σ H v u Q I r h;rw [J];refine aD (ak (thn (ho pins s σ H _ I h) λq s1 ⟨x,H1,I1,r1,Y⟩=>?_))
 refine aD (ak (thn (hi pins s1 σ H1 _ I1 Y) λB s2 ⟨y,H2,I2,O,Z⟩=>?_))
 refine aD (wpAny_standAt (aD (ak (thn (hs pins s2 σ H2 x y v q B u _ I2 r1 O r Z) λ_ s3 ⟨U,I3,q3⟩=>?_))))
 exact wpAny_release ⟨σ,U,I3,q3⟩
def Qpa (te:TE) (g:TG):TS:=λD σ H=>te σ H λx H1=>g x σ H1 D.nx
def Qgq {e:aH} {g:TG} (J:PE X e te) (B:PG X tg g) (hs:swapsWithSole [tg] e pos.line X.env=pure zb:=by rfl) (U:swappedStores [tg] e X.env=pure zl:=by rfl)
  (h1:(bB [tg] X.env).map (·.2)=[assign tg X.env]:=by rfl):PS X (.Assign [tg] e pos) (Qpa te g):=by
 intro pins s σ H D I h;refine wpAny_Assign_stores (thn (J pins s σ H _ I h) λv s1 ⟨x,H1,Y,O,G⟩=>?_) hs U
 rw [h1];exact thn (B pins s1 σ H1 x v _ Y O G) λ_ Z q=>q
def Qqn {i:Nat} {x:Str} {e:aH} {pos':Pos} (O:X.N.Nodup) (hi:X.N[i]?=zo x) (Y:Loc X.env.scope x) (G:PE X e te) (hs:swapsWith e (zo (.Name x pos')) pos.line X.env=pure zb:=by rfl) (J:X.fn x=zi\/X.env.scope.names.lookup x=zo .local:=by first | exact .inl rfl | exact .inr rfl | assumption) :
  PS X (.Assign [.Name x pos'] e pos) (Qpa te (Q96 i)):=by
 intro pins s σ H D I h;refine wpAny_Assign_Name (thn (G pins s σ H _ I h) λv s1 ⟨y,H1,Z,U,q⟩=>?_) hs
 exact Q7t Z O hi Y U (λs2 B=>⟨_,H1,B,q⟩) J
def Qu8 (to ti te:TE) (tget:V->V->Hp->VK->Prop) (tip:TIp) (tset:Qjd):TS:=λD σ H=>to σ H λo H1=>ti σ H1 λi H2=>tget o i H2 λx H3=>te σ H3 λy H4=>tip x y H4 λz H5=>tset o i z H5 λH6=>D.nx σ H6
def Qwx (X:Cx) (t:V->V->Hp->VK->Prop):Prop:=
 ∀ (pins:zAC) (s:aC) (σ:St) (H:Hp) (o i:V) (ov iv:aA) (Q:VK),Inv X pins σ H s->RelV o ov->RelV i iv->t o i H Q ->
  aF (aI X.prog X.w) X.A (getItem ov iv) (EP X pins σ Q) X.xe s
def Qkx {o i e:aH} {to ti:TE} {B:V->V->Hp->VK->Prop} {O:TIp} {q:Qjd} {op:Operator} {tpos:Pos} (ho:PE X o to) (hi:PE X i ti) (hg:Qwx X B) (he:PE X e te) (hp:PIp X op O) (hs:Qt4 X q)
  (ha:∀ J G new,augStore i J G new=(do aw [new,J,G] (setItem J G new); release [new,J,G] []; pure .next):=by intros; rfl):PS X (.AugAssign (.Subscript o i tpos) op e pos) (Qu8 to ti te B O q):=by
 intro pins s σ H D I h;refine wpAny_AugAssign_SubscriptAny (thn (ho pins s σ H _ I h) λJ s1 ⟨Y,H1,I1,Z,q1⟩=>?_) ha
 refine thn (hi pins s1 σ H1 _ I1 q1) λG s2 ⟨x2,H2,I2,U,q2⟩=>?_
 refine thn (hg pins s2 σ H2 Y x2 J G _ I2 Z U q2) λold s3 ⟨x3,H3,I3,r3,q3⟩=>?_
 refine thn (he pins s3 σ H3 _ I3 q3) λv s4 ⟨x4,H4,I4,r4,q4⟩=>?_
 refine thn (hp pins s4 σ H4 x3 x4 old v _ I4 r3 r4 q4) λnew s5 ⟨x5,H5,I5,r5,q5⟩=>?_
 exact thn (hs pins s5 σ H5 Y x2 x5 J G new _ I5 Z U r5 q5) λ_ s6 ⟨H6,I6,q6⟩=>⟨σ,H6,I6,q6⟩
def ipI (f:Int->Int->Int):TIp:=λx y H Q=>∃ i j,x=.int i/\y=.int j/\Q (.int (f i j)) H
def Qs8:PIp X .Add (ipI λi j=>i + j):=by
 intro pins s σ H x y v u Q I O B h;obtain ⟨i,j,J,G,q⟩:=h;subst J; subst G;obtain ⟨t,rfl⟩:=O;obtain ⟨t',rfl⟩:=B;exact iadd_int ⟨.int _,H,I.tok _,⟨_,rfl⟩,q⟩
def Qs7:PIp X .Sub (ipI λi j=>i - j):=by
 intro pins s σ H x y v u Q I O B h;obtain ⟨i,j,J,G,q⟩:=h;subst J; subst G;obtain ⟨t,rfl⟩:=O;obtain ⟨t',rfl⟩:=B;exact isub_int ⟨.int _,H,I.tok _,⟨_,rfl⟩,q⟩
def Qp7 (c:TT) (tb:TS):TS:=λD σ H=>∃ W:Nat->St->Hp->Prop,(∃ m,W m σ H)/\∀ m σ H,W m σ H ->
 c σ H λb H1=>if b=zi then ∃ N:St->Hp->Prop,(∀ σ' H',N σ' H'->∃ m',m' < m/\W m' σ' H')/\tb { D with nx:=N,ct:=N,bk:=D.nx } σ H1 else D.nx σ H1
def Qgm {body:List aM} (hp:PassesOwn (aI X.prog X.w) X.A X.env X.xe) (hc:PT X c tc) (hb:PSs X body tb):PS X (.While c body [] pos) (Qp7 tc tb):=by
 intro pins s σ H D I h;obtain ⟨W,⟨m0,w0⟩,turn⟩:=h;refine wpAny_While (codeAny_whileLoop (λn s'=>∃ J H',Inv X pins J H' s'/\W n J H') ?_ m0 ⟨σ,H,I,w0⟩);rintro n s1 ⟨B,H1,I1,w1⟩;refine bM hp (thn (hc pins s1 B H1 _ I1 (turn n B H1 w1)) λb s2 ⟨H2,I2,O⟩=>?_)
 cases b with
 | true=>
  obtain ⟨N,hN,O⟩:=O;rw [bX rfl];refine bM hp (thn (hb pins s2 B H2 _ I2 O) λf s3 U=>?_)
  cases f with
  | next=>
   obtain ⟨q,G,I3,Y⟩:=U;obtain ⟨Z,hm,w3⟩:=hN q G Y;exact ⟨Z,hm,q,G,I3,w3⟩
  | cont=>
   obtain ⟨q,G,I3,Y⟩:=U;obtain ⟨Z,hm,w3⟩:=hN q G Y;exact ⟨Z,hm,q,G,I3,w3⟩
  | brk=>exact U
  | ret v=>exact U
 | false=>
  rw [bY E1];exact wpAny_execs_nil ⟨B,H2,I2,O⟩
structure It where
 go:Nat->Hp->Prop
 yld:Nat->Hp->V->Hp->Prop
 stop:Nat->Hp->Prop
def Q4s (X:Cx) (pins:zAC) (H:Hp) (b:aB):Prop:=
 H b=zl/\b≠X.env.locals/\b∉X.fs/\(b∈X.ex\/X.s₀.heap.objs.size<=b)/\(∀ x c,X.env.cells.lookup x=zo c->c≠b)/\∀ p∈X.pn ++ pins,p.1≠b
def Inv.fpOk {σ:St} (I:Inv X pins σ H s) (B:s.heap.objs.size<=b) (J:H' b=zl):Q4s X pins H' b:=by
 refine ⟨J,L7 (D7 I.lt B),I.nofs B,.inr (F3 I.sz B),λx c e z=>?_,λp G z=>?_⟩
 ·obtain ⟨v,q⟩:=I.cell x c e;exact absurd (D7 q.lt (by rw [z]; exact B)) (M8 _)
 ·exact absurd (D7 (O9 (I.pin p G).1) (by rw [z]; exact B)) (M8 _)
structure Turn (P:aL) (w:aK) (K:be) (tg:aH) (J:It) (fp:List aB) (it:aB) (tn:Nat->Heap->Prop):Prop where
 mem:it∈fp
 obj:∀ i h,tn i h->∀ b∈fp,∃ o,h.get? b=zo o/\∀ v,o.data≠.cell v
 keep:∀ i h h',tn i h->(∀ b∈fp,∀ o,h.get? b=zo o->h'.get? b=zo o)->tn i h'
 item:∀ (X:Cx),X.prog=P->X.w=w->X.K=K->X.calm=zi->∀ (i:Nat) (pins:zAC) (s:aC) (σ:St) (H:Hp) (E:zAF),Inv X pins σ H s->(∀ b∈fp,Q4s X pins H b)->tn i s.heap->J.go i H ->
  aF (aI P w) X.A (ao (.ref it)) (λr s1=>∃ u,r=zo u /\
   aF (aI P w) X.A (letOwnedTupleGo tg (.ref it) u) (λ_ s2=>∃ x H',Inv X pins σ H' s2/\RelV x u/\J.yld i H x H'/\tn (i + 1) s2.heap/\∀ b∈fp,H' b=zl) E s1) E s
 done:∀ (X:Cx),X.prog=P->X.w=w->X.K=K->X.calm=zi->∀ (i:Nat) (pins:zAC) (s:aC) (σ:St) (H:Hp) (E:zAF),Inv X pins σ H s->(∀ b∈fp,Q4s X pins H b)->tn i s.heap->J.stop i H ->
  aF (aI P w) X.A (ao (.ref it)) (λr s1=>r=zl/\Inv X pins σ H s1) E s
 self:∀ (A:aP) (i:Nat) (s:aC) (Q:zAF) (E:zAF),tn i s.heap->Q (.ref it) s->aF (aI P w) A (pyIter (.ref it)) Q E s
abbrev TI:=St->Hp->(It->Hp->Prop)->Prop
def PIE (X:Cx) (pins:zAC) (σ:St) (tg:aH) (R:It->Hp->Prop) (itv:aA) (s2:aC):Prop:=
 ∃ (it:aB) (fp:List aB) (tn:Nat->Heap->Prop) (J:It) (H':Hp),itv=.ref it/\Inv X pins σ H' s2/\Turn X.prog X.w X.K tg J fp it tn/\tn 0 s2.heap/\(∀ b∈fp,Q4s X pins H' b)/\R J H'
def PI (X:Cx) (tg iter:aH) (wi:TI):Prop:=
 ∀ (pins:zAC) (s:aC) (σ:St) (H:Hp) (R:It->Hp->Prop),Inv X pins σ H s->wi σ H R ->
  aF (aI X.prog X.w) X.A (aO iter X.env) (λv s1=>aF (aI X.prog X.w) X.A (pyIter v) (PIE X pins σ tg R) X.xe s1) X.xe s
def Qcf {M:Model} {A:aP} {E:zAF} {tg:aH} {u:aA} {o:Obj} {n:String} {vs:Array aA} {Q:Unit->aC->Prop} (B:s.heap.get? it=zo o) (G:o.cls=.type n) (hd:o.data=.fields vs)
  (I:["enumerate", "zip", "dict_itemiterator", "dict_reverseitemiterator", "odict_iterator", "itertools.zip_longest", "itertools.pairwise"].contains n=zb) (q:Q PUnit.unit s):aF M A (letOwnedTupleGo tg (.ref it) u) Q E s:=by
 unfold letOwnedTupleGo;cases tg <;> first
  | exact aJ q
  | (cases u <;> first
    | exact aJ q
    | (refine aD (wpAny_load B ?_)
       rw [G,hd];show aF M A (if (["enumerate", "zip", "dict_itemiterator", "dict_reverseitemiterator", "odict_iterator", "itertools.zip_longest", "itertools.pairwise"].contains n && vs[0]? == zo (aS _))=zi then _ else _) Q E s;rw [bY (by intro h; rw [I,F8] at h; cases h)];exact aJ q))
def Itl (K:be) (a:aB):It:=
 ⟨λi H=>∃ xs x,SqL K H a xs/\xs[i]?=zo x,λi H x H'=>H'=H/\∀ xs,SqL K H a xs->xs[i]?=zo x,λi H=>∃ xs,SqL K H a xs/\xs.length<=i⟩
def Itt (K:be) (a:aB):It:=
 ⟨λi H=>∃ xs x,SqT K H a xs/\xs[i]?=zo x,λi H x H'=>H'=H/\∀ xs,SqT K H a xs->xs[i]?=zo x,λi H=>∃ xs,SqT K H a xs/\xs.length<=i⟩
def Itr (lo:Int) (n:Nat):It:=⟨λi _=>i < n,λi H x H'=>H'=H/\x=.int (lo + i),λi _=>n<=i⟩
def Qcx {w:aK} (a it:aB):Turn P w K tg (Itl K a) [it] it (λi h=>h.IsListIter it a i) where
 mem:=by simp
 obj:=λi h st b q=>by
  have e:b=it:=by simpa using q
  subst e;obtain ⟨o,e,c,d⟩:=st;exact ⟨o,e,λv z=>by rw [d] at z; cases z⟩
 keep:=λi h h' st k=>st.at λo e=>k it (by simp) o e
 item:=by
  intro X hP hw Z hc i pins s σ H E I G st hg;subst hP hw Z;obtain ⟨xs,x,B,J⟩:=hg;obtain ⟨its,Y,p,hz⟩:=I.list B;obtain ⟨u,hu,ru⟩:=Y.get J;obtain ⟨f0,f1,f2,f3,U,O⟩:=G it (by simp);refine wpAny_pyNext_list_item st p.isList (x:=u) (by simpa using hu) λh' st' sb=>?_
  have I1:Inv X pins σ H { s with heap:=h' }:=I.turned (t':=s.toks) (λb o q e=>(sb.2 b q).trans e) f0 f1 f3 U O
  obtain ⟨o,e,c,d⟩:=id st';exact ⟨u,rfl,Qcf (s:={ s with heap:=h' }) e c d (by decide) ⟨x,H,I1,ru,⟨rfl,λys hy=>by rw [I.list_inj hy B]; exact J⟩,st',λb q=>(G b q).1⟩⟩
 done:=by
  intro X hP hw Z hc i pins s σ H E I G st hg;subst hP hw Z;obtain ⟨xs,B,J⟩:=hg;obtain ⟨its,Y,p,hz⟩:=I.list B;obtain ⟨f0,f1,f2,f3,U,O⟩:=G it (by simp);have hl:=Y.length;exact wpAny_pyNext_list_end (I.ok.hd hc) st p.isList (by simp; omega) λh' eb=>⟨rfl,I.turned (t':=s.toks) (λb o q e=>eb b o q e) f0 f1 f3 U O⟩
 self:=λ_ _ _ _ _ st h=>wpAny_pyIter_listiter st h
def Q9w {w:aK} (a it:aB):Turn P w K tg (Itt K a) [it] it (λi h=>h.IsTupleIter it a i) where
 mem:=by simp
 obj:=λi h st b q=>by
  have e:b=it:=by simpa using q
  subst e;obtain ⟨o,e,c,d⟩:=st;exact ⟨o,e,λv z=>by rw [d] at z; cases z⟩
 keep:=λi h h' st k=>st.at λo e=>k it (by simp) o e
 item:=by
  intro X hP hw Z hc i pins s σ H E I G st hg;subst hP hw Z;obtain ⟨xs,x,B,J⟩:=hg;obtain ⟨its,Y,p,hz⟩:=I.tuple B;obtain ⟨u,hu,ru⟩:=Y.get J;obtain ⟨f0,f1,f2,f3,U,O⟩:=G it (by simp);refine wpAny_pyNext_tuple_item st (show s.heap.IsTuple a its.toArray from p) (x:=u) (by simpa using hu) λh' st' sb=>?_
  have I1:Inv X pins σ H { s with heap:=h' }:=I.turned (t':=s.toks) (λb o q e=>(sb.2 b q).trans e) f0 f1 f3 U O
  obtain ⟨o,e,c,d⟩:=id st';exact ⟨u,rfl,Qcf (s:={ s with heap:=h' }) e c d (by decide) ⟨x,H,I1,ru,⟨rfl,λys hy=>by rw [I.tuple_inj hy B]; exact J⟩,st',λb q=>(G b q).1⟩⟩
 done:=by
  intro X hP hw Z hc i pins s σ H E I G st hg;subst hP hw Z;obtain ⟨xs,B,J⟩:=hg;obtain ⟨its,Y,p,hz⟩:=I.tuple B;obtain ⟨f0,f1,f2,f3,U,O⟩:=G it (by simp);have hl:=Y.length;exact wpAny_pyNext_tuple_end (I.ok.hd hc) st (show s.heap.IsTuple a its.toArray from p) (by simp; omega) λh' eb=>⟨rfl,I.turned (t':=s.toks) (λb o q e=>eb b o q e) f0 f1 f3 U O⟩
 self:=λ_ _ _ _ _ st h=>wpAny_pyIter_tupleiter st h
def Q9x {w:aK} (it:aB) (lo:Int) (n:Nat):Turn P w K tg (Itr lo n) [it] it (λi h=>IsRangeIter h it (lo + (i:Nat) * 1) ((n:Int) - (i:Nat)) 1) where
 mem:=by simp
 obj:=λi h st b q=>by
  have e:b=it:=by simpa using q
  subst e;exact ⟨_,st,λv z=>by
   have z':Data.fields _=Data.cell v:=z;cases z'⟩
 keep:=λi h h' st k=>k it (by simp) _ st
 item:=by
  intro X hP hw U G i pins s σ H E I B st Z;subst hP hw U;obtain ⟨f0,Y,f2,f3,O,J⟩:=B it (by simp);have W:=Walks.range (prog:=X.prog) (w:=X.w) (I.ok.hd G) it lo 1 n;refine W.item i s _ _ Z st λv h' tk hv st' kk=>?_
  obtain ⟨t,rfl⟩:=hv;have I1:Inv X pins σ H { s with heap:=h',toks:=tk }:=I.turned (λb o q e=>kk b o (by simpa using q) e) f0 Y f3 O J
  refine ⟨_,rfl,Qcf (s:={ s with heap:=h',toks:=tk }) (n := "range_iterator") st' rfl rfl (by decide) ⟨.int (lo + i),H,I1,⟨t,?_⟩,⟨rfl,rfl⟩,st',λb q=>(B b q).1⟩⟩
  rw [Int.mul_one]
 done:=by
  intro X hP hw U G i pins s σ H E I B st Z;subst hP hw U;obtain ⟨f0,Y,f2,f3,O,J⟩:=B it (by simp);exact wpAny_pyNext_range_end (I.ok.hd G) st (by have:n<=i:=Z; omega) λh' eb=>⟨rfl,I.turned (t':=s.toks) (λb o q e=>eb b o q e) f0 Y f3 O J⟩
 self:=λ_ _ _ _ _ st h=>wpAny_pyIter_rangeiter st h
variable {tg:aH}
def Qw3 (K:be) (tl:TE):TI:=λσ H R=>tl σ H λx H1=>∃ a,x=.ref a/\(∃ xs,SqL K H1 a xs)/\R (Itl K a) H1
def Qyi (K:be) (tl:TE):TI:=λσ H R=>tl σ H λx H1=>∃ a,x=.ref a/\(∃ xs,SqT K H1 a xs)/\R (Itt K a) H1
def Qm2 (hl:PE X l tl):PI X tg l (Qw3 X.K tl):=by
 intro pins s σ H R I h;refine thn (hl pins s σ H _ I h) λv s1 ⟨x,H1,B,O,G⟩=>?_
 obtain ⟨a,e,⟨xs,U⟩,q⟩:=G;subst e;cases O;obtain ⟨its,Y,p,hz⟩:=B.list U;refine wpAny_pyIter_list p.isList ?_;refine ⟨s1.heap.objs.size,[s1.heap.objs.size],_,_,H1,rfl,B.kept (t':=s1.toks) λb o e=>O1 _ e,Qcx a _,⟨_,D2 _ rfl,rfl,rfl⟩,λb J=>?_,q⟩
 have e:b=s1.heap.objs.size:=by simpa using J
 subst e;exact B.fpOk (O6 _) (B.hok.fresh (O6 _))
def Qqt (hl:PE X l tl):PI X tg l (Qyi X.K tl):=by
 intro pins s σ H R I h;refine thn (hl pins s σ H _ I h) λv s1 ⟨x,H1,B,O,G⟩=>?_
 obtain ⟨a,e,⟨xs,U⟩,q⟩:=G;subst e;cases O;obtain ⟨its,Y,p,hz⟩:=B.tuple U;refine bR (show s1.heap.IsTuple a its.toArray from p) ?_;refine ⟨s1.heap.objs.size,[s1.heap.objs.size],_,_,H1,rfl,B.kept (t':=s1.toks) λb o e=>O1 _ e,Q9w a _,⟨_,D2 _ rfl,rfl,rfl⟩,λb J=>?_,q⟩
 have e:b=s1.heap.objs.size:=by simpa using J
 subst e;exact B.fpOk (O6 _) (B.hok.fresh (O6 _))
def Q87 {σ:St} {R:It->Hp->Prop} {E:zAF} {lo hi:Int} {t u v:Tok} {B:Nat} (I:Inv X pins σ H s) (h1:-(2 ^ 62)<=lo) (h2:lo < 2 ^ 62) (Z:-(2 ^ 62)<=hi) (Y:hi < 2 ^ 62)
  (q:R (Itr lo (hi - lo).toNat) H):aF (aI X.prog X.w) X.A (pyIter (.ref s.heap.objs.size)) (PIE X pins σ tg R) E { s with heap:=s.heap.push { cls:=.type "range",data:=.fields #[.int lo t,.int hi u,.int 1 v] },toks:=B }:=by
 refine wpAny_pyIter_range (IsRange.new ..) (small_one h1 h2 Z Y) ?_;have G:Inv X pins σ H { s with heap:=s.heap.push { cls:=.type "range",data:=.fields #[.int lo t,.int hi u,.int 1 v] },toks:=B }:=I.kept λb o e=>O1 _ e
 refine ⟨(s.heap.push { cls:=.type "range",data:=.fields #[.int lo t,.int hi u,.int 1 v] }).objs.size,[(s.heap.push { cls:=.type "range",data:=.fields #[.int lo t,.int hi u,.int 1 v] }).objs.size],_,_,H,rfl,
  G.kept (t':=B) λb o e=>O1 _ e,Q9x _ lo (hi - lo).toNat,?_,λb U=>?_,q⟩
 ·have O:lo + ((0:Nat):Int) * 1=lo:=by simp
  have J:(((hi - lo).toNat:Nat):Int) - ((0:Nat):Int)=Builtin.Range.rangeSize lo hi 1:=by rw [rangeSize_one]; split <;> omega
  show IsRangeIter _ _ (lo + ((0:Nat):Int) * 1) ((((hi - lo).toNat:Nat):Int) - ((0:Nat):Int)) 1;rw [O,J];exact D2 _ rfl
 ·have e:b=(s.heap.push { cls:=.type "range",data:=.fields #[.int lo t,.int hi u,.int 1 v] }).objs.size:=by simpa using U
  subst e;exact G.fpOk (O6 _) (G.hok.fresh (O6 _))
def Qw2 (ta:TA):TI:=λσ H R=>ta σ H λvs H1=>∃ j:Int,vs=[.int j]/\-(2 ^ 62)<=j/\j < 2 ^ 62/\R (Itr 0 j.toNat) H1
def Qw1 (ta:TA):TI:=λσ H R=>ta σ H λvs H1=>∃ i j:Int,vs=[.int i,.int j]/\(-(2 ^ 62)<=i/\i < 2 ^ 62/\-(2 ^ 62)<=j/\j < 2 ^ 62)/\R (Itr i (j - i).toNat) H1
def Qdi {a:aH} {p:Pos} (J:Gl X "range") (G:X.mg "range" = zl) (O:PA X [a] ta) (hs:aQ [a] X.env=[(zb,aO a X.env)]:=by rfl):PI X tg (.Call (.Name "range" p) [a] [] pos) (Qw2 ta):=by
 intro pins s σ H R I h;refine Call_ (yj I J G boot_range (dH (thn (O pos pins s σ H _ I h) λus s1 ⟨vs,H1,I1,Y,B⟩=>?_) hs rfl))
 obtain ⟨j,e,B,U,q⟩:=B;subst e;cases Y with
 | cons r Z=>
  cases Z;obtain ⟨t,rfl⟩:=r;exact call_range_1 (Q87 I1 () () B U (by simpa using q))
def Qdh {a b:aH} {p pos:Pos} (Y:Gl X "range") (O:X.mg "range" = zl) (U:PA X [a,b] ta) (hs:aQ [a,b] X.env=[(zb,aO a X.env),(zb,aO b X.env)]:=by rfl) (B:aQ [b] X.env=[(zb,aO b X.env)]:=by rfl) :
  PI X tg (.Call (.Name "range" p) [a,b] [] pos) (Qw1 ta):=by
 intro pins s σ H R I h;refine Call_ (yj I Y O boot_range (dH (thn (U pos pins s σ H _ I h) λus s1 ⟨vs,H1,I1,r1,G⟩=>?_) (by rw [hs,B]) (by rw [B]; rfl)))
 obtain ⟨i,j,e,⟨G,Z,q3,q4⟩,q⟩:=G;subst e;cases r1 with
 | cons r J=>
  cases J with
  | cons r' J=>
   cases J;obtain ⟨t,rfl⟩:=r;obtain ⟨t',rfl⟩:=r';exact call_range_2 (Q87 I1 G Z q3 q4 q)
def Qy1 (wi:TI) (g:TG) (tb:TS):TS:=λD σ H=>wi σ H λJ H1=>∃ W:Nat->Nat->St->Hp->Prop,(∃ m,W 0 m σ H1)/\∀ i m σ H,W i m σ H ->
 (J.stop i H/\D.nx σ H)\/(J.go i H/\∃ N:St->Hp->Prop,(∀ σ' H',N σ' H'->∃ m',m' < m/\W (i + 1) m' σ' H')/\∀ x H',J.yld i H x H'->g x σ H' λσ2 H2=>tb { D with nx:=N,ct:=N,bk:=D.nx } σ2 H2)
def Q3p (fp:List aB) (h:Heap):zAC:=fp.filterMap λb=>(h.get? b).map λo=>(b,o)
def U5 {o:Obj} (q:b∈fp) (e:h.get? b=zo o):(b,o)∈Q3p fp h:=di.mpr ⟨b,q,by rw [e]; rfl⟩
def Qdq {p:aB × Obj} (B:p∈Q3p fp h):p.1∈fp/\h.get? p.1=zo p.2:=by
 obtain ⟨b,G,e⟩:=di.mp B;cases q:h.get? b with
 | none=>rw [q] at e; cases e
 | some o=>
  rw [q] at e;have I:(b,o)=p:=bm e;subst I;exact ⟨G,q⟩
def Inv.pinned {σ:St} (I:Inv X pins σ H s) (U:∀ b∈fp,Q4s X pins H b) (O:∀ b∈fp,∃ o,s.heap.get? b=zo o/\∀ v,o.data≠.cell v):Inv X (pins ++ Q3p fp s.heap) σ H s:=
 I.pins_of λp G=>(E6.mp G).elim (λz=>I.pin p (F6 _ z)) λz=>by
  obtain ⟨B,e⟩:=Qdq z;obtain ⟨Y,Z,J,_⟩:=U p.1 B;obtain ⟨o,q,d⟩:=O p.1 B;rw [e] at q; cases q;exact ⟨e,Y,Z,J,d⟩
def Inv.unpinned {B:zAC} {σ:St} (I:Inv X (pins ++ B) σ H s):Inv X pins σ H s:=I.pins_of λp q=>I.pin p (F6 _ (M6 _ q))
def Qqq {iter:aH} {body:List aM} {wi:TI} {g:TG} {pos:Pos} (hp:PassesOwn (aI X.prog X.w) X.A X.env X.xe) (hc:X.calm=zi) (hi:PI X tg iter wi) (hg:PG X tg g) (O:PSs X body tb)
  (hs:∀ x,bI iter X.env x=pure x:=by intro _; rfl):PS X (.For tg iter body [] pos) (Qy1 wi g tb):=by
 intro pins s σ H D I h;refine wpAny_For (thn (hi pins s σ H _ I h) λv s1 h1=>thn h1 λa8 s2 h2=>?_) hs
 obtain ⟨it,fp,tn,J,H2,e,I2,T,a6,f2,W,⟨m0,w0⟩,turn⟩:=h2;subst e;have G:∀ {H':Hp},(∀ b∈fp,H' b=zl)->∀ b∈fp,Q4s X pins H' b:=λhn b O=>⟨hn b O,(f2 b O).2⟩
 refine codeAny_forLoop_any (λn s'=>∃ i Y H',Inv X pins Y H' s'/\tn i s'.heap/\(∀ b∈fp,H' b=zl)/\W i n Y H') ?_ m0 ⟨0,σ,H2,I2,a6,λb O=>(f2 b O).1,w0⟩
 rintro n s3 ⟨i,Z,H3,I3,a3,a2,w3⟩;rcases turn i n Z H3 w3 with ⟨stop,qn⟩ | ⟨go,N,hN,step⟩
 ·refine bM hp (thn (T.done X rfl rfl rfl hc i pins s3 Z H3 X.xe I3 (G a2) a3 stop) λr s4 ⟨hr,I4⟩=>?_)
  subst hr;exact wpAny_execs_nil ⟨Z,H3,I4,qn⟩
 ·refine bM hp (thn (T.item X rfl rfl rfl hc i pins s3 Z H3 X.xe I3 (G a2) a3 go) λr s4 ⟨u,hr,h4⟩=>?_)
  subst hr;refine bM hp (thn h4 λ_ s5 ⟨x,H5,I5,r5,y5,a1,a7⟩=>?_);have a5:=I5.pinned (G a7) (T.obj _ _ a1);refine bM hp (thn (hg _ s5 Z H5 x u _ a5 r5 (step x H5 y5)) λ_ s6 ⟨a4,H6,I6,q6⟩=>?_)
  refine bM hp (thn (O _ s6 a4 H6 _ I6 q6) λf s7 q7=>?_)
  have again:∀ {q:St} {B:Hp},Inv X (pins ++ Q3p fp s5.heap) q B s7->N q B->∃ m,m < n/\∃ i Y H',Inv X pins Y H' s7/\tn i s7.heap/\(∀ b∈fp,H' b=zl)/\W i m Y H':=λ{q B} U n7=>by
   obtain ⟨m',hm,w7⟩:=hN q B n7;refine ⟨m',hm,i + 1,q,B,U.unpinned,T.keep _ _ _ a1 λb O o e=>(U.pin (b,o) (F6 _ (F6 _ (U5 O e)))).1,λb O=>?_,w7⟩;obtain ⟨o,e,d⟩:=T.obj _ _ a1 b O;exact (U.pin (b,o) (F6 _ (F6 _ (U5 O e)))).2.1
  cases f with
  | next=>obtain ⟨q,B,U,n7⟩:=q7; exact again U n7
  | cont=>obtain ⟨q,B,U,n7⟩:=q7; exact again U n7
  | brk=>obtain ⟨q,B,U,q7⟩:=q7; exact ⟨q,B,U.unpinned,q7⟩
  | ret v=>obtain ⟨x7,q,B,U,r7,q7⟩:=q7; exact ⟨x7,q,B,U.unpinned,r7,q7⟩
abbrev R2:=V->V->Hp->VK->Prop
variable {r:R2}
def OpR (X:Cx) (f:aA->aA->Sem aA) (r:R2):Prop:=
 ∀ (pins:zAC) (s:aC) (σ:St) (H:Hp) (x y:V) (v u:aA) (Q:VK),Inv X pins σ H s->RelV x v->RelV y u->r x y H Q ->
  aF (aI X.prog X.w) X.A (f v u) (EP X pins σ Q) X.xe s
def V1 (X:Cx) (f:aA) (r:List V->Hp->VK->Prop):Prop:=
 ∀ (pins:zAC) (s:aC) (σ:St) (H:Hp) (xs:List V) (us:List aA) (Q:VK),Inv X pins σ H s->Vals xs us->r xs H Q ->
  aF (aI X.prog X.w) X.A (call f us) (EP X pins σ Q) X.xe s
def tOp (r:R2) (ta tb:TE):TE:=λσ H Q=>ta σ H λx H1=>tb σ H1 λy H2=>r x y H2 Q
def rI (C:Int->Int->Prop) (g:Int->Int->V):R2:=λx y H Q=>∃ i j,x=.int i/\y=.int j/\C i j/\Q (g i j) H
def rI0 (g:Int->Int->V):R2:=λx y H Q=>∃ i j,x=.int i/\y=.int j/\Q (g i j) H
variable {b c:aH} {ta tb tc:TE}
section
variable {a:aH}
def Qsv (J:PE X a ta) (hb:PE X b tb) {σ:St} {R:V->V->Hp->Prop} (I:Inv X pins σ H s)
  (h:ta σ H λx H1=>tb σ H1 λy H2=>R x y H2) {Q:zAF} {f:aA->aA->Sem aA}
  (hf:∀ v u G x y H2,Inv X pins σ H2 G->RelV x v->RelV y u->R x y H2->aF (aI X.prog X.w) X.A (f v u) Q X.xe G) :
  aF (aI X.prog X.w) X.A (aO a X.env) (λv B=>aF (aI X.prog X.w) X.A (aO b X.env) (λu q=>aF (aI X.prog X.w) X.A (f v u) Q X.xe q) X.xe B) X.xe s:=by
 refine thn (J pins s σ H _ I h) λv s1 ⟨x,H1,I1,r1,U⟩=>?_
 refine thn (hb pins s1 σ H1 _ I1 U) λu G ⟨y,H2,Z,O,Y⟩=>?_
 exact hf v u G x y H2 Z r1 O Y
def Quv {op:Operator} (O:OpR X (aa op) r) (B:PE X a ta) (U:PE X b tb):PE X (.BinOp a op b pos) (tOp r ta tb):=by
 intro pins s σ H Q I h;exact wpAny_BinOp (Qsv B U I h λv u Z x y H2 J Y G q=>O pins Z σ H2 x y v u Q J Y G q)
def opI {f:aA->aA->Sem aA} {C:Int->Int->Prop} {g:Int->Int->Int}
  (rule:∀ (i j:Int) (t u:Tok) (s:aC) (Q:zAF) (E:zAF),C i j->Q (.int (g i j) s.toks) { s with toks:=s.toks + 1 }->aF (aI X.prog X.w) X.A (f (.int i t) (.int j u)) Q E s) :
  OpR X f (rI C λi j=>.int (g i j)):=by
 intro pins s σ H x y v u Q I J B h;obtain ⟨i,j,rfl,rfl,G,q⟩:=h;obtain ⟨t,rfl⟩:=J;obtain ⟨t',rfl⟩:=B;exact rule i j t t' s _ _ G ⟨.int (g i j),H,I.tok _,⟨_,rfl⟩,q⟩
def Qvd {f:aA->aA->Sem aA} {g:Int->Int->Int}
  (rule:∀ (i j:Int) (t u:Tok) (s:aC) (Q:zAF) (E:zAF),Q (.int (g i j) s.toks) { s with toks:=s.toks + 1 }->aF (aI X.prog X.w) X.A (f (.int i t) (.int j u)) Q E s) :
  OpR X f (rI0 λi j=>.int (g i j)):=by
 intro pins s σ H x y v u Q I B G h;obtain ⟨i,j,rfl,rfl,q⟩:=h;obtain ⟨t,rfl⟩:=B;obtain ⟨t',rfl⟩:=G;exact rule i j t t' s _ _ ⟨.int (g i j),H,I.tok _,⟨_,rfl⟩,q⟩
def Qmn {f:aA->aA->Sem aA} {g:Int->Int->Bool}
  (rule:∀ (i j:Int) (t u:Tok) (s:aC) (Q:zAF) (E:zAF),Q (.bool (g i j)) s->aF (aI X.prog X.w) X.A (f (.int i t) (.int j u)) Q E s) :
  OpR X f (rI0 λi j=>.bl (g i j)):=by
 intro pins s σ H x y v u Q I B G h;obtain ⟨i,j,rfl,rfl,q⟩:=h;obtain ⟨t,rfl⟩:=B;obtain ⟨t',rfl⟩:=G;exact rule i j t t' s _ _ ⟨.bl (g i j),H,I,rfl,q⟩
def Qyu (i j:Int):Prop:=0 < j/\j < 1073741824
def Qyt (i j:Int):Prop:=0<=j/\j<=1000000/\i.natAbs < 2 ^ 64
def CMul (i j:Int):Prop:=(-(2 ^ 64) < i/\i < 2 ^ 64)\/(-(2 ^ 64) < j/\j < 2 ^ 64)
def CMul.ok {i j:Int} (h:CMul i j):IntMulOk i j:=by
 rcases h with ⟨h1,h2⟩ | ⟨h1,h2⟩
 ·exact .of_left (intBits_le_64 h1 h2)
 ·exact .of_right (intBits_le_64 h1 h2)
def Qrj:OpR X (aa .Add) (rI0 λi j=>.int (i + j)):=Qvd λ_ _ _ _ _ _ _ q=>add_int q
def Qrb:OpR X (aa .Sub) (rI0 λi j=>.int (i - j)):=Qvd λ_ _ _ _ _ _ _ q=>sub_int q
def Qre:OpR X (aa .Mult) (rI CMul λi j=>.int (i * j)):=opI λ_ _ _ _ _ _ _ B q=>mul_int q B.ok
def Qmk:OpR X (aa .FloorDiv) (rI Qyu λi j=>.int (i / j)):=opI λi j _ _ _ _ _ B q=>by
 have h1:(0:Int) < j:=B.1;have h2:j < 1073741824:=B.2;exact floordiv_int () (by rw [fu i ()]; exact q) (.inl (PyProof.noPylong_small ()))
def Qrf:OpR X (aa .Mod) (rI (λ_ j=>0 < j) λi j=>.int (i % j)):=opI λi j _ _ _ _ _ B q=>by
 have h1:(0:Int) < j:=B;exact mod_int' () (by rw [Int.fmod_eq_emod_of_nonneg i ()]; exact q)
def Qrd:OpR X (aa .Pow) (rI Qyt λi j=>.int (i ^ j.toNat)):=opI λ_ _ _ _ _ _ _ B q=>pow_int_small B.1 B.2.1 B.2.2 q
end
section
variable {a:aH}
def Qb0 {σ:St} {Q:VK} {k B:Bool} (I:Inv X pins σ H s) (q:Q (.bl k) H) (e:k=B):EP X pins σ Q (.bool B) s:=by
 subst e;exact ⟨.bl k,H,I,rfl,q⟩
def Qv9:OpR X (aU .Lt) (rI0 λi j=>.bl (decide (i < j))):=Qmn λ_ _ _ _ _ _ _ q=>lt_int q
def Qva:OpR X (aU .LtE) (rI0 λi j=>.bl (decide (i<=j))):=Qmn λ_ _ _ _ _ _ _ q=>le_int q
def Qvb:OpR X (aU .Gt) (rI0 λi j=>.bl (decide (j < i))):=Qmn λ_ _ _ _ _ _ _ q=>gt_int q
def Qvc:OpR X (aU .GtE) (rI0 λi j=>.bl (decide (j<=i))):=Qmn λ_ _ _ _ _ _ _ q=>ge_int q
def Qrh:OpR X (aU .Is) (λx y H Q=>y=.non/\Q (.bl (decide (x=.non))) H):=by
 intro pins s σ H x y v u Q I B G h;obtain ⟨rfl,q⟩:=h;cases G;refine is_none_gen (Qb0 I q ?_);cases x <;> first
  | (cases B; rfl)
  | (obtain ⟨t,rfl⟩:=B; rfl)
def Qmj:OpR X (aU .IsNot) (λx y H Q=>y=.non/\Q (.bl (!decide (x=.non))) H):=by
 intro pins s σ H x y v u Q I B G h;obtain ⟨rfl,q⟩:=h;cases G;refine isnot_none_gen (Qb0 I q ?_);cases x <;> first
  | (cases B; rfl)
  | (obtain ⟨t,rfl⟩:=B; rfl)
def OpR.or {G:R2} (h:OpR X f r) (h':OpR X f G):OpR X f (λx y H Q=>r x y H Q\/G x y H Q):=by
 intro pins s σ H x y v u Q I J B q;rcases q with q | q
 ·exact h pins s σ H x y v u Q I J B q
 ·exact h' pins s σ H x y v u Q I J B q
def Qai (b:aH) (h:op≠.In:=by decide) (h2:op≠.NotIn:=by decide):bS op b=zb:=by
 have B:(op == CmpOp.In)=zb:=by cases op <;> first | rfl | exact absurd rfl h
 have q:(op == CmpOp.NotIn)=zb:=by cases op <;> first | rfl | exact absurd rfl h2
 cases b <;> simp [bS,B,q]
def Qmb (U:OpR X (aU op) r) (G:PE X a ta) (Y:PE X b tb) (B:bS op b=zb):PE X (.Compare a [op] [b] pos) (tOp r ta tb):=by
 intro pins s σ H Q I h;exact wpAny_Compare1 (Qsv G Y I h λv u s2 x y H2 O Z J q=>U pins s2 σ H2 x y v u Q O Z J q) B
def Qns (t:TE):TT:=λσ H Q=>t σ H λx H'=>∃ k,x=.bl k/\Q k H'
def Qks (ho:OpR X (aU op) r) (B:PE X a ta) (hb:PE X b tb) (q:bS op b=zb):PT X (.Compare a [op] [b] pos) (Qns (tOp r ta tb)):=by
 intro pins s σ H Q I h;refine wpAny_isTrue_Compare1 (thn (B pins s σ H _ I h) λv s1 ⟨x,H1,I1,r1,O⟩=>thn (hb pins s1 σ H1 _ I1 O) λu s2 ⟨y,H2,I2,G,U⟩=>
  thn (ho pins s2 σ H2 x y v u _ I2 r1 G U) λc s3 ⟨z,J,Z,r3,k,e,Y⟩=>?_) q
 subst e;cases r3;exact bH ⟨J,Z,Y⟩
def Qa1 (r r':R2) (ta tb tc:TE):TE:=λσ H Q=>ta σ H λx H1=>tb σ H1 λy H2=>r x y H2 λz H3=>∃ k,z=.bl k /\
 (if k=zi then tc σ H3 λw' H4=>r' y w' H4 Q else Q (.bl zb) H3)
def Qh2 {q:CmpOp} {J:R2} (ho:OpR X (aU op) r) (B:OpR X (aU q) J) (Z:PE X a ta) (hb:PE X b tb) (hc:PE X c tc)
  (hm:lastMarks [op,q] [b,c]=zb:=by with_unfolding_all rfl):PE X (.Compare a [op,q] [b,c] pos) (Qa1 r J ta tb tc):=by
 intro pins s σ H Q I h;refine Compare_chain (thn (Z pins s σ H _ I h) λv s1 ⟨x,H1,I1,r1,q1⟩=>chain_link (thn (hb pins s1 σ H1 _ I1 q1) λu s2 ⟨y,H2,I2,O,q2⟩=>
  thn (ho pins s2 σ H2 x y v u _ I2 r1 O q2) λd s3 ⟨z,G,U,r3,k,e,Y⟩=>?_)) hm
 subst e;cases r3;refine bH ?_;cases k with
 | false=>exact ite_ff ⟨.bl zb,G,U,rfl,Y⟩
 | true=>exact ite_tt (chain_last (thn (hc pins s3 σ G _ U Y) λw' s4 ⟨z',H4,I4,r4,q4⟩=>B pins s4 σ H4 y z' u w' Q I4 O r4 q4))
def Qgj {q:CmpOp} {J:R2} (ho:OpR X (aU op) r) (B:OpR X (aU q) J) (ha:PE X a ta) (hb:PE X b tb) (hc:PE X c tc)
  (hm:lastMarks [op,q] [b,c]=zb:=by with_unfolding_all rfl):PT X (.Compare a [op,q] [b,c] pos) (Qns (Qa1 r J ta tb tc)):=by
 intro pins s σ H Q I h;refine isTrue_chain (thn (ha pins s σ H _ I h) λv s1 ⟨x,H1,I1,r1,q1⟩=>test_link (thn (hb pins s1 σ H1 _ I1 q1) λu s2 ⟨y,H2,I2,O,q2⟩=>
  thn (ho pins s2 σ H2 x y v u _ I2 r1 O q2) λd s3 ⟨z,G,U,r3,k,e,Y⟩=>?_)) hm
 subst e;cases r3;refine bH ?_;cases k with
 | false=>
  obtain ⟨k',e',q'⟩:=Y;cases e';exact ite_ff ⟨G,U,q'⟩
 | true=>
  refine ite_tt (test_last (thn (hc pins s3 σ G _ U Y) λw' s4 ⟨z',H4,I4,r4,q4⟩=>thn (B pins s4 σ H4 y z' u w' _ I4 O r4 q4) λd' s5 ⟨z2,H5,I5,Z,k2,e2,q5⟩=>?_))
  subst e2;cases Z;exact bH ⟨H5,I5,q5⟩
def yi:(sizeLine:Nat) < 2 ^ 63:=by rw [sizeLine_eq]; decide
def Qae:OpR X (aa .Add) (λx y H Q=>∃ i j,x=.str i/\y=.str j/\i.length + j.length<=sizeLine/\Q (.str (i ++ j)) H):=by
 intro pins s σ H x y v u Q I G B h;obtain ⟨i,j,rfl,rfl,hz,q⟩:=h;obtain ⟨t,rfl⟩:=G;obtain ⟨t',rfl⟩:=B;exact add_str (λt' J=>⟨.str (i ++ j),H,I.tok _,⟨_,rfl⟩,q⟩) hz
def Xc {x:V} (r:Vals [x] us):∃ u,us=[u]/\RelV x u:=by
 cases r with
 | cons B q=>cases q; exact ⟨_,rfl,B⟩
def Qfb {x y:V} (r:Vals [x,y] us):∃ u q,us=[u,q]/\RelV x u/\RelV y q:=by
 cases r with
 | cons I B=>
  cases B with
  | cons J G=>cases G; exact ⟨_,_,rfl,I,J⟩
def Qez (G:X.calm=zi):V1 X (.builtin "max") (λxs H Q=>∃ i j,xs=[.int i,.int j]/\Q (.int (if j > i then j else i)) H):=by
 intro pins s σ H xs us Q I r h;obtain ⟨i,j,rfl,q⟩:=h;obtain ⟨u,O,rfl,⟨t,rfl⟩,⟨t',rfl⟩⟩:=Qfb r;refine max_two_ints (I.ok.hd G) λh' J k=>⟨_,H,I.kept k,?_,q⟩
 by_cases B:j > i
 ·rw [bX B,bX B]; exact ⟨_,rfl⟩
 ·rw [bY B,bY B]; exact ⟨_,rfl⟩
def Qex (G:X.calm=zi):V1 X (.builtin "min") (λxs H Q=>∃ i j,xs=[.int i,.int j]/\Q (.int (if j < i then j else i)) H):=by
 intro pins s σ H xs us Q I r h;obtain ⟨i,j,rfl,q⟩:=h;obtain ⟨u,O,rfl,⟨t,rfl⟩,⟨t',rfl⟩⟩:=Qfb r;refine min_two_ints (I.ok.hd G) λh' J k=>⟨_,H,I.kept k,?_,q⟩
 by_cases B:j < i
 ·rw [bX B,bX B]; exact ⟨_,rfl⟩
 ·rw [bY B,bY B]; exact ⟨_,rfl⟩
end
structure ObjM (h:Heap) (x dx C:aB) (mA:zAG):Prop where
 obj:h.get? x=zo (eO C dx)
 ns:h.Ns1 dx mA
 ne:dx≠x
def Qe5 (n:h.Ns1 dx mA):∃ G,h.get? dx=zo G/\∀ name,eR name G=zo (mA name):=by
 obtain ⟨o,es,ep,O,hd,Y,_,I⟩:=n;refine ⟨o,O,λname=>?_⟩;have e:=I name;unfold nsFind findBy at e;rw [<- Array.find?_toList] at e;unfold eR;rw [hd];dsimp only
 split
 ·rename_i y q;rw [q] at e;exact congrArg zo e
 ·rename_i q;rw [q] at e;have a:es.toList.any (·.refKey)=zb:=by
   rw [eS];intro y J;obtain ⟨z,t,B⟩:=Y y (Array.mem_toList_iff.mp J);simp [DictEntry.refKey,B]
  have U:¬ es.toList.any (·.refKey)=zi:=by rw [a]; exact E1
  rw [bY U];exact congrArg zo e
def ObjM.look {C:aB} (I:ObjM h x dx C mA):∃ q,PySem.W.InstAt h x (eO C dx) C (zo q)/\∀ name,eR name q=zo (mA name):=
 let ⟨q,B,hl⟩:=Qe5 I.ns
 ⟨q,⟨I.obj,rfl,rfl,B⟩,hl⟩
def RelO.some_of {o:Option aA} (r:RelO (zo v) o):∃ u,o=zo u/\RelV v u:=by
 cases o with
 | none=>exact (show False from r).elim
 | some u=>exact ⟨u,rfl,r⟩
variable {C dx:aB}
section
variable {w:aK} {fs fs':List (Str × V)}
def Qn9 (hok:HOk P w H h) (e:H a=zo (.ins C dx fs)):∃ mA,ObjM h a dx C mA/\(∀ f,RelO (fs.lookup f) (mA f))/\fk mA (fs.map (·.1))/\fs.length<=1000/\H dx=zo (.own a):=by
 obtain ⟨d,z,ne,ob,mA,n,r,q⟩:=(show ObjOk P w H h a (.ins C dx fs) from hok a _ e);exact ⟨mA,⟨ob,n,ne⟩,r,q,z,d⟩
end
structure Cls (K:be) (C:aB):Prop where
 pg:fv K C Str.empty=zi
 hd:PySem.W.hasDictIn K C=zi
 po:PySem.W.plainOver K C=zi
 sa:fw K (.ref C) "__setattr__" = zo (zo (.builtin "object.__setattr__"))
def Cls.get (c:Cls K C) (f:Str):fv K C f=zi:=c.pg
variable {A:aP} {E:zAF} {Q:zAF}
section
variable {σ:St} {c:aA} {b:Bool}
inductive TyOf (K:be) (H:Hp):V->aA->Prop where
 | non:TyOf K H .non (.type "NoneType")
 | bl (x:Bool):TyOf K H (.bl x) (.type "bool")
 | int (i:Int):TyOf K H (.int i) (.type "int")
 | str (x:Str):TyOf K H (.str x) (.type "str")
 | flt (x:UInt64):TyOf K H (.flt x) (.type "float")
 | lst {a:aB} {xs:List V} (e:H a=zo (.lst xs)):TyOf K H (.ref a) (.type "list")
 | frz {a:aB} {o:Obj} {xs:List V} (e:H a=zo (.frz o (.lst xs))):TyOf K H (.ref a) (.type "list")
 | tup {a:aB} {xs:List V} (e:H a=zo (.tup xs)):TyOf K H (.ref a) (.type "tuple")
 | dK {a:aB} {kvs:List (Key × V)} (e:H a=zo (.dK kvs)):TyOf K H (.ref a) (.type "dict")
 | dT {a:aB} {kvs:List (List Key × V)} (e:H a=zo (.dT kvs)):TyOf K H (.ref a) (.type "dict")
 | ins {a C dx:aB} {fs:List (Str × V)} (e:H a=zo (.ins C dx fs)) (cl:Cls K C) (ha:fw K (.ref C) "__class__" = zo (zo (.builtin "object.__class__")))
   (hn:PySem.W.specialIn K (.builtin "object.__class__") "__get__" = zo (zo (.builtin "getset_descriptor.__get__"))) (htk:PySem.W.takesIn K (.builtin "object.__class__")=zo zi)
   (hm:PySem.W.mroIn K C (.type "object")=zo zi):TyOf K H (.ref a) (.ref C)
def Qea {x:V} {u t:aA} (I:Inv X pins σ H s) (G:RelV x u) (ty:TyOf X.K H x t) (e:eT X.K t c=zo b) (h:∀ tk,Q (.bool b) { s with toks:=tk }) :
  aF (aI X.prog X.w) A (call (.builtin "isinstance") [u,c]) Q E s:=by
 cases ty with
 | non=>cases (show u=bi from G); exact cG PySem.W.kitx_none I.kIn True.intro e (λz=>nomatch z) h
 | bl y=>cases (show u=ci y from G); exact cG PySem.W.kitx_bool I.kIn True.intro e (λz=>nomatch z) h
 | int i=>obtain ⟨t,q⟩:=(show ∃ t,u=dD i t from G); cases q; exact cG PySem.W.kitx_int I.kIn True.intro e (λz=>nomatch z) h
 | str y=>obtain ⟨t,q⟩:=(show ∃ t,u=df y t from G); cases q; exact cG PySem.W.kitx_str I.kIn True.intro e (λz=>nomatch z) h
 | flt y=>obtain ⟨t,q⟩:=(show ∃ t,u=fj y t from G); cases q; exact cG PySem.W.kitx_float I.kIn True.intro e (λz=>nomatch z) h
 | @lst a xs B=>
  cases (show u=bj a from G);obtain ⟨_,_,n,_,h1⟩:=(show ObjOk X.prog X.w H s.heap a (.lst xs) from I.hok a _ B);exact cG fx I.kIn ⟨_,h1,rfl⟩ e (λz=>nomatch z) h
 | @frz a ob xs B=>
  cases (show u=bj a from G);obtain ⟨_,_,_,n,_,h1⟩:=(show ObjOk X.prog X.w H s.heap a (.frz ob (.lst xs)) from I.hok a _ B);exact cG fx I.kIn ⟨_,h1,rfl⟩ e (λz=>nomatch z) h
 | @tup a xs B=>
  cases (show u=bj a from G);obtain ⟨_,_,_,p⟩:=(show ObjOk X.prog X.w H s.heap a (.tup xs) from I.hok a _ B);obtain ⟨o,h1,h2,_⟩:=p;exact cG PySem.W.kitx_tuple I.kIn ⟨o,h1,h2⟩ e (λz=>nomatch z) h
 | @dK a kvs B=>
  cases (show u=bj a from G);obtain ⟨_,_,vs,_,p⟩:=(show ObjOk X.prog X.w H s.heap a (.dK kvs) from I.hok a _ B);obtain ⟨o,es,ep,h1,h2,_⟩:=p;exact cG fy I.kIn ⟨o,h1,h2.1⟩ e (λz=>nomatch z) h
 | @dT a kvs B=>
  cases (show u=bj a from G);obtain ⟨_,_,xs,_,o,es,ep,h1,h2,_⟩:=(show ObjOk X.prog X.w H s.heap a (.dT kvs) from I.hok a _ B);exact cG fy I.kIn ⟨o,h1,h2.1⟩ e (λz=>nomatch z) h
 | @ins a C dx fs B cl Z hn U Y=>
  cases (show u=bj a from G);obtain ⟨mA,O,_⟩:=Qn9 I.hok B;obtain ⟨od,J,_⟩:=O.look;exact cG (PySem.W.kitx_own (cl.get _) cl.hd Z hn U Y) I.kIn J e (λz=>nomatch z) h
end
structure Room (k:Nat) (A:aP):Prop where
 hd:A.handled=zl
 dp:A.depth + 3 * k + 5 < recursionLimit
 un:A.units + 16 * k + 200 < aX
def Room.mono {j k:Nat} (r:Room k A) (h:j<=k):Room j A:=⟨r.hd,by have:=r.dp; omega,by have:=r.un; omega⟩
def Room.deeper {k:Nat} (r:Room (k + 1) A) (env:Env):Room k (A.deeper env):=
 ⟨r.hd,by have:=r.dp; show A.depth + 1 + 3 * k + 5 < _; omega,by have:=r.un; show A.units + 3 + 16 * k + 200 < _; omega⟩
def Room.depth {k:Nat} (r:Room k A):A.depth < recursionLimit:=by have:=r.dp; omega
def Room.units {k:Nat} (r:Room k A):A.units + 64 < aX:=by have:=r.un; omega
def Qxy:TA:=λ_ H Q=>Q [] H
def Qu6 (ta:TE) (tr:TA):TA:=λσ H Q=>ta σ H λx H1=>tr σ H1 λxs H2=>Q (x :: xs) H2
variable {es:List aH}
section
variable {e:aH} {t:TA}
def Q3u:PA X [] Qxy:=λ_ _ _ _ H Q I h=>Calls.spliced_nil ⟨[],H,I,.nil,h⟩
def ze (q:PE X e te) (O:PA X es t) (hs:aQ (e :: es) X.env=(zb,aO e X.env) :: aQ es X.env:=by rfl):PA X (e :: es) (Qu6 te t):=by
 intro pos pins s σ H Q I h;rw [hs];show aF _ _ (spliced ((zb,aO e X.env) :: ag pos (aQ es X.env))) _ _ s;refine Calls.spliced_cons (thn (q pins s σ H _ I h) λu s1 ⟨x,H1,Z,Y,G⟩=>?_)
 exact thn (O pos pins s1 σ H1 _ Z G) λus s2 ⟨xs,H2,U,B,J⟩=>⟨x :: xs,H2,U,.cons Y B,J⟩
def Qxu (t:TA):TE:=λσ H Q=>t σ H λxs H1=>xs.length<=sizeLine/\∀ p,H1 p=zl->Q (.ref p) (upd H1 p (.tup xs))
def Qxz (t:TA):TE:=λσ H Q=>t σ H λxs H1=>xs.length<=sizeLine/\∀ p,H1 p=zl->Q (.ref p) (upd H1 p (.lst xs))
def Qqw {x1} (h:PA X es t):PE X (.Tuple es x1 pos) (Qxu t):=by
 intro pins s σ H Q I J;refine wpAny_Tuple_spliced (thn (h pos pins s σ H _ I J) λus s1 ⟨xs,H1,B,r,z,q⟩=>⟨by rw [<- r.length]; exact z,?_⟩)
 have G:H1 s1.heap.objs.size=zl:=B.hok.fresh (O6 _);refine ⟨.ref s1.heap.objs.size,upd H1 s1.heap.objs.size (.tup xs),B.laid (t':=s1.toks) (λb u e=>O1 _ e) (O6 _) ?_,rfl,q _ G⟩;exact ⟨z,us,r,⟨_,D2 _ rfl,rfl,_,rfl⟩⟩
def Qgy (h:PA X es t):PE X (.List es pos) (Qxz t):=by
 intro pins s σ H Q I J;refine wpAny_List_spliced (thn (h pos pins s σ H _ I J) λus s1 ⟨xs,H1,B,r,z,q⟩=>⟨by rw [<- r.length]; exact z,?_⟩)
 have G:H1 s1.heap.objs.size=zl:=B.hok.fresh (O6 _);refine ⟨.ref s1.heap.objs.size,upd H1 s1.heap.objs.size (.lst xs),B.laid (t':=s1.toks) (λb u e=>O1 _ e) (O6 _) ?_,rfl,q _ G⟩;exact ⟨z,us,0,r,D2 _ rfl⟩
end
abbrev Sp:=List V->Hp->VK->XK->Prop
abbrev CXT:=List Env->Hp->aC->XK->aA->aC->Prop
structure Env0 (P:aL) (w:aK) (K:be) (mg:zAG) (base:Heap) (A:aP) (outer:List Env) (s:aC) (H:Hp):Prop where
 frames:A.frames=zo outer
 mod:Mod K mg base
 bs:∀ b o,base.get? b=zo o->s.heap.get? b=zo o/\H b=zl
 bsz:base.objs.size<=s.heap.objs.size
 funs:s.heap.FunFrames base outer
 frf:∀ b∈frs outer,H b=zl
 hok:HOk P w H s.heap
 bare:AllBare s.gens
def CE (outer:List Env) (P:aL) (w:aK) (H:Hp) (s:aC) (Q:VK) (u:aA) (s':aC):Prop:=
 ∃ v H',s'.os=s.os/\AllBare s'.gens/\Un (frs outer) [] H H' s.heap s'.heap/\HOk P w H' s'.heap/\RelV v u/\Q v H'
def CR (CX:CXT) (outer:List Env) (P:aL) (w:aK) (H:Hp) (s:aC) (Q:VK) (E:XK) (r:Result) (s':aC):Prop:=
 match r with
 | .ok (.ret u)=>CE outer P w H s Q u s'
 | .ok _=>False
 | .error e=>CX outer H s E e s'
structure FnOk (P:aL) (w:aK) (K:be) (mg:zAG) (base:Heap) (CX:CXT) (k:Nat) (f:aB) (fd:aR) (ps:List Str) (sp:Sp):Prop where
 len:∀ vs H Q E,sp vs H Q E->vs.length=ps.length
 run:∀ (A:aP) (outer:List Env) (s:aC) (H:Hp) (args:Args) (us:List aA) (vs:List V) (Q:VK) (E:XK),Room k A->Env0 P w K mg base A outer s H->BindsTo s fd args (ps.zip us)->Vals vs us->sp vs H Q E ->
  codeAny (aI P w) A (.call (.ref f) args) (CR CX outer P w H s Q E) s
def FnOk.imp {w:aK} {base:Heap} {CX:CXT} {k:Nat} {f:aB} {sp B:Sp} (F:FnOk P w K mg base CX k f fd ps sp)
  (h:∀ vs H Q E,B vs H Q E->sp vs H Q E):FnOk P w K mg base CX k f fd ps B:=
 ⟨λvs H Q E q=>F.len vs H Q E (h _ _ _ _ q),λA outer s H args us vs Q E I J O G hs=>F.run A outer s H args us vs Q E I J O G (h _ _ _ _ hs)⟩
variable {s':aC}
section
variable {σ:St}
def Inv.env0 (I:Inv X pins σ H s):Env0 X.prog X.w X.K X.mg X.base X.A X.stack s H:=
 ⟨I.ok.frames,I.ok.mod,I.bs,F3 I.ok.bsz I.sz,I.stack,I.stkFree,I.hok,I.bare⟩
def Inv.after {Q:VK} {u:aA} (I:Inv X pins σ H s) (h:CE X.stack X.prog X.w H s Q u s'):EP X pins σ Q u s':=by
 obtain ⟨v,H',os,bare,un,hok,r,q⟩:=h;obtain ⟨G,g,d,t,B⟩:=s';obtain rfl:B=s.os:=os;exact ⟨v,H',I.call (h':=G) (g':=g) (d':=d) (t':=t) (ch:=[]) un hok bare (λb z=>absurd z (by simp)),r,q⟩
end
def Qu7 (sp:Sp) (dvs:List V) (E:XK) (t:TA):TE:=λσ H Q=>t σ H λvs H1=>sp (vs ++ dvs) H1 Q E
def Binds (K:be) (fd:aR) (ps:List Str) (ds:List aA):Prop:=
 ∀ (s:aC) (us:List aA),K.In s.heap->(us ++ ds).length=ps.length->BindsTo s fd ⟨us,[]⟩ (ps.zip (us ++ ds))
def Binds.all (h:∀ us:List aA,us.length=ps.length->bindArgs fd ⟨us,[]⟩=pure (ps.zip us)):Binds K fd ps []:=λs us _ hl=>by
 rw [E9] at hl ⊢;exact .of_eq (h us hl)
def Q4r (CX:CXT) (X:Cx) (E:XK):Prop:=∀ (pins:zAC) (σ:St) (H:Hp) (s:aC) (e:aA) (s':aC),Inv X pins σ H s->CX X.stack H s E e s'->X.xe e s'
variable {CX:CXT} {f:aB} {fd:aR} {ps:List Str} {sp:Sp} {dvs:List V} {ds:List aA} {m:Str} {p apos:Pos}
section
variable {k:Nat} {E:XK} {x:Str} {e o:aH} {t:TA}
def Qqe {pins:zAC} {σ:St} {H:Hp} {s:aC} {Q:VK} {us:List aA} {vs:List V} (F:FnOk X.prog X.w X.K X.mg X.base CX k f fd ps sp) (G:Room k X.A) (J:Binds X.K fd ps ds) (hd:Vals dvs ds) (O:Q4r CX X E)
  (I:Inv X pins σ H s) (r:Vals vs us) (h:sp (vs ++ dvs) H Q E):aF (aI X.prog X.w) X.A (call (.ref f) us) (EP X pins σ Q) X.xe s:=by
 have B:Vals (vs ++ dvs) (us ++ ds):=r.append hd;have hl:(us ++ ds).length=ps.length:=by rw [<- B.length]; exact F.len _ _ _ _ h
 refine wpAny_call (bN (F.run X.A X.stack s H ⟨us,[]⟩ (us ++ ds) (vs ++ dvs) Q E G I.env0 (J s us I.kIn hl) B h) λr s' q=>?_)
 cases r with
 | error e=>exact O pins σ H s e s' I q
 | ok fl=>
  cases fl with
  | ret u=>exact I.after q
  | next=>exact False.elim q
  | brk=>exact False.elim q
  | cont=>exact False.elim q
def Qmc (F:FnOk X.prog X.w X.K X.mg X.base CX k f fd ps sp) (Z:Room k X.A) (U:Gl X x) (O:X.mg x=zo (.ref f)) (hk:cS X.K (.ref f)=zi) (hb:Binds X.K fd ps ds) (hd:Vals dvs ds) (hx:Q4r CX X E)
  (Y:PA X (e :: es) t) (G:(x == ("__debug__" : Str))=zb:=by decide) (he:aQ (e :: es) X.env=(zb,aO e X.env) :: aQ es X.env:=by rfl) (B:(ag pos (aQ es X.env)).any (·.1)=zb:=by rfl) :
  PE X (.Call (.Name x p) (e :: es) [] pos) (Qu7 sp dvs E t):=by
 intro pins s σ H Q I h;refine wpAny_Call_Name_kw (Qc9 I U O ?_ G);refine PySem.W.callWith_K (h₀:=X.base) I.ok.mod.kin hk (thn (Y pos pins s σ H _ I h) λus s1 ⟨vs,H1,J,r,q⟩=>⟨J.kIn,?_⟩) he B
 exact Qqe F Z hb hd hx J r q
end
structure FnScope (N P:List Str) (sc:Scope):Prop where
 kind:sc.kind=.function
 co:sc.isCoroutine=zb
 gen:sc.isGenerator=zb
 nd:N.Nodup
 pre:N.take P.length=P
 par:∀ x∈P,sc.names.lookup x=zo .local\/sc.names.lookup x=zo .cell
 nofree:∀ y∈sc.names,y.2≠.free
theorem Q6b {kindOf:Str->Option az} {x:Str}:∀ {binds:List (Str × aA)} {m:zAG},(∀ v,(x,v)∉binds)->bindL kindOf binds m x=m x
 | [],_,_=>rfl
 | (n,v) :: r,m,h=>by
  unfold bindL;rw [Q6b λw q=>h w (O7 _ q)]
  split
  ·have:x≠n:=by rintro rfl; exact h v E3
   simp [this]
  ·rfl
theorem Q6d {kindOf:Str->Option az} {x:Str}:∀ {binds:List (Str × aA)} {m:zAG},(∀ v,(x,v)∉binds)->bindC kindOf binds m x=m x
 | [],_,_=>rfl
 | (n,v) :: r,m,h=>by
  unfold bindC;rw [Q6d λw q=>h w (O7 _ q)]
  split
  ·rfl
  ·have:x≠n:=by rintro rfl; exact h v E3
   simp [this]
theorem Q6c {kindOf:Str->Option az} {x:Str} {v:aA}:∀ {P:List Str} {vs:List aA} {i:Nat} {m:zAG},P.Nodup->P[i]?=zo x->vs[i]?=zo v->kindOf x=zo .local ->
  bindL kindOf (P.zip vs) m x=zo v
 | [],_,_,_,_,h,_,_=>by simp at h
 | _ :: _,[],_,_,_,_,h,_=>by simp at h
 | p :: P,w :: vs,0,m,nd,h1,h2,q=>by
  simp at h1 h2; subst h1; subst h2;show bindL kindOf ((p,w) :: P.zip vs) m p=_;unfold bindL;rw [Q6b λv B=>(cT.mp nd).1 (eU B).1,bX q]
  simp
 | p :: P,w :: vs,i + 1,m,nd,h1,h2,q=>by
  show bindL kindOf ((p,w) :: P.zip vs) m x=_;unfold bindL;exact Q6c (i:=i) (cT.mp nd).2 (by simpa using h1) (by simpa using h2) q
theorem Q6e {kindOf:Str->Option az} {x:Str} {v:aA}:∀ {P:List Str} {vs:List aA} {i:Nat} {m:zAG},P.Nodup->P[i]?=zo x->vs[i]?=zo v->kindOf x≠zo .local ->
  bindC kindOf (P.zip vs) m x=zo v
 | [],_,_,_,_,h,_,_=>by simp at h
 | _ :: _,[],_,_,_,_,h,_=>by simp at h
 | p :: P,w :: vs,0,m,nd,h1,h2,q=>by
  simp at h1 h2; subst h1; subst h2;show bindC kindOf ((p,w) :: P.zip vs) m p=_;unfold bindC;rw [Q6d λv B=>(cT.mp nd).1 (eU B).1,bY q]
  simp
 | p :: P,w :: vs,i + 1,m,nd,h1,h2,q=>by
  show bindC kindOf ((p,w) :: P.zip vs) m x=_;unfold bindC;exact Q6e (i:=i) (cT.mp nd).2 (by simpa using h1) (by simpa using h2) q
def start (N:List Str) (vs:List V):St:=vs.map zo ++ bg (N.length - vs.length) zl
def Qeq (CX:CXT) (P:aL) (w:aK) (K:be) (mg:zAG) (base:Heap) (N:List Str) (qual:Str) (scope:Scope) (f:aB) (cd:aA) (A:aP) (outer:List Env) (s:aC) (H:Hp) (E:XK):Cx where
 prog:=P
 w:=w
 K:=K
 mg:=mg
 base:=base
 A:=A.deeper (envOfC qual scope s.heap.objs.size f cd)
 N:=N
 s₀:=s
 H₀:=H
 env:=envOfC qual scope s.heap.objs.size f cd
 outer:=outer
 stack:=envOfC qual scope s.heap.objs.size f cd :: outer
 ex:=[]
 calm:=zi
 fn:=λ_=>zi
 pn:=[]
 xe:=λe s'=>aF (aI P w) (A.deeper (envOfC qual scope s.heap.objs.size f cd)) (leaving (envOfC qual scope s.heap.objs.size f cd) e) (λ_ s''=>CX outer H s E e s'') (λe' s''=>CX outer H s E e' s'') s'
def Q9k {sc:Scope} {x:Str} (h:sc.names.lookup x=zo .cell):∃ c,(aq n sc.names []).lookup x=zo c:=by
 have q:=eV sc.names n [] (.inl h);exact gA.mp q
def Qeb {CX:CXT} {P:aL} {w:aK} {K:be} {mg:zAG} {base:Heap} {N ps:List Str} {qual:Str} {scope:Scope} {f:aB} {cd:aA} {A:aP} {outer:List Env} {s s1:aC} {H:Hp} {E:XK} {us:List aA} {vs:List V}
  (S:FnScope N ps scope) (hd:A.handled=zl) (B:Env0 P w K mg base A outer s H) (hl:vs.length=ps.length) (r:Vals vs us)
  (x:InCallC s s.heap.objs.size (bindL (envOfC qual scope s.heap.objs.size f cd).kindOf (ps.zip us) λ_=>zl) (aq (s.heap.objs.size + 1) scope.names []) (bindC (envOfC qual scope s.heap.objs.size f cd).kindOf (ps.zip us) λ_=>zl) s1) :
  Inv (Qeq CX P w K mg base N qual scope f cd A outer s H E) [] (start N vs) H s1:=by
 have a1:ps.length<=N.length:=by have:=congrArg cj S.pre; rw [cU] at this; omega
 obtain ⟨h1,tk,rfl,Y⟩:=x.done;have I:∀ b:aB,b∉(Qeq CX P w K mg base N qual scope f cd A outer s H E).ex:=λb z=>absurd (show b∈([]:List aB) from z) (by simp)
 refine ⟨⟨B.mod,S.kind,rfl,rfl,O6 _,λy z c h1 h2=>?_,λy G=>?_,λy c _ h=>?_,λ_=>hd,Around.frames_deeper B.frames,.inr ⟨rfl,rfl⟩,λb z=>absurd z (I b),B.bs,B.bsz,λb _ _=>I b,λb z=>absurd z (I b),B.funs,B.frf⟩,
  rfl,B.bare,Un.kept Y,⟨_,x.toInCall.ns,λi y v h1 h2 h3=>?_⟩,λy c h=>⟨_,x.cell y c h⟩,B.hok.fresh (O6 _),λy c h=>?_,λp J=>absurd (show p∈([]:zAC) from J) (by simp),B.hok.kept Y,?_⟩
 ·exact name_of_addr x.apart (cL h1) (cL h2)
 ·have G:scope.names.lookup y=zo .cell\/scope.names.lookup y=zo .free:=G;rcases G with G | G
  ·exact Q9k G
  ·exact absurd rfl (S.nofree _ (cL G))
 ·exact dF (x.above y c (cL h))
 ·have hi:i < vs.length:=by
   unfold start at h2
   by_cases hi:i < vs.length
   ·exact hi
   ·rw [D0 (by simpa using hi)] at h2;rw [gB] at h2
    split at h2 <;> cases h2
  have Z:vs[i]?=zo v:=by
   unfold start at h2;rw [O4 (by simpa using hi),E2] at h2;cases e:vs[i]? with
   | none=>rw [e] at h2; cases h2
   | some a=>rw [e] at h2; cases h2; rfl
  obtain ⟨u,U,rv⟩:=r.get Z;have J:ps[i]?=zo y:=by
   rw [<- S.pre,List.getElem?_take_of_lt ()]; exact h1
  have O:ps.Nodup:=by rw [<- S.pre]; exact S.nd.sublist (gC _ _)
  refine ⟨u,rv,?_⟩;rcases S.par y (D8 J) with k | k
  ·exact .inl ⟨k,Q6c O J U k⟩
  ·obtain ⟨c,e⟩:=Q9k (n:=s.heap.objs.size + 1) k;refine .inr ⟨.inl k,c,e,?_⟩;have q:=x.cell y c e;rw [Q6e O J U (by show scope.names.lookup y≠_; rw [k]; decide)] at q;exact q
 ·exact B.hok.fresh (dF (x.above y c (cL h)))
 ·unfold start;show _=N.length;rw [D4,O3,List.length_replicate];omega
def Qwi {CX:CXT} {P:aL} {w:aK} {K:be} {mg:zAG} {base:Heap} {k:Nat} {f:aB} {name qual:Str} {G:Arguments} {body:List aM} {scope:Scope} {dV kV a1 pm B ct oc:aA} {an od:Option aB}
  {a3:Array (Option aA)} {N ps:List Str} {sp:Sp} (lk:K.lookup f=zo ⟨oc,od,.func (bu name qual G body scope dV kV a1 pm an B ct),a3⟩) (a4:cm K B qual=zi) (S:FnScope N ps scope)
  (len:∀ vs H Q E,sp vs H Q E->vs.length=ps.length)
  (Y:∀ (A:aP) (outer:List Env) (s:aC) (H:Hp) (vs:List V) (Q:VK) (E:XK),Room k (A.deeper (envOfC qual scope s.heap.objs.size f B))->sp vs H Q E ->
   ∃ t,PSs (Qeq CX P w K mg base N qual scope f B A outer s H E) body t/\t { nx:=λ_ H'=>Q .non H',rt:=Q } (start N vs) H) :
  FnOk P w K mg base CX (k + 1) f (bu name qual G body scope dV kV a1 pm an B ct) ps sp:=by
 refine ⟨len,λA outer s H args us vs Q E hr Z hb r a2=>?_⟩;have hl:=len _ _ _ _ a2;have KX:K.In s.heap:=Z.mod.kin.keeps λb o e=>(Z.bs b o e).1
 have lim:s.heap.NoLimit:=Z.mod.nolimit.keeps λb o e=>(Z.bs b o e).1
 have U:∀ y∈ps.zip us,scope.names.lookup y.1=zo .local\/(scope.names.lookup y.1=zo .cell/\((aq (s.heap.objs.size + 1) scope.names []).lookup y.1).isSome=zi):=λ⟨n,v⟩ hy=>by
  rcases S.par n (eU hy).1 with q | q
  ·exact .inl q
  ·exact .inr ⟨q,eV _ _ _ (.inl q)⟩
 refine codeAny_call_function hr.depth (KX _ _ lk) rfl S.co S.gen rfl (PySem.W.codeRec_of KX a4) (hb _ _ _ _ ?_);refine wpAny_newFunctionEnv_cells S.kind U λenv he s1 x=>?_
 subst he;refine ⟨lim.keeps x.toInCall.keep,codeAny_func ?_⟩;obtain ⟨t,ht,hq⟩:=Y A outer s H vs Q E (hr.deeper _) a2;have I:Inv (Qeq CX P w K mg base N qual scope f B A outer s H E) [] (start N vs) H s1:=Qeb S hr.hd Z hl r x;refine ay (ht [] s1 (start N vs) H _ I hq) (λfl s' hs=>?_) λe s' hs=>hs
 have fin:∀ {O:St} {H':Hp} {v:V} {u:aA},Inv (Qeq CX P w K mg base N qual scope f B A outer s H E) [] O H' s'->RelV v u->Q v H'->CE outer P w H s Q u s':=
  λ{O H' v u} J rv q=>⟨v,H',J.os,J.bare,J.base,J.hok,rv,q⟩
 cases fl with
 | ret u=>
  obtain ⟨v,O,H',J,rv,q⟩:=hs;exact fin J rv q
 | next=>
  obtain ⟨O,H',J,q⟩:=hs;exact fin (v:=V.non) (u:=bi) J rfl q
 | brk=>
  obtain ⟨_,_,_,q⟩:=hs;exact False.elim q
 | cont=>
  obtain ⟨_,_,_,q⟩:=hs;exact False.elim q
variable {T:String} {r:List V->Hp->VK->Prop}
section
variable {x:Str} {e:aH} {t:TA} {id:String}
def tCB (r:List V->Hp->VK->Prop) (t:TA):TE:=λσ H Q=>t σ H λvs H1=>r vs H1 Q
def Q3s (hc:V1 X (.builtin id) r) (J:Gl X x) (G:X.mg x=zl) (U:aZ x=zo (.builtin id)) (O:PA X (e :: es) t) (hn:x≠"__name__" := by decide) (B:(x == ("__debug__" : Str))=zb:=by decide)
  (Z:aQ (e :: es) X.env=(zb,aO e X.env) :: aQ es X.env:=by rfl) (q:(ag pos (aQ es X.env)).any (·.1)=zb:=by rfl):PE X (.Call (.Name x p) (e :: es) [] pos) (tCB r t):=by
 intro pins s σ H Q I h;refine wpAny_Call_Name_kw (yj I J G U ?_ hn B);exact iJ (thn (O pos pins s σ H _ I h) λus s1 ⟨vs,H1,I1,r1,Y⟩=>hc pins s1 σ H1 vs us Q I1 r1 Y) Z q
def Q0w (hc:V1 X (.type T) r) (J:Gl X x) (G:X.mg x=zl) (U:aZ x=zo (.type T)) (O:PA X (e :: es) t) (hn:x≠"__name__" := by decide) (B:(x == ("__debug__" : Str))=zb:=by decide)
  (Z:aQ (e :: es) X.env=(zb,aO e X.env) :: aQ es X.env:=by rfl) (q:(ag pos (aQ es X.env)).any (·.1)=zb:=by rfl):PE X (.Call (.Name x p) (e :: es) [] pos) (tCB r t):=by
 intro pins s σ H Q I h;refine wpAny_Call_Name_kw (yj I J G U ?_ hn B);exact dH (thn (O pos pins s σ H _ I h) λus s1 ⟨vs,H1,I1,r1,Y⟩=>hc pins s1 σ H1 vs us Q I1 r1 Y) Z q
end
end L2
namespace HT
open PySem PyProof.Rows
def lexLt:List Int->List Int->Bool
 | [],[]=>zb
 | [],_ :: _=>zi
 | _ :: _,[]=>zb
 | x :: xs,y :: ys=>if x=y then lexLt xs ys else decide (x < y)
def lexLt_cons (x y:Int) (xs ys:List Int):lexLt (x :: xs) (y :: ys)=if x=y then lexLt xs ys else decide (x < y):=rfl
def lexLt_nil_nil:lexLt [] []=zb:=rfl
def Q40 (y:Int) (ys:List Int):lexLt [] (y :: ys)=zi:=rfl
def Q41 (x:Int) (xs:List Int):lexLt (x :: xs) []=zb:=rfl
def Qia (A:aP) (s:aC) (a:Int) (t:Tok) (c:Int) (u:Tok):∃ e,SeqAt.EqAt A s (.int a t) (.int c u) e/\(e=zi <-> a=c):=
 ⟨(a == c),SeqAt.EqAt.int_int a t c u,by simp⟩
def Qgf (A:aP) (s:aC) (a:Int) (t:Tok) (c:Int) (u:Tok) (prog:aL) (w:aK) (E:aA->aC->Prop) (Q:aA->aC->Prop) (h:Q (.bool (decide (a < c))) s) :
  aF (aI prog w) A (richCompare .Lt (.int a t) (.int c u)) Q E s:=
 (iK h:aF (aI prog w) A (aU .Lt (.int a t) (.int c u)) Q E s)
section
open PySem.SeqAt
open PySem.AutoSeq1 (wpAny_loadPart')
open PySem.MeetsSeq PySem.MeetsSeq2 PySem.MeetsSeq3
def Q4u (l b:aB) (G B:Array aA) (n n2:Nat) (dd a9:Option aB) (sl a7:Array (Option aA)) (ns ms:List Int) (hi:IntsAre G.toList ns) (hj:IntsAre B.toList ms) :
  Meets (Builtin.«tuple.__lt__» ⟨[.ref l,.ref b],[]⟩)
   (λ_ R s=>s.heap.get? l=zo { cls:=.type "tuple",dict:=dd,data:=.seq G n,slots:=sl }/\s.heap.get? b=zo { cls:=.type "tuple",dict:=a9,data:=.seq B n2,slots:=a7 } /\
    R (.ok (.ret (.bool (lexLt ns ms)))) s):=
 .of_wp λprog w A R s h=>by
  obtain ⟨hp,g,d,tk,os⟩:=s; obtain ⟨hl,hb,h⟩:=h;have f2:=AutoSeq1.sub_tuple_tuple;have z1:G.size=ns.length:=by rw [<- hi.length]; simp
  have z2:B.size=ms.length:=by rw [<- hj.length]; simp
  wp_walk using wpAny_loadPart' hl,wpAny_loadPart' hb,wpAny_forIn_list _ (λrest b s'=>b.1=zl/\s'=⟨hp,g,d,tk,os⟩/\∃ (vs ws:List aA) (J O:List Int),rest=vs.zip ws /\
   IntsAre vs J/\IntsAre ws O/\J.length + B.size=O.length + G.size/\R (.ok (.ret (.bool (lexLt J O)))) ⟨hp,g,d,tk,os⟩) _
  case turn=>
   rintro ⟨y,x⟩ rest b s' ⟨a2,rfl,vs,ws,J,O,hz,a1,U,I,Z⟩;cases a1 with
   | nil=>rw [List.zip_nil_left] at hz; cases hz
   | cons a t a5=>
    cases U with
    | nil=>rw [List.zip_nil_right] at hz; cases hz
    | cons c u a4=>
     rw [eW] at hz;injection hz with a8 a3
     injection a8 with hy hx
     subst hy hx;rw [lexLt_cons] at Z;simp only [E7] at I;obtain ⟨e,he,Y⟩:=Qia A.in1 ⟨hp,g,d,tk,os⟩ a t c u;refine aD (he prog w _ _ ?_);cases e with
     | true=>
      rw [bX (Y.mp rfl)] at Z
      wp_walk
      exact ⟨rfl,rfl,_,_,_,_,a3,a5,a4,by omega,Z⟩
     | false=>
      rw [bY (λq=>absurd (Y.mpr q) E1)] at Z
      have a6:=Qgf A.in1 ⟨hp,g,d,tk,os⟩ a t c u prog w
      wp_walk using a6
      exact ⟨_,rfl,by simpa using Z⟩
  case fin=>
   rintro ⟨b1,b2⟩ s' ⟨a2,rfl,vs,ws,J,O,hz,a1,U,I,Z⟩;simp only at a2;subst a2;have hv:lexLt J O=decide (G.size < B.size):=by
    cases a1 with
    | nil=>
     cases U with
     | nil=>
      simp only [cH] at I;rw [lexLt_nil_nil];exact (bZ ()).symm
     | cons c u hw=>
      simp only [cH,E7] at I;rw [Q40];exact (ba ()).symm
    | cons a t hv=>
     cases U with
     | nil=>
      simp only [cH,E7] at I;rw [Q41];exact (bZ ()).symm
     | cons c u hw=>
      rw [eW] at hz;cases hz
   rw [hv] at Z
   wp_walk
   exact ⟨_,rfl,by simpa [Builtin.Tuple.tupleCompareSizes] using Z⟩
  case h=>
   exact ⟨rfl,rfl,G.toList,B.toList,ns,ms,rfl,hi,hj,by omega,h⟩
end
variable {prog:aL} {A:aP} {E:aA->aC->Prop} {s:aC}
section
variable {w:aK}
def lt_tupInts {l b:aB} {B q:Array aA} {ns ms:List Int} {Q:aA->aC->Prop} (hl:IsTup s.heap l B) (U:IsTup s.heap b q) (hi:IntsAre B.toList ns) (O:IntsAre q.toList ms)
  (Z:A.units < aX) (h:Q (.bool (lexLt ns ms)) s):aF (aI prog w) A (aU .Lt (.ref l) (.ref b)) Q E s:=by
 obtain ⟨⟨cls,Y,data,sl⟩,ho,hc,n,hd⟩:=id hl;obtain ⟨⟨J,G,data2,I⟩,ho2,hc2,n2,hd2⟩:=id U;simp only at hc hd hc2 hd2;subst hc hd hc2 hd2;exact richCompare_meets_room (op:=.Lt) ⟨_,ho,rfl⟩ ⟨_,ho2,rfl⟩ PySem.F.slot_tuple_lt PySem.F.entry_tuple_lt (PySem.F.args_tuple_lt_2 _ _) (Q4u l b B q n n2 Y G sl I ns ms hi O)
  ⟨ho,ho2,show ci (lexLt ns ms)≠gD/\Q (.bool (lexLt ns ms)) s from ⟨(λx=>nomatch x),h⟩⟩ Z
def cat_tup {t b:aB} {vs q:List aA} {Q:aA->aC->Prop} (Y:IsTup s.heap t vs.toArray) (Z:IsTup s.heap b q.toArray) (J:vs≠[])
  (h1:q=[]->Q (.ref t) s) (h2:q≠[]->Q (.ref s.heap.objs.size) { s with heap:=s.heap.push { cls:=.type "tuple",data:=.seq (vs ++ q).toArray } })
  (hsz:vs.length + q.length<=sizeLine):aF (aI prog w) A (aa .Add (.ref t) (.ref b)) Q E s:=by
 obtain ⟨⟨cls,U,data,sl⟩,ho,hc,n,hd⟩:=id Y;obtain ⟨⟨O,B,data2,G⟩,ho2,hc2,n2,hd2⟩:=id Z;simp only at hc hd hc2 hd2;subst hc hd hc2 hd2;have e:vs.toArray ++ q.toArray=(vs ++ q).toArray:=by simp
 by_cases I:q=[]
 ·exact concat_meets ⟨_,ho,rfl⟩ ⟨_,ho2,rfl⟩ noFill_tuple_add seq_tuple_add eX eY (eZ _ _)
   (tuple_addW1 t b vs.toArray q.toArray n n2 U B sl G (by simpa using J) (by simp [I])) ⟨ho,ho2,h1 I⟩
 ·refine concat_meets ⟨_,ho,rfl⟩ ⟨_,ho2,rfl⟩ noFill_tuple_add seq_tuple_add eX eY (eZ _ _)
   (tuple_addW2 t b vs.toArray q.toArray n n2 U B sl G (by simpa using J) (by simpa using I) (by rw [O8,O8]; exact hsz)) ⟨ho,ho2,?_⟩
  rw [e];exact h2 I
def sIx (n d:Nat):Option Int->Nat
 | none=>d
 | some v=>if v < 0 then (v + (n:Int)).toNat else min v.toNat n
def sIx_none (n d:Nat):sIx n d zl=d:=rfl
def sIx_nat (n d k:Nat):sIx n d (zo (k:Int))=min k n:=by
 show (if (k:Int) < 0 then ((k:Int) + (n:Int)).toNat else min (k:Int).toNat n)=min k n;rw [bY (),bx]
def Qqd (n d:Nat) (hd:d<=n) (o:Option Int):sIx n d o<=n:=by
 cases o with
 | none=>exact hd
 | some v=>
  show (if v < 0 then (v + (n:Int)).toNat else min v.toNat n)<=n
  by_cases q:v < 0
  ·rw [bX q]; omega
  ·rw [bY q]; exact Nat.min_le_right _ _
def Qcj (v:Int) (n d:Nat):(if v < 0 then max (v + (n:Int)) 0 else min v (n:Int))=((sIx n d (zo v):Nat):Int):=by
 show (if v < 0 then max (v + (n:Int)) 0 else min v (n:Int))=(((if v < 0 then (v + (n:Int)).toNat else min v.toNat n):Nat):Int)
 by_cases q:v < 0
 ·simp only [bX q]; omega
 ·simp only [bY q]; omega
def Qbe (lo hi:Option Int) (n:Nat):Builtin.Slice.sliceAdjust lo hi 1 (n:Int)=(((sIx n 0 lo:Nat):Int),((sIx n n hi:Nat):Int)):=by
 have h1:¬ ((1:Int) < 0):=by omega
 unfold Builtin.Slice.sliceAdjust;simp only [h1,if_false];refine Prod.ext ?_ ?_
 ·cases lo with
  | none=>rfl
  | some v=>exact Qcj v n 0
 ·cases hi with
  | none=>rfl
  | some v=>exact Qcj v n n
def Qab (i j:Nat):Builtin.Slice.slicePlaces (i:Int) (j:Int) 1=j - i:=by
 unfold Builtin.Slice.slicePlaces;have h1:(1:Int) > 0:=by omega
 simp only [h1,if_true,Int.ediv_one]
 split <;> omega
def Q36 {v:aA} {o:Option Int} {Q:Option Int->aC->Prop} (p:IsPart v o) (h:Q o s):aF (aI prog w) A (Builtin.Slice.slicePartIndex v) Q E s:=by
 cases p with
 | none=>exact slicePart_none h
 | int i t=>exact slicePart_int h
def K8 {sl:aB} {G I:aA} {lo hi:Option Int} {n:Nat} {Q:Int × Int × Nat->aC->Prop} (hs:s.heap.IsSliceOf sl G I .none) (U:IsPart G lo) (J:IsPart I hi)
  (h:Q (((sIx n 0 lo:Nat):Int),1,sIx n n hi - sIx n 0 lo) s):aF (aI prog w) A (Builtin.Slice.sliceApplied (.ref sl) (pure (n:Int))) Q E s:=by
 obtain ⟨os,B,O,q⟩:=id hs;unfold Builtin.Slice.sliceApplied Builtin.Slice.sliceFields;refine aD (aD (ah B q (x:=G) rfl (aD (ah B q (x:=I) rfl (aD (ah B q (x:=.none) rfl (aJ ?_)))))));refine aD (slicePart_none ?_);show aF _ _ (if ((1:Int) == 0)=zi then _ else _) _ _ s;rw [bY (by decide)];refine aD (Q36 U (aD (Q36 J (aD (aJ ?_)))));show aF _ _ (match Builtin.Slice.sliceAdjust lo hi 1 (n:Int) with | (lo,hi)=>pure (lo,(1:Int),Builtin.Slice.slicePlaces lo hi 1)) _ _ s
 rw [Qbe lo hi n];show aF _ _ (pure (((sIx n 0 lo:Nat):Int),(1:Int),Builtin.Slice.slicePlaces ((sIx n 0 lo:Nat):Int) ((sIx n n hi:Nat):Int) 1)) _ _ s;rw [Qab];exact aJ h
def Qgt (xs:Array aA) (i k:Nat):((bc k).filterMap λ(m:Nat)=>xs[((i:Int) + (m:Int) * 1).toNat]?).toArray=((xs.toList.drop i).take k).toArray:=by
 have e:(λ(m:Nat)=>xs[((i:Int) + (m:Int) * 1).toNat]?)=λm=>xs[i + m]?:=by
  funext m;have:((i:Int) + (m:Int) * 1).toNat=i + m:=by omega
  rw [this]
 rw [e];have:=pick_run xs i k;rw [List.filterMap_map] at this;have q:((λx=>xs[x]?) ∘ λx=>i + x)=λm=>xs[i + m]?:=rfl
 rw [q] at this;rw [this]
def getItem_tuple_cut {t sl:aB} {B:Array aA} {Z vu:aA} {lo hi:Option Int} {Q:aA->aC->Prop} (I:IsTup s.heap t B) (hs:s.heap.IsSliceOf sl Z vu .none) (pl:IsPart Z lo) (pu:IsPart vu hi)
  (hw:¬ (sIx B.size 0 lo=0/\sIx B.size B.size hi=B.size))
  (h:Q (.ref s.heap.objs.size) { s with heap:=s.heap.push { cls:=.type "tuple",data:=.seq ((B.toList.drop (sIx B.size 0 lo)).take (sIx B.size B.size hi - sIx B.size 0 lo)).toArray } })
  (hsz:B.size<=sizeLine):aF (aI prog w) A (getItem (.ref t) (.ref sl)) Q E s:=by
 have G:sizeOk (.seq ((B.toList.drop (sIx B.size 0 lo)).take (sIx B.size B.size hi - sIx B.size 0 lo)).toArray):=by
  show ((B.toList.drop (sIx B.size 0 lo)).take (sIx B.size B.size hi - sIx B.size 0 lo)).toArray.size<=sizeLine;rw [O8,cU,cr,cB];omega
 have hj:sIx B.size B.size hi<=B.size:=Qqd _ _ (O6 _) hi;obtain ⟨os,Y,U,a1⟩:=id hs;have O:s.TypeIs (.ref sl) "slice" := ⟨os,Y,U⟩;unfold getItem
 try with_reducible refine ak ?_
 first | refine aD (aJ ?_) | skip
 refine aD (wpAny_sequenceKey I.typeIs (by decide) ?_);refine aD (wpAny_callSpecial?_slot (name:=cM "__getitem__") I.typeIs dj
  (au dj I.typeIs entry_tuple_getitem ?_ (args_tuple_getitem _ _)))
 show aF _ _ (Builtin.Tuple.tupleItemsOf (.ref t) >>= _) _ _ s;refine aD (tupleItemsOf_ I ?_);refine aD (bO O ?_);rw [bX (by decide)];refine aD (K8 hs pl pu ?_);have J:¬ ((((sIx B.size 0 lo:Nat):Int) == 0 && (1:Int) == 1 && (sIx B.size B.size hi - sIx B.size 0 lo) == B.size)=zi):=by
  intro q;rw [L1,L1] at q;have q1:((sIx B.size 0 lo:Nat):Int)=0:=eq_of_beq q.1.1;have q2:sIx B.size B.size hi - sIx B.size 0 lo=B.size:=eq_of_beq q.2;exact hw ⟨by omega,by omega⟩
 show aF _ _ (if (((sIx B.size 0 lo:Nat):Int) == 0 && (1:Int) == 1 && (sIx B.size B.size hi - sIx B.size 0 lo) == B.size)=zi then _ else _) _ _ s;rw [bY J,Qgt]
 first
  | exact aD (m:=Builtin.Tuple.tupleExact _) (bA (aJ ⟨_,rfl,aJ h⟩) G)
  | exact aD (m:=Builtin.Tuple.tupleExact _) (bA (aD (aJ (aJ ⟨_,rfl,aJ h⟩))) G)
  | exact aD (aD (m:=Builtin.Tuple.tupleExact _) (bA (aJ (aJ ⟨_,rfl,aJ h⟩)) G))
  | exact aD (aD (m:=Builtin.Tuple.tupleExact _) (bA (aJ ⟨_,rfl,aJ h⟩) G))
end
end HT
namespace L2
open PySem PySem.Spec PyProof.Rows
variable {xs:List V} {us:List aA} {n t':Nat} {α:Type} {σ:St} {H:Hp} {s:aC} {p:aB}
abbrev TO:=St->Hp->(Option Int->Hp->Prop)->Prop
def PO (X:Cx) (e:Option aH) (t:TO):Prop:=
 ∀ (pins:zAC) (s:aC) (σ:St) (H:Hp) (Q:Option Int->Hp->Prop),Inv X pins σ H s->t σ H Q ->
  aF (aI X.prog X.w) X.A (evalPart e X.env) (λu s'=>∃ o H',Inv X pins σ H' s'/\IsPart u o/\Q o H') X.xe s
def Qji:TO:=λ_ H Q=>Q zl H
def Qu0 (t:TE):TO:=λσ H Q=>t σ H λx H1=>∃ i,x=.int i/\Q (zo i) H1
def Xt {ns:List Int}:∀ {us:List aA},Vals (ns.map V.int) us->IntsAre us ns:=by
 induction ns with
 | nil=>intro us r; rw [bz] at r; cases r; exact .nil
 | cons n ns G=>
  intro us r;rw [O5] at r;cases r with
  | cons B q=>
   obtain ⟨t,e⟩:=B;subst e;exact .cons n t (G q)
variable {X:Cx} {e:aH} {te:TE} {lo hi:Option aH} {tl th:TO} {pos p2:Pos}
def Qm0:PO X zl Qji:=by
 intro pins s σ H Q I h;rw [evalPart_none];exact aJ ⟨zl,H,I,.none,h⟩
def Qkz (h:PE X e te):PO X (zo e) (Qu0 te):=by
 intro pins s σ H Q I J;rw [evalPart_some];refine thn (h pins s σ H _ I J) λu s1 ⟨x,H1,O,G,B⟩=>?_
 obtain ⟨i,rfl,q⟩:=B;obtain ⟨t,rfl⟩:=G;exact ⟨zo i,H1,O,.int i t,q⟩
def SlR (X:Cx) (r:V->Option Int->Option Int->Hp->VK->Prop):Prop:=
 ∀ (pins:zAC) (s:aC) (σ:St) (H:Hp) (x:V) (v vl vu:aA) (lo hi:Option Int) (sl:aB) (Q:VK),Inv X pins σ H s->RelV x v->s.heap.IsSliceOf sl vl vu .none->IsPart vl lo->IsPart vu hi->r x lo hi H Q ->
  ∃ T id,typeLookup (.type T) "__getitem__" = pure (zo (.builtin id))/\s.TypeIs v T/\aF (aI X.prog X.w) X.A (getItem v (.ref sl)) (EP X pins σ Q) X.xe s
def SlR.or {r J:V->Option Int->Option Int->Hp->VK->Prop} (h:SlR X r) (h':SlR X J):SlR X (λx lo hi H Q=>r x lo hi H Q\/J x lo hi H Q):=by
 intro pins s σ H x v G U lo hi sl Q I Y hs O B q;rcases q with q | q
 ·exact h pins s σ H x v G U lo hi sl Q I Y hs O B q
 ·exact h' pins s σ H x v G U lo hi sl Q I Y hs O B q
def tSl (r:V->Option Int->Option Int->Hp->VK->Prop) (te:TE) (tl th:TO):TE:=λσ H Q=>te σ H λx H1=>tl σ H1 λl H2=>th σ H2 λu H3=>r x l u H3 Q
def Qgx {r:V->Option Int->Option Int->Hp->VK->Prop} (Y:SlR X r) (he:PE X e te) (hl:PO X lo tl) (hu:PO X hi th):PE X (.Subscript e (.Slice lo hi zl p2) pos) (tSl r te tl th):=by
 intro pins s σ H Q I h;refine Subscript_ (thn (he pins s σ H _ I h) λv s1 ⟨x,H1,I1,r1,U⟩=>?_)
 refine wpAny_Slice (thn (hl pins s1 σ H1 _ I1 U) λG s2 ⟨l,H2,I2,pl,q2⟩=>thn (hu pins s2 σ H2 _ I2 q2) λJ B ⟨u,O,Z,pu,q3⟩=>?_)
 rw [evalPart_none];refine aJ ?_;have I4:Inv X pins σ O { B with heap:=B.heap.push { cls:=.type "slice",data:=.fields #[G,J,.none] } }:=Z.kept (t':=B.toks) λb ob q=>O1 _ q
 obtain ⟨T,id,hT,ht,hg⟩:=Y pins { B with heap:=B.heap.push { cls:=.type "slice",data:=.fields #[G,J,.none] } } σ O x v G J l u B.heap.objs.size Q I4 r1 (Heap.IsSliceOf.new ..) pl pu q3;show aF (aI X.prog X.w) X.A (subscriptTail e (.Slice lo hi zl p2) v (.ref B.heap.objs.size)) (EP X pins σ Q) X.xe { B with heap:=B.heap.push { cls:=.type "slice",data:=.fields #[G,J,.none] } };exact tail_any (ops:=[.ref B.heap.objs.size,v]) ht hT hg (by with_unfolding_all rfl)
def Q9h (xs:List V) (lo hi:Option Int):List V:=(xs.drop (HT.sIx xs.length 0 lo)).take (HT.sIx xs.length xs.length hi - HT.sIx xs.length 0 lo)
def Q1q (xs:List V) (lo hi:Option Int):(Q9h xs lo hi).length<=xs.length:=by
 unfold Q9h;rw [cU,cr];omega
def Qy4 (K:be):V->Option Int->Option Int->Hp->VK->Prop:=λx lo hi H Q=>∃ a xs,x=.ref a/\SqT K H a xs /\
 ¬ (HT.sIx xs.length 0 lo=0/\HT.sIx xs.length xs.length hi=xs.length)/\∀ p,H p=zl->Q (.ref p) (upd H p (.tup (Q9h xs lo hi)))
def sl_tup:SlR X (Qy4 X.K):=by
 intro pins s σ H x v vl vu lo hi sl Q I Y hs O J h;obtain ⟨a,xs,rfl,U,Z,q⟩:=h;cases Y;obtain ⟨its,r,G,hz⟩:=I.tuple U;have B:its.toArray.size=xs.length:=by rw [O8]; exact r.length.symm
 refine ⟨"tuple",_,PyProof.Rows.slot_tuple_getitem.lookup,G.typeIs,?_⟩;refine HT.getItem_tuple_cut G hs O J (by rw [B]; exact Z) ?_ (by rw [B]; exact hz);rw [B];refine ⟨.ref s.heap.objs.size,_,I.laid (t':=s.toks) (o:=.tup (Q9h xs lo hi)) (λb ob q=>O1 _ q) (O6 _) ?_,rfl,q _ (I.hok.fresh (O6 _))⟩;exact ⟨F3 (Q1q xs lo hi) hz,_,(r.drop (HT.sIx xs.length 0 lo)).take (HT.sIx xs.length xs.length hi - HT.sIx xs.length 0 lo),IsTup.new _ _⟩
def Qy7 (K:be):R2:=λx y H Q=>∃ a b ns ms,x=.ref a/\y=.ref b/\SqT K H a (ns.map V.int)/\SqT K H b (ms.map V.int)/\Q (.bl (HT.lexLt ns ms)) H
def Qrg (hu:X.A.units < aX):OpR X (aU .Lt) (Qy7 X.K):=by
 intro pins s σ H x y v u Q I Z O h;obtain ⟨a,b,ns,ms,rfl,rfl,G,U,q⟩:=h;cases Z;cases O;obtain ⟨its,Y,p1,_⟩:=I.tuple G;obtain ⟨B,J,p2,_⟩:=I.tuple U;have i1:IntsAre its.toArray.toList ns:=Xt Y;have i2:IntsAre B.toArray.toList ms:=Xt J;exact HT.lt_tupInts p1 p2 i1 i2 hu ⟨.bl (HT.lexLt ns ms),H,I,rfl,q⟩
def Qnw (K:be):R2:=λx y H Q=>∃ a b xs ys,x=.ref a/\y=.ref b/\SqT K H a xs/\SqT K H b ys/\xs≠[]/\xs.length + ys.length<=sizeLine /\
 (ys=[]->Q (.ref a) H)/\(ys≠[]->∀ p,H p=zl->Q (.ref p) (upd H p (.tup (xs ++ ys))))
def Vals.nil_iff (r:Vals xs us):us=[] <-> xs=[]:=by
 cases r with
 | nil=>simp
 | cons _ _=>simp
def op_catT:OpR X (aa .Add) (Qnw X.K):=by
 intro pins s σ H x y v u Q I rx U h;obtain ⟨a,b,xs,ys,rfl,rfl,O,hb,hx,hz,Z,Y⟩:=h;cases rx;cases U;obtain ⟨its,G,p1,_⟩:=I.tuple O;obtain ⟨J,B,p2,_⟩:=I.tuple hb;refine HT.cat_tup p1 p2 (λz=>hx (G.nil_iff.mp z)) (λz=>⟨.ref a,H,I,rfl,Z (B.nil_iff.mp z)⟩) (λz=>?_) (by rw [<- G.length,<- B.length]; exact hz)
 refine ⟨.ref s.heap.objs.size,_,I.laid (t':=s.toks) (o:=.tup (xs ++ ys)) (λb ob q=>O1 _ q) (O6 _) ?_,rfl,Y (λw=>z (B.nil_iff.mpr w)) _ (I.hok.fresh (O6 _))⟩;exact ⟨by rw [D4]; exact hz,_,G.append B,IsTup.new _ _⟩
def ixN (n:Nat) (i:Int):Option Nat:=if 0<=i then (if i < n then zo i.toNat else zl) else if -(n:Int)<=i then zo (i + n).toNat else zl
def atI {α:Type} (xs:List α) (i:Int):Option α:=(ixN xs.length i).bind λj=>xs[j]?
def Qcb {i:Int} {j:Nat} (h:ixN n i=zo j):seqIndex? i n=zo j/\j < n/\-(n:Int)<=i/\i < n:=by
 unfold ixN at h
 by_cases h0:0<=i
 ·rw [bX h0] at h
  by_cases h1:i < n
  ·rw [bX h1] at h;have e:i.toNat=j:=bm h;exact ⟨by rw [seqIndex_of h0 h1,e],by omega,by omega,h1⟩
  ·rw [bY h1] at h; cases h
 ·rw [bY h0] at h
  by_cases h1:-(n:Int)<=i
  ·rw [bX h1] at h;have e:(i + n).toNat=j:=bm h;exact ⟨by rw [seqIndex_neg () h1,e],by omega,h1,by omega⟩
  ·rw [bY h1] at h; cases h
def atI_get {xs:List α} {i:Int} {v:α} (h:atI xs i=zo v):∃ j,seqIndex? i xs.length=zo j/\xs[j]?=zo v/\j < xs.length/\-(xs.length:Int)<=i/\i < xs.length:=by
 unfold atI at h;cases e:ixN xs.length i with
 | none=>rw [e] at h; cases h
 | some j=>
  rw [e] at h;obtain ⟨h1,h2,B,q⟩:=Qcb e;exact ⟨j,h1,h,h2,B,q⟩
def Qcq (b:aH):Prop:=∀ o i,subscripted b zb o i=operate [o,i] (getItem o i)
def IxR (X:Cx) (r:R2):Prop:=
 ∀ (value slice:aH) (pins:zAC) (s:aC) (σ:St) (H:Hp) (x y:V) (v u:aA) (Q:VK),Inv X pins σ H s->RelV x v->RelV y u->r x y H Q ->
  subscripted slice zb v u=operate [v,u] (getItem v u)->aF (aI X.prog X.w) X.A (subscriptTail value slice v u) (EP X pins σ Q) X.xe s
def MtR (X:Cx) (id:String) (r:V->List V->Hp->VK->Prop):Prop:=
 ∀ (pins:zAC) (s:aC) (σ:St) (H:Hp) (x:V) (xs:List V) (v:aA) (us:List aA) (Q:VK),Inv X pins σ H s->RelV x v->Vals xs us->r x xs H Q ->
  aF (aI X.prog X.w) X.A (call (.builtin id) (v :: us)) (EP X pins σ Q) X.xe s
section
variable {X:Cx} {a b:aH} {ta tb:TE} {pos:Pos}
def IxR.or {r J:R2} (h:IxR X r) (h':IxR X J):IxR X (λx y H Q=>r x y H Q\/J x y H Q):=by
 intro value B pins s σ H x y v u Q I O G q hs;rcases q with q | q
 ·exact h value B pins s σ H x y v u Q I O G q hs
 ·exact h' value B pins s σ H x y v u Q I O G q hs
def Quw {r:R2} (J:IxR X r) (B:PE X a ta) (U:PE X b tb) (hs:Qcq b):PE X (.Subscript a b pos) (tOp r ta tb):=by
 intro pins s σ H Q I h;exact Subscript_ (Qsv B U I h λv u Z x y H2 O Y G q=>J a b pins Z σ H2 x y v u Q O Y G q (hs _ _))
def Qqg (K:be):R2:=λx y H Q=>∃ p xs i v,x=.ref p/\y=.int i/\SqL K H p xs/\atI xs i=zo v/\Q v H
def Quk (K:be):R2:=λx y H Q=>∃ p xs i v,x=.ref p/\y=.int i/\SqT K H p xs/\atI xs i=zo v/\Q v H
def Qum:R2:=λx y H Q=>∃ z i c,x=.str z/\y=.int i/\z.length<=sizeLine/\atI z.cps.toList i=zo c/\Q (.str ⟨#[c]⟩) H
def ix_list:IxR X (Qqg X.K):=by
 intro value J pins s σ H x y v u Q I rx Y h hs;obtain ⟨p,xs,i,z,rfl,rfl,hq,he,q⟩:=h;cases rx;obtain ⟨t,rfl⟩:=Y;obtain ⟨its,r,B,hz⟩:=I.list hq;obtain ⟨j,h1,h2,h3,h4,Z⟩:=atI_get he;obtain ⟨w,U,O⟩:=r.get h2;have hl:=r.length;have hn:=yi;have fin:EP X pins σ Q w s:=⟨z,H,I,O,q⟩
 by_cases h0:0<=i
 ·have G:i.toNat=j:=by
   rw [seqIndex_of h0 Z] at h1;exact bm h1
  exact item_listR B.isList h0 () (by rw [G]; simpa using U) fin hs
 ·have G:(i + (its.toArray.size:Int)).toNat=j:=by
   rw [seqIndex_neg () h4] at h1;rw [O8,<- hl];exact bm h1
  exact subscriptTail_builtinR (x:=w) B.isList.typeIs slot_list_getitem.lookup
   (wpAny_getItem_list_neg (Q:=λr s'=>r=w/\EP X pins σ Q r s') B.isList () (by rw [O8] <;> omega) () (by rw [G]; simpa using U) ⟨rfl,fin⟩) hs
def ix_tup:IxR X (Quk X.K):=by
 intro value B pins s σ H x y v u Q I Z O h hs;obtain ⟨p,xs,i,z,rfl,rfl,Y,U,q⟩:=h;cases Z;obtain ⟨t,rfl⟩:=O;obtain ⟨its,r,J,hz⟩:=I.tuple Y;obtain ⟨j,h1,h2,h3,h4,h5⟩:=atI_get U;obtain ⟨w,ew,G⟩:=r.get h2;have hl:=r.length;have hn:=yi;have fin:EP X pins σ Q w s:=⟨z,H,I,G,q⟩;exact subscriptTail_builtinR (x:=w) J.typeIs slot_tuple_getitem.lookup
  (getItem_tuple (j:=j) (Q:=λr s'=>r=w/\EP X pins σ Q r s') J () () (by rw [O8,<- hl]; exact h1) (by simpa using ew) ⟨rfl,fin⟩) hs
def Qs5:IxR X Qum:=by
 intro value B pins s σ H x y v u Q I rx G h hs;obtain ⟨z,i,c,rfl,rfl,hz,Y,q⟩:=h;obtain ⟨t,rfl⟩:=rx;obtain ⟨t',rfl⟩:=G;obtain ⟨j,h1,h2,h3,Z,J⟩:=atI_get Y;have hl:z.cps.toList.length=z.length:=by simp [Str.length]
 rw [hl] at h1 Z J;have hn:=yi;exact tail_any (typeIs_str s z t) slot_str_getitem.lookup (getItem_str (c:=c) (by
  have U:decide (i < -(2 ^ 63:Int))=zb:=bZ ();have O:decide (i>=2 ^ 63)=zb:=bZ ();rw [U,O,gE]) (by rw [h1]; simpa using h2) ⟨.str ⟨#[c]⟩,H,I.tok _,⟨_,rfl⟩,q⟩) hs
def rIx (K:be):R2:=λx y H Q=>Qqg K x y H Q\/Quk K x y H Q\/Qum x y H Q
def Qs6:IxR X (rIx X.K):=ix_list.or (ix_tup.or Qs5)
def Qam (its:List aA) (n j:Nat) (u:aA):bp (·.setIfInBounds j u) { cls:=.type "list",data:=.seq its.toArray n }={ cls:=.type "list",data:=.seq (its.set j u).toArray n }:=by
 simp [bp]
def Inv.lst {pins:zAC} (I:Inv X pins σ H s) (h:H p=zo (.lst xs)) :
  ∃ (its:List aA) (n:Nat),Vals xs its/\s.heap.get? p=zo { cls:=.type "list",data:=.seq its.toArray n }/\xs.length<=sizeLine:=by
 obtain ⟨z,its,n,r,e⟩:=I.hok p _ h;exact ⟨its,n,r,e,z⟩
def Inv.lstUpd {pins:zAC} {ys:List V} {its its':List aA} {n B:Nat} {f:Obj->Obj} (I:Inv X pins σ H s) (h:H p=zo (.lst xs))
  (J:s.heap.get? p=zo { cls:=.type "list",data:=.seq its.toArray n }) (G:f { cls:=.type "list",data:=.seq its.toArray n }={ cls:=.type "list",data:=.seq its'.toArray B }) (r:Vals ys its') (hz:ys.length<=sizeLine) (t:Nat) :
  Inv X pins σ (upd H p (.lst ys)) { s with heap:=s.heap.update p f,toks:=t }:=by
 have e:(s.heap.update p f).get? p=zo { cls:=.type "list",data:=.seq its'.toArray B }:=by
  rw [Heap.get?_update_self f J (by rw [G] <;> rfl),G]
 refine I.write (x:=p) (e:=p) (by rw [h]; trivial) (.inl rfl) (λb u O q=>(L4 _ _ (Ne.symm O)).trans q) ⟨_,e⟩ ?_
 exact ⟨hz,its',B,r,e⟩
def Qui:V->V->V->Hp->(Hp->Prop)->Prop:=λo i v H Q=>∃ p xs k j,o=.ref p/\i=.int k/\H p=zo (.lst xs)/\ixN xs.length k=zo j/\Q (upd H p (.lst (xs.set j v)))
def Q7y:Qt4 X Qui:=by
 intro pins s σ H o i v ov iv u Q I Z ri rv h;obtain ⟨p,xs,k,j,rfl,rfl,U,hj,q⟩:=h;cases Z;obtain ⟨t,rfl⟩:=ri;obtain ⟨its,n,r,B,hz⟩:=I.lst U;obtain ⟨h1,h2,O,Y⟩:=Qcb hj;have hl:=r.length;have hn:=yi;have J:Inv X pins σ (upd H p (.lst (xs.set j v))) { s with heap:=s.heap.update p (bp (·.setIfInBounds j u)) }:=
  I.lstUpd U B (Qam its n j u) (r.set rv j) (by rw [L3]; exact hz) s.toks
 by_cases h0:0<=k
 ·have G:k.toNat=j:=by
   rw [seqIndex_of h0 Y] at h1;exact bm h1
  exact PySem.W.ki_setAt B h0 () (by rw [O8,<- hl]; exact Y) (by rw [G]; exact ⟨_,J,q⟩)
 ·have G:(k + (its.toArray.size:Int)).toNat=j:=by
   rw [seqIndex_neg () O] at h1;rw [O8,<- hl];exact bm h1
  exact PySem.W.ki_setBack B () (by rw [O8,<- hl]; exact O) () (by rw [G]; exact ⟨_,J,q⟩)
def Q6n (lo hi:Option Int) (n:Nat):(bP lo hi zl n).1=((HT.sIx n 0 lo:Nat):Int)/\(bP lo hi zl n).2.1=((HT.sIx n n hi:Nat):Int)/\(bP lo hi zl n).2.2=1:=by
 refine ⟨?_,?_,rfl⟩
 ·cases lo with
  | none=>simp [bP,HT.sIx]
  | some i=>
   simp only [bP,HT.sIx,gF,show (1:Int) > 0 by decide,if_true]
   by_cases h:i < 0
   ·simp only [h,if_true] <;> omega
   ·simp only [h,if_false] <;> omega
 ·cases hi with
  | none=>simp [bP,HT.sIx]
  | some i=>
   simp only [bP,HT.sIx,gF,show (1:Int) > 0 by decide,if_true]
   by_cases h:i < 0
   ·simp only [h,if_true] <;> omega
   ·simp only [h,if_false] <;> omega
def Q4x (its:List aA) (lo hi:Option Int):slicePick its.toArray lo hi zl=((its.drop (HT.sIx its.length 0 lo)).take (HT.sIx its.length its.length hi - HT.sIx its.length 0 lo)).toArray:=by
 obtain ⟨h1,h2,q⟩:=Q6n lo hi its.toArray.size;unfold slicePick;rw [h1,h2,q];simp only [sliceRange_one,pick_run,O8] <;> rfl
def Qy5 (K:be):V->Option Int->Option Int->Hp->VK->Prop:=λx lo hi H Q=>∃ a xs,x=.ref a/\SqL K H a xs/\∀ p,H p=zl->Q (.ref p) (upd H p (.lst (Q9h xs lo hi)))
def Qk5:SlR X (Qy5 X.K):=by
 intro pins s σ H x v Z vu lo hi sl Q I Y hs O J h;obtain ⟨a,xs,rfl,U,q⟩:=h;cases Y;obtain ⟨its,r,G,hz⟩:=I.list U;have B:=r.length;refine ⟨"list",_,slot_list_getitem.lookup,G.isList.typeIs,?_⟩;refine wpAny_getItem_list_slice G.isList hs O J .none (by simp) ?_ (by rw [O8] <;> omega);rw [Q4x,<- B];refine ⟨.ref s.heap.objs.size,_,I.laid (t':=s.toks) (o:=.lst (Q9h xs lo hi)) (λb ob q=>O1 _ q) (O6 _) ?_,rfl,q _ (I.hok.fresh (O6 _))⟩;exact ⟨F3 (Q1q xs lo hi) hz,_,0,(r.drop (HT.sIx xs.length 0 lo)).take (HT.sIx xs.length xs.length hi - HT.sIx xs.length 0 lo),D2 _ rfl⟩
def Q7e:V1 X (.builtin "len") (λxs H Q=>∃ p ys,xs=[.ref p]/\(SqL X.K H p ys\/SqT X.K H p ys)/\Q (.int ys.length) H):=by
 intro pins s σ H xs us Q I r h;obtain ⟨p,ys,rfl,G,q⟩:=h;obtain ⟨u,rfl,U⟩:=Xc r;cases U;have Y:=yi;rcases G with G | G
 ·obtain ⟨its,J,O,hz⟩:=I.list G;have B:=J.length;exact Calls.call_len_list O.isList (by simp only [O8] <;> omega) ⟨.int ys.length,H,I.tok _,⟨s.toks + 1,by rw [O8,B]⟩,q⟩
 ·obtain ⟨its,J,O,hz⟩:=I.tuple G;have B:=J.length;exact len_tuple O (by simp only [O8] <;> omega) ⟨.int ys.length,H,I.tok _,⟨s.toks + 1,by rw [O8,B]⟩,q⟩
def Q7d:V1 X (.builtin "len") (λxs H Q=>∃ z,xs=[.str z]/\z.length<=sizeLine/\Q (.int z.length) H):=by
 intro pins s σ H xs us Q I r h;obtain ⟨z,rfl,hz,q⟩:=h;obtain ⟨u,rfl,t,rfl⟩:=Xc r;have B:=yi;exact len_str () ⟨.int z.length,H,I.tok _,⟨_,rfl⟩,q⟩
def Q0g:V1 X (.type "list") (λxs H Q=>∃ p ys,xs=[.ref p]/\(SqL X.K H p ys\/SqT X.K H p ys)/\∀ l,H l=zl->Q (.ref l) (upd H l (.lst ys))):=by
 intro pins s σ H xs us Q I r h;obtain ⟨p,ys,rfl,O,q⟩:=h;obtain ⟨u,rfl,rx⟩:=Xc r;cases rx;have fin:∀ (its:List aA),Vals ys its->ys.length<=sizeLine->∀ (h':Heap) (G:Nat),(∀ b o',s.heap.get? b=zo o'->h'.get? b=zo o') ->
   h'.get? s.heap.objs.size=zo { cls:=.type "list",dict:=zl,data:=.seq its.toArray G,slots:=#[] }->EP X pins σ Q (.ref s.heap.objs.size) { s with heap:=h' }:=λits B hz h' G kp e=>
  ⟨.ref s.heap.objs.size,_,I.laid (t':=s.toks) kp (O6 _) (show ObjOk X.prog X.w _ h' _ (.lst ys) from ⟨hz,its,G,B,e⟩),rfl,q _ (I.hok.fresh (O6 _))⟩
 rcases O with O | O
 ·obtain ⟨its,B,U,hz⟩:=I.list O;have J:=B.length;obtain ⟨o,Y,Z,n,hd⟩:=U.isList;exact call_list_seq p (.inl rfl) Y Z hd (λh' G kp e=>fin its B hz h' G kp e) (by simp only [O8] <;> omega)
 ·obtain ⟨its,B,U,hz⟩:=I.tuple O;have J:=B.length;obtain ⟨o,Y,Z,n,hd⟩:=U;exact call_list_seq p (.inr rfl) Y Z hd (λh' G kp e=>fin its B hz h' G kp e) (by simp only [O8] <;> omega)
def yb:V1 X (.type "tuple") (λxs H Q=>∃ p ys,xs=[.ref p]/\((SqL X.K H p ys/\∀ l,H l=zl->Q (.ref l) (upd H l (.tup ys)))\/(SqT X.K H p ys/\Q (.ref p) H))):=by
 intro pins s σ H xs us Q I r h;obtain ⟨p,ys,rfl,h⟩:=h;obtain ⟨u,rfl,Z⟩:=Xc r;cases Z;rcases h with ⟨J,q⟩ | ⟨J,q⟩
 ·obtain ⟨its,B,G,hz⟩:=I.list J;have O:=B.length;refine call_tuple_list G.isList (λh' kp=>?_) (by simp only [O8] <;> omega);have U:Inv X pins σ H { s with heap:=h' }:=I.kept (t':=s.toks) kp;have Y:Inv X pins σ (upd H h'.objs.size (.tup ys)) { s with heap:=h'.push { cls:=.type "tuple",data:=.seq its.toArray } }:=
   U.laid (t':=s.toks) (λb o e=>O1 _ e) (O6 _) (show ObjOk X.prog X.w _ _ _ (.tup ys) from ⟨hz,its,B,IsTup.new _ _⟩)
  exact ⟨.ref h'.objs.size,_,Y,rfl,q _ (U.hok.fresh (O6 _))⟩
 ·obtain ⟨its,B,G,hz⟩:=I.tuple J;exact call_tuple_same G ⟨.ref p,H,I,rfl,q⟩
def tyV (K:be) (T:String) (x:V) (H:Hp):Prop:=match x with
 | .str _=>T = "str"
 | .int _=>T = "int"
 | .ref p=>(T = "list" /\ ∃ xs,SqL K H p xs)\/(T = "tuple" /\ ∃ o,K.lookup p=zo o/\o.cls=.type "tuple" /\ o.dict=zl) \/
   (T = "dict" /\ ((∃ kvs,H p=zo (.dK kvs))\/∃ kvs,H p=zo (.dT kvs)))\/(T = "set" /\ ∃ S n,H p=zo (.set S n))
 | _=>False
def Q9v {pins:zAC} {T:String} {x:V} {v:aA} (I:Inv X pins σ H s) (r:RelV x v) (ty:tyV X.K T x H) :
  s.TypeIs v T/\∀ a,v=.ref a->∃ ob,s.heap.get? a=zo ob/\ob.dict=zl:=by
 cases x with
 | str z=>
  obtain ⟨t,rfl⟩:=r;cases (show T = "str" from ty);exact ⟨typeIs_str s z t,λ_ e=>nomatch e⟩
 | int i=>
  obtain ⟨t,rfl⟩:=r;cases (show T = "int" from ty);exact ⟨typeIs_int s i t,λ_ e=>nomatch e⟩
 | ref p=>
  cases r;rcases ty with ⟨rfl,xs,O⟩ | ⟨rfl,o,q,J,hd⟩ | ⟨rfl,q⟩ | ⟨rfl,S,n,q⟩
  ·obtain ⟨its,_,G,_⟩:=I.list O;refine ⟨G.isList.typeIs,λa e=>?_⟩;cases e;obtain ⟨o,n,e,c,hd,_⟩:=G;exact ⟨o,e,hd⟩
  ·refine ⟨⟨o,I.kIn p o q,J⟩,λa e=>?_⟩
   cases e;exact ⟨o,I.kIn _ o q,hd⟩
  ·have z:∃ o,s.heap.get? p=zo o/\o.ExactDict:=by
    rcases q with ⟨kvs,q⟩ | ⟨kvs,q⟩
    ·obtain ⟨_,_,_,_,o,_,_,e,ex,_⟩:=I.hok p _ q;exact ⟨o,e,ex⟩
    ·obtain ⟨_,_,_,_,o,_,_,e,ex,_⟩:=I.hok p _ q;exact ⟨o,e,ex⟩
   obtain ⟨o,e,ex⟩:=z;refine ⟨⟨o,e,ex.1⟩,λa B=>?_⟩
   cases B;exact ⟨o,e,ex.2.1⟩
  ·obtain ⟨o,_,_,_,e,ex,_⟩:=I.hok p _ q;refine ⟨⟨o,e,ex.1⟩,λa B=>?_⟩
   cases B;exact ⟨o,e,ex.2.1⟩
 | _=>exact False.elim ty
def tBM (K:be) (T:String) (r:V->List V->Hp->VK->Prop) (to:TE) (t:TA):TE:=λσ H Q=>to σ H λx H1=>tyV K T x H1/\t σ H1 λxs H2=>r x xs H2 Q
variable {o e:aH} {es:List aH} {to:TE} {t:TA} {name:Str} {apos cpos:Pos} {T id:String} {r:V->List V->Hp->VK->Prop}
def Qux (pa:PlainAttrs T) (slot:Slot T name id) (O:typeOf (.builtin id)=pure (.type "method_descriptor")) (hm:MtR X id r) (ho:PE X o to) (ha:PA X (e :: es) t)
  (G:bF o name X.env (aO o X.env)=aO o X.env:=by rfl)
  (J:((ag cpos (aQ (e :: es) X.env)).all (λx=>!x.1) && (backToKw cpos (keywordEach [] X.env)).all (λx=>x.1.isSome)
   && decide ((e :: es).length + ([]:List Keyword).length + (if ([]:List Keyword).isEmpty then 0 else 1) < 30))=zi:=by rfl)
  (B:(apos.endLine == cpos.line)=zi:=by rfl) (hs:aQ (e :: es) X.env=(zb,aO e X.env) :: aQ es X.env:=by rfl) (q:(ag cpos (aQ es X.env)).any (·.1)=zb:=by rfl) :
  PE X (.Call (.Attribute o name apos) (e :: es) [] cpos) (tBM X.K T r to t):=by
 intro pins s σ H Q I h;refine wpAny_Call_method_late G J B rfl (thn (ho pins s σ H _ I h) λv s1 ⟨x,H1,Z,Y,ty,q1⟩=>?_)
 obtain ⟨h1,h2⟩:=Q9v Z Y ty;refine ⟨T,id,pa,slot,O,h1,h2,?_⟩;have U:=ha cpos pins s1 σ H1 _ Z q1;rw [hs] at U ⊢;refine Calls.callWith_builtin (by show (zb || (ag cpos (aQ es X.env)).any (·.1))=zb; rw [q] <;> rfl) (Calls.evalArgs_plain ?_);exact thn U λus s2 ⟨vs,H2,I2,r2,q2⟩=>hm pins s2 σ H2 x vs v us Q I2 Y r2 q2
end
def MtM (X:Cx) (id:String) (r:V->List V->Hp->VK->Prop):Prop:=
 ∀ (pins:zAC) (s:aC) (σ:St) (H:Hp) (x:V) (xs:List V) (v:aA) (us:List aA) (Q:VK),Inv X pins σ H s->RelV x v->Vals xs us->r x xs H Q ->
  aF (aI X.prog X.w) X.A (call (.builtin id) (v :: us)) (EP X pins σ Q) X.xe s
def Vals.one:∀ {x:V} {us:List aA},Vals [x] us->∃ u,us=[u]/\RelV x u
 | _,_,.cons r .nil=>⟨_,rfl,r⟩
def Vals.zero:∀ {us:List aA},Vals [] us->us=[]
 | _,.nil=>rfl
theorem Vals.rep (h:Vals xs us):∀ k:Nat,Vals (bg k xs).flatten (bg k us).flatten
 | 0=>.nil
 | k + 1=>by
  rw [cn,cn,cu,cu];exact Vals.append h (Vals.rep h k)
theorem Q17 (its:List aA):∀ (k:Nat) (q:List aA),
  dk (λG I=>G ++ I) q.toArray (bg k its.toArray)=(q ++ (bg k its).flatten).toArray
 | 0,q=>by simp
 | k + 1,q=>by
  have e:q.toArray ++ its.toArray=(q ++ its).toArray:=by simp
  have B:(q ++ its) ++ (bg k its).flatten=q ++ (bg (k + 1) its).flatten:=by
   rw [cn,cu,F4]
  rw [<- B,<- Q17 its k (q ++ its),<- e,cn,cV]
variable {pins:zAC} {σ:St} {H:Hp} {s:aC} {l b:aB} {xs ys zs:List V}
def Inv.lset {its its':List aA} {n:Nat} {f:Array aA->Array aA} {t':Nat} (I:Inv X pins σ H s) (G:H l=zo (.lst xs))
  (e:s.heap.get? l=zo { cls:=.type "list",data:=.seq its.toArray n }) (J:f its.toArray=its'.toArray) (B:Vals ys its') (hz:ys.length<=sizeLine) :
  Inv X pins σ (upd H l (.lst ys)) { s with heap:=s.heap.update l (bp f),toks:=t' }:=by
 have q:=PySem.IsL.update e f;rw [J] at q;refine I.write (x:=l) (e:=l) (by rw [G]; exact trivial) (.inl rfl) (λY u O U=>(L4 s.heap (bp f) (Ne.symm O)).trans U) ⟨_,q⟩ ?_
 exact ⟨hz,its',_,B,q⟩
def Inv.lnew {its:List aA} {t':Nat} (I:Inv X pins σ H s) (B:Vals ys its) (hz:ys.length<=sizeLine) :
  Inv X pins σ (upd H s.heap.objs.size (.lst ys)) { s with heap:=s.heap.push { cls:=.type "list",data:=.seq its.toArray },toks:=t' }:=
 I.laid (λ_ _ q=>O1 _ q) (O6 _) ⟨hz,its,0,B,D2 _ rfl⟩
def Inv.fresh (I:Inv X pins σ H s):H s.heap.objs.size=zl:=I.hok.fresh (O6 _)
def Inv.lstM (I:Inv X pins σ H s) (q:H l=zo (.lst xs)):xs.length<=sizeLine/\∃ (its:List aA) (n:Nat),Vals xs its/\xs.length=its.length/\s.heap.get? l=zo { cls:=.type "list",data:=.seq its.toArray n }:=by
 obtain ⟨z,its,n,r,e⟩:=I.hok l _ q;exact ⟨z,its,n,r,r.length,e⟩
def Q8i (h:n<=sizeLine):Builtin.List.listTooLong n=zb:=by
 unfold Builtin.List.listTooLong;exact bZ ()
def Qkn:V->List V->Hp->VK->Prop:=λx vs H Q=>∃ l xs y,x=.ref l/\vs=[y]/\H l=zo (.lst xs)/\xs.length < sizeLine/\Q .non (upd H l (.lst (xs ++ [y])))
def Qdt:MtM X "list.append" Qkn:=by
 intro pins s σ H x vs v us Q I J O h;obtain ⟨l,xs,y,rfl,rfl,B,hz,q⟩:=h;cases J;obtain ⟨u,rfl,G⟩:=O.one;obtain ⟨z,its,n,r,hl,e⟩:=I.lstM B;refine bG F.slot_list_append ⟨_,e,rfl⟩ F.entry_list_append (F.args_list_append_2 _ _) (gG l its.toArray n u (by rw [O8]; omega)) ⟨e,?_⟩;refine ⟨.non,_,I.lset (its':=its ++ [u]) B e (by simp) (r.append (.cons G .nil)) ?_,rfl,q⟩;rw [D4,ee];omega
def Qkm:V->List V->Hp->VK->Prop:=λx vs H Q=>∃ l b xs zs,x=.ref l/\vs=[.ref b]/\H l=zo (.lst xs)/\H b=zo (.lst zs)/\xs.length + zs.length<=sizeLine/\Q .non (upd H l (.lst (xs ++ zs)))
def Qdr:MtM X "list.extend" Qkm:=by
 intro pins s σ H x vs v us Q I rx rv h;obtain ⟨l,b,xs,zs,rfl,rfl,J,hB,hz,q⟩:=h;cases rx;obtain ⟨u,rfl,O⟩:=rv.one;cases O;obtain ⟨z,its,n,r,hl,e⟩:=I.lstM J;obtain ⟨z2,B,Y,U,Z,e2⟩:=I.lstM hB;have hsz:its.toArray.size + B.toArray.size<=sizeLine:=by rw [O8,O8]; omega
 have G:¬ (!its.toArray.isEmpty && Builtin.List.listTooLong (its.toArray.size + B.toArray.size))=zi:=by
  rw [Q8i hsz,cN];exact E1
 refine bG F.slot_list_extend ⟨_,e,rfl⟩ F.entry_list_extend (F.args_list_extend_2 _ _)
  (AutoSeq1.list_extend_list_list_0 l its.toArray n b B.toArray Y G (by rw [O8]; omega) ()) ⟨e,e2,?_⟩
 refine ⟨.non,_,I.lset (its':=its ++ B) J e (by simp) (r.append U) ?_,rfl,q⟩;rw [D4];omega
def Qqh:V->List V->Hp->VK->Prop:=λx vs H Q=>∃ l xs,x=.ref l/\vs=[]/\H l=zo (.lst xs)/\Q .non (upd H l (.lst []))
def Qhj:MtM X "list.clear" Qqh:=by
 intro pins s σ H x vs v us Q I J O h;obtain ⟨l,xs,rfl,rfl,G,q⟩:=h;cases J;have B:=O.zero;subst B;obtain ⟨z,its,n,r,hl,e⟩:=I.lstM G;refine bG F.slot_list_clear ⟨_,e,rfl⟩ F.entry_list_clear (F.args_list_clear_1 _) (AutoSeq1.list_clear_list_0 l its.toArray n (by rw [O8]; omega)) ⟨e,?_⟩;exact ⟨.non,_,I.lset (its':=[]) (ys:=[]) G e rfl .nil (L5 _),rfl,q⟩
def Qy8:R2:=λx y H Q=>∃ l b xs zs,x=.ref l/\y=.ref b/\H l=zo (.lst xs)/\H b=zo (.lst zs)/\xs.length + zs.length<=sizeLine/\∀ p,H p=zl->Q (.ref p) (upd H p (.lst (xs ++ zs)))
def Qri:OpR X (aa .Add) Qy8:=by
 intro pins s σ H x y v u Q I rx O h;obtain ⟨l,b,xs,zs,rfl,rfl,U,hB,hz,q⟩:=h;cases rx;cases O;obtain ⟨z,its,n,r,hl,e⟩:=I.lstM U;obtain ⟨z2,B,n2,J,Y,Z⟩:=I.lstM hB;refine PySem.P.add_list e Z ?_ (by rw [O8,O8]; omega);have G:its.toArray ++ B.toArray=(its ++ B).toArray:=by simp
 rw [G];exact ⟨.ref _,_,I.lnew (t':=s.toks) (r.append J) (by rw [D4]; omega),rfl,q _ I.fresh⟩
def Qy6:R2:=λx y H Q=>∃ l k xs,x=.ref l/\y=.int k/\H l=zo (.lst xs)/\-(2 ^ 63)<=k/\k < 2 ^ 63/\xs.length * k.toNat<=sizeLine /\
 ∀ p,H p=zl->Q (.ref p) (upd H p (.lst (bg k.toNat xs).flatten))
def Q73 (xs:List α) (k:Nat):(bg k xs).flatten.length=k * xs.length:=by
 induction k with
 | zero=>simp
 | succ k q=>rw [cn,cu,D4,q,gH,Nat.add_comm]
def Qrc:OpR X (aa .Mult) Qy6:=by
 intro pins s σ H x y v u Q I rx ry h;obtain ⟨l,k,xs,rfl,rfl,hH,h1,h2,hz,q⟩:=h;cases rx;obtain ⟨t,rfl⟩:=ry;obtain ⟨z,its,n,r,hl,e⟩:=I.lstM hH;have Y:its.toArray.size * k.toNat<=sizeLine:=by rw [O8,<- hl]; exact hz
 have J:¬ its.toArray.size * k.toNat > (2 ^ 63 - 1) / 8:=by
  have:(sizeLine:Nat)<=(2 ^ 63 - 1) / 8:=by decide
  omega
 have O:¬ (!Builtin.List.listFitsIndex k)=zi:=by
  rw [fitsIndex_both h1 h2];exact E1
 have B:¬ Builtin.List.listTooLong (its.toArray.size * k.toNat)=zi:=by
  rw [Q8i Y];exact E1
 have G:dk (λZ x2=>Z ++ x2) #[] (bg (if its.toArray.isEmpty=zi then 0 else k.toNat) its.toArray)=(bg k.toNat its).flatten.toArray:=by
  have f0:∀ m:Nat,dk (λZ x2=>Z ++ x2) #[] (bg m its.toArray)=(bg m its).flatten.toArray:=λm=>by
   have:=Q17 its m [];rw [dI] at this;exact this
  rw [f0];cases its with
  | nil=>simp
  | cons a r'=>rw [bY (by simp)]
 refine wpAny_binaryOp_repeat_ref (T := "list") (U := "int") (by decide) ⟨_,e,rfl⟩ (λs'=>typeIs_int s' k t) noFill_list_mul F.fills_int_mul F.slot_int_rmul repeat_list F.slot_int_index.lookup
  (bG F.slot_int_rmul (typeIs_int s k t) F.entry_int_rmul (F.args_int_rmul_2 _ _) (int___rmul___int_list k t l its.toArray n)
   ⟨e,rfl,⟨_,e,rfl⟩,bG F.slot_list_mul ⟨_,e,rfl⟩ F.entry_list_mul (F.args_list_mul_2 _ _) (AutoListH.list___mul___list_int_3 l its.toArray n k t O J B) ⟨e,?_⟩⟩)
 rw [G];exact ⟨.ref _,_,I.lnew (t':=s.toks) (r.rep k.toNat) (by rw [Q73,eh]; exact hz),rfl,q _ I.fresh⟩
end L2
namespace Att
open PySem PySem.W PySem.Calls PyProof.Rows
def Q23 {P:Params} {h:Heap}:∀ (ns:List Int) (vs:List aA),WellAll P h vs (ns.map WData.int)->IntsAre vs ns:=by
 intro ns
 induction ns with
 | nil=>
  intro vs w;rw [bz] at w;cases w;exact .nil
 | cons n ns q=>
  intro vs w;rw [O5] at w;cases w with
  | cons a b=>
   cases a;exact .cons _ _ (q _ b)
def Qd9 {l:OpenLaw} {n:Nat} (hn:l.most=zo n) {P:Params} {h:Heap} {args:List WData} {B:List aA}
  (G:l.row.toRowW.claim.pre args=zi) (Z:WellAll P h B args) :
  ∃ a vs ns,B=[bj a]/\args=[WData.list (ns.map WData.int)]/\h.get? a=zo { cls:=.type "list",data:=.seq vs.toArray }/\IntsAre vs ns/\ns.length<=n:=by
 have Y:WShape.hasAll [] args [.list .int]=zi:=(pre_splitW G).1;have hc:l.pre.holds [] { args:=args }=zi:=(pre_splitW G).2;obtain ⟨d,r,rfl,h1,h2⟩:=hasAllW_cons Y;obtain rfl:=hasAllW_nil h2;obtain ⟨xs,rfl,h3⟩:=hasW_list h1;obtain ⟨ns,rfl⟩:=items_int h3;have I:ns.length<=n:=by
  unfold OpenLaw.pre at hc;have U:(WTm.not (.lt (.lit (.int (n:Int))) (.len (.arg 0)))).holds [] { args:=[.list (ns.map .int)] }=zi:=by
   have U:=(holds_andW hc).1;rw [hn] at U;exact U
  have O:=condW_of U (w_not (w_lt w_lit (w_len_list (w_arg rfl))));rw [O3] at O;refine er λq=>?_
  have q':(n:Int) < ((ns.length:Nat):Int):=by omega
  first
   | (rw [ba q'] at O; exact absurd O (by decide))
   | (simp at O; omega)
 cases Z with
 | cons w1 w2=>
  cases w2;cases w1 with
  | list ho J=>exact ⟨_,_,ns,rfl,rfl,ho,Q23 ns _ J,I⟩
def Qde (l:OpenLaw) (args:List WData):l.row.toRowW.claim.post args (.bool zi) args=zi:=
 postW_of (r:=l.row.toRowW) (X:=(zi == zi))
  (show WShape.has [] (.bool zi) .bool=zi by first | rfl | decide | simp [WShape.has,WShape.arms,WShape.armsAll])
  (show (WTm.eq .res (.lit (.bool zi))).value [] { args:=args,res:=zo (.bool zi),after:=args }=zo (.bool (zi == zi)) from w_eq_bool (w_res rfl) w_lit) rfl
def attach_call {l:OpenLaw} {n:Nat} {q:aL} {I:List Str} {XP:(Str->Option aA)->Heap->Prop} {YP:aK->Heap->Prop} {d:DefRec}
  (hn:l.most=zo n) (a4:d.params.defaults=[])
  (call:∀ (w:aK) (s₀ B:aC) (mg mb:Str->Option aA) (Z:aB) (o:Obj) (pm cd O:aA) (a:aB) (vs:List aA) (ns:List Int),
   Ground q I [] XP w s₀ mg mb B.heap->YP w B.heap ->
   B.heap.get? Z=zo o->o.data=.func (docDef d.name d.params d.body d.scope pm cd O)->B.heap.CodeRec cd d.name->mg d.name=zo (.ref Z) ->
   B.heap.get? a=zo { cls:=.type "list",data:=.seq vs.toArray }->IntsAre vs ns->ns.length<=n->B.gens=#[] ->
   codeAny (aI l.prog w) callerA (.call (.ref Z) ⟨[.ref a],[]⟩) (λr s'=>r=.ok (.ret (.bool zi))/\OldK B.heap s'.heap/\s'.os=B.os/\AllBare s'.gens) B) :
  WalkO q I XP YP l.row.toRowW d [] (λf vs=>eu f vs):=by
 intro w s₀ B mg mb G Y Z o pm cd O dV kV ho hd a3 hD a5 hg args a7 as U a8 a9 a6 b0;obtain rfl:dV=.none:=Dflts.none hD a4;obtain rfl:kV=.none:=Dflts.noKw hD;obtain ⟨a,vs,ns,rfl,rfl,a2,J,a1⟩:=Qd9 hn U a6;refine enter_call (bN (call w s₀ B mg mb Z o pm cd O a vs ns G Y ho (fd_plain hd) a3 a5 a2 J a1 hg) λr s' hq=>?_)
 obtain ⟨rfl,h2,h3,h4⟩:=hq;exact ⟨.inl ⟨.bool zi,.bool zi,[],rfl,λ_=>rfl,.bool zi,Qde l _,λ_=>⟨cW,λ_ hm=>(nomatch hm)⟩⟩,h2,h3,h4⟩
end Att
namespace L2
open PySem PySem.Spec PyProof.Rows
variable {a f it l z i1 i2 l1 l2:aB} {fd:aR} {x:Str} {ns:List Int} {st:aM} {h h':Heap} {Q:zAF} {t1 t2:Bool} {k1 k2:Nat} {b:aA} {xs:List V} {ta:TA} {tp:Pos}
theorem Q59:∀ {vs:List aA} {ns:List Int},IntsAre vs ns->Vals (ns.map V.int) vs
 | _,_,.nil=>.nil
 | _,_,.cons n t h=>.cons ⟨t,rfl⟩ (Q59 h)
def Qt5 (H:Hp):Prop:=∀ b,H b=zl\/∃ o xs,H b=zo (.frz o (.lst xs))
def Qhv {P:aL} {w:aK} {K:be} {mg mb:zAG} {CX:CXT} {k:Nat} {fa a:aB} {fd:aR} {x:Str} {sp:Sp} {B:aC} {vs:List aA} {ns:List Int}
  (KX:K.In B.heap) (a1:B.heap.Ns aV mg) (I:B.heap.Ns builtinsNs mb) (a5:∀ x:Str,x≠"__name__" -> mb x=aZ x) (a3:B.heap.NoLimit) (hg:B.gens=#[])
  (ha:B.heap.get? a=zo { cls:=.type "list",data:=.seq vs.toArray }) (hi:IntsAre vs ns) (hl:ns.length<=sizeLine) (hr:Room k callerA)
  (F:∀ base:Heap,K.In base->base.Ns aV mg->FnOk P w K mg base CX k fa fd [x] sp) (U:∀ (s:aC) (u:aA),BindsTo s fd ⟨[u],[]⟩ [(x,u)])
  (a7:∀ H:Hp,Qt5 H->SqL K H a (ns.map V.int)->sp [.ref a] H (λv _=>v=.bl zi) λ_ _ _=>False)
  (a4:∀ H e s',CX [] H B (λ_ _ _=>False) e s'->False) :
  codeAny (aI P w) callerA (.call (.ref fa) ⟨[.ref a],[]⟩) (λr s'=>r=.ok (.ret (.bool zi))/\OldK B.heap s'.heap/\s'.os=B.os/\AllBare s'.gens) B:=by
 have rv:=Q59 hi;have Y:=hi.length;have O:∀ H:Hp,Qt5 H->SqL K H a (ns.map V.int)->HOk P w H B.heap->(∀ b,H b≠zl->b=a)->(H a≠zl->K.lookup a=zl) ->
   codeAny (aI P w) callerA (.call (.ref fa) ⟨[.ref a],[]⟩) (λr s'=>r=.ok (.ret (.bool zi))/\OldK B.heap s'.heap/\s'.os=B.os/\AllBare s'.gens) B:=by
  intro H hO hS hok hA hK;have G:∀ {b:aB} {o:Obj},B.heap.get? b=zo o->H b=zl->(Q76 B.heap H).get? b=zo o:=λe n=>Qhy e n
  have a6:∀ {b:aB} {o:Obj} {es:Array DictEntry} {ep:Nat},B.heap.get? b=zo o->o.data=.dict es ep->H b=zl:=λ{b o es ep} e d=>by
   cases q:H b with
   | none=>rfl
   | some u=>
    have e':b=a:=hA b (by rw [q]; simp);subst e';rw [ha] at e; cases e;have d':Data.seq vs.toArray _=Data.dict es ep:=d;cases d'
  have J:∀ {b:aB} {m:zAG},B.heap.Ns b m->(Q76 B.heap H).Ns b m:=λ{b m} ⟨o,es,ep,e,d,r⟩=>⟨o,es,ep,G e (a6 e d),d,r⟩
  have Z:K.In (Q76 B.heap H):=λb o e=>G (KX b o e) (by
   cases q:H b with
   | none=>rfl
   | some u=>
    have e':b=a:=hA b (by rw [q]; simp);subst e';rw [hK (by rw [q]; simp)] at e; cases e)
  have hM:Mod K mg (Q76 B.heap H):=⟨Z,J a1,⟨mb,J I,a5⟩,let ⟨mc,h1,h2⟩:=a3; ⟨mc,J h1,h2⟩⟩;have e0:Env0 P w K mg (Q76 B.heap H) callerA [] B H:=⟨rfl,hM,λb o e=>Qmp e,fA (Qed _ _),trivial,λb I=>absurd (show b∈([]:List aB) from I) (by simp),hok,.of_eq hg⟩;refine bN ((F _ Z (J a1)).run callerA [] B H ⟨[.ref a],[]⟩ [.ref a] [.ref a] _ _ hr e0 (U B (.ref a)) (.cons rfl .nil) (a7 H hO hS)) λr s' h=>?_
  cases r with
  | error e=>exact (a4 H e s' h).elim
  | ok fl=>
   cases fl with
   | next=>exact False.elim h
   | brk=>exact False.elim h
   | cont=>exact False.elim h
   | ret u=>
    obtain ⟨v,H',os,bare,un,a2,r',q⟩:=h;have q':v=.bl zi:=q;subst q';obtain rfl:u=ci zi:=r';refine ⟨rfl,OldK.of_keep λb o e=>?_,os,bare⟩;cases q:H b with
    | none=>exact un.keep b o e q (by intro z; exact absurd (show b∈([]:List aB) from z) (by simp)) (by simp)
    | some u=>
     rcases hO b with z | ⟨ob,xs,z⟩
     ·rw [q] at z; cases z
     ·have z2:=un.frzs b ob _ z;obtain ⟨e1,_⟩:=hok b _ z;obtain ⟨e2,_⟩:=a2 b _ z2;rw [e] at e1; cases e1;exact e2
 cases hk:K.lookup a with
 | some o=>
  have e:=KX a o hk;rw [ha] at e;cases e;refine O (λ_=>zl) (λ_=>.inl rfl) (.inr ⟨_,vs.toArray,_,hk,rfl,rfl,rfl,by rw [O8,Y]; exact hl,by simpa using rv⟩) (λb u z=>by have z':(zl:Option HO)=zo u:=z; cases z') (λb z=>absurd rfl z) λz=>absurd rfl z
 | none=>
  refine O (λb=>if b=a then zo (.frz { cls:=.type "list",data:=.seq vs.toArray } (.lst (ns.map V.int))) else zl) (λb=>?_) (.inl (.inr ⟨{ cls:=.type "list",data:=.seq vs.toArray },bX rfl⟩)) (λb u z=>?_) (λb z=>?_) λ_=>hk
  ·by_cases I:b=a
   ·exact .inr ⟨_,_,bX I⟩
   ·exact .inl (bY I)
  ·by_cases I:b=a
   ·have z':=(bX I).symm.trans z;cases z';subst I;exact ⟨ha,by rw [O3]; exact hl,vs,_,rv,ha⟩
   ·have z':=(bY I).symm.trans z;cases z'
  ·by_cases I:b=a
   ·exact I
   ·exact absurd (bY I) z
def walk_of {l:fB} {n k:Nat} {q:aL} {J:List Str} {XP:(Str->Option aA)->Heap->Prop} {YP:aK->Heap->Prop} {d:DefRec} {K:Params->be} {CX:aK->CXT} {sp:aK->Sp} {x:Str}
  (hn:l.most=zo n) (a2:n<=sizeLine) (a3:d.params.defaults=[]) (hr:Room k callerA)
  (hY:∀ (w:aK) (h:Heap),YP w h->(K w.params).In h)
  (F:∀ (w:aK) (mg:zAG) (Z:aB) (h:Heap),(K w.params).In h->h.Ns aV mg->mg d.name=zo (.ref Z) ->
   ∃ fd:aR,(∀ (s:aC) (u:aA),BindsTo s fd ⟨[u],[]⟩ [(x,u)]) /\
    ∀ base:Heap,(K w.params).In base->base.Ns aV mg->FnOk l.prog w (K w.params) mg base (CX w) k Z fd [x] (sp w))
  (a4:∀ (w:aK) (H:Hp) (a:aB) (ns:List Int),ns.length<=n->Qt5 H->SqL (K w.params) H a (ns.map V.int)->sp w [.ref a] H (λv _=>v=.bl zi) λ_ _ _=>False)
  (a1:∀ (w:aK) (H:Hp) (s:aC) (e:aA) (s':aC),CX w [] H s (λ_ _ _=>False) e s'->False) :
  gI q J XP YP l.row.toRowW d [] (λf vs=>eu f vs):=by
 refine Att.attach_call hn a3 λw s₀ O mg mb Z o pm cd a7 a vs ns G Y ho hd a6 a5 U I B hg=>?_
 have KX:=hY w _ Y;obtain ⟨fd,hb,hF⟩:=F w mg Z _ KX G.T.g a5;exact Qhv KX G.T.g G.T.b G.T.builtins G.T.nolimit hg U I (F3 B a2) hr hF hb (λH hO hS=>a4 w H a ns B hO hS) λH e s'=>a1 w H O e s'
def Wn (s:aM):Arguments:=match s with
 | .FunctionDef _ a _ _ _ _ _ _ _ _=>a
 | _=>{ posonlyargs:=[],args:=[],vararg:=zl,kwonlyargs:=[],kw_defaults:=[],kwarg:=zl,defaults:=[] }
def Zz (s:aM):List aM:=match s with
 | .FunctionDef _ _ b _ _ _ _ _ _ _=>b
 | _=>[]
def Q9 (s:aM):Scope:=match s with
 | .FunctionDef _ _ _ _ _ _ sc _ _ _=>sc
 | _=>{ kind:=.function,names:=[],isGenerator:=zb,isCoroutine:=zb }
abbrev E0:XK:=λ_ _ _=>False
structure Fun (K:be) (x qual:Str) (st:aM) (f:aB) (fd:aR):Prop where
 ex:∃ (oc:aA) (od:Option aB) (kV doc pm:aA) (an:Option aB) (cdv ct:aA) (osl:Array (Option aA)),
  fd=bu x qual (Wn st) (Zz st) (Q9 st) .none kV doc pm an cdv ct/\K.lookup f=zo ⟨oc,od,.func fd,osl⟩/\cm K cdv qual=zi
 kp:cS K (.ref f)=zi
variable {P:aL} {K:be} {mg:zAG} {base:Heap}
section
variable {w:aK}
def Fun.binds {qual:Str} {ps:List Str} (F:Fun K x qual st f fd)
  (h:∀ (kV q I:aA) (G:Option aB) (B ct:aA) (us:List aA),us.length=ps.length->bindArgs (bu x qual (Wn st) (Zz st) (Q9 st) .none kV q I G B ct) ⟨us,[]⟩=pure (ps.zip us)):Binds K fd ps []:=by
 obtain ⟨oc,U,kV,q,I,G,B,ct,O,rfl,lk,J⟩:=F.ex;exact .all (h kV q I G B ct)
def Qi4 {qual:Str} {oc:aA} {O J:Option aB} {G:Array (Option aA)} {kV B I q ct:aA} (l:K.lookup f=zo ⟨oc,O,.func (bu x qual (Wn st) (Zz st) (Q9 st) .none kV B I J q ct),G⟩)
  (c:cm K q qual=zi) (k:cS K (.ref f)=zi):Fun K x qual st f (bu x qual (Wn st) (Zz st) (Q9 st) .none kV B I J q ct):=⟨⟨oc,O,kV,B,I,J,q,ct,G,rfl,l,c⟩,k⟩
end
variable {X:Cx}
def Same (H H':Hp):Prop:=∀ b o,H b=zo o->H' b=zo o
def Same.refl (H:Hp):Same H H:=λ_ _ h=>h
def Qb4 {scope:Scope} {env:Env} (h:∀ x∈scope.names,x.2=.free->∃ c,env.cells.lookup x.1=zo c) :
  ∃ cl,closureFor scope env=pure cl/\(∀ x c,cl.lookup x=zo c->env.cells.lookup x=zo c)/\(∀ x∈scope.names,x.2=.free->∃ c,cl.lookup x.1=zo c):=by
 have a1:∀ (l:List (Str × az)) (q:List (Str × aB)),(∀ x∈l,x.2=.free->∃ c,env.cells.lookup x.1=zo c)->(∀ x c,q.lookup x=zo c->env.cells.lookup x=zo c) ->
   ∃ cl,(forIn l q λ(x:Str × az) (r:List (Str × aB))=>(match x with
    | (name,kind)=>if (kind == NameKind.free)=zi then (do let c <- cellOf env name; pure (ForInStep.yield ((name,c) :: r))) else (do pure PUnit.unit; pure (ForInStep.yield r)):Sem (ForInStep (List (Str × aB)))))=pure cl /\
    (∀ x c,cl.lookup x=zo c->env.cells.lookup x=zo c)/\(∀ x∈l,x.2=.free->∃ c,cl.lookup x.1=zo c)/\(∀ x c,q.lookup x=zo c->∃ G,cl.lookup x=zo G):=by
  intro l
  induction l with
  | nil=>intro q _ Z; exact ⟨q,rfl,Z,λx hx=>(by simp at hx),λx c e=>⟨c,e⟩⟩
  | cons x r ih=>
   intro q hl Z;obtain ⟨n,k⟩:=x
   by_cases hk:k=.free
   ·subst hk;obtain ⟨c,hc⟩:=hl (n,.free) E3 rfl;have a2:∀ x G,((n,c) :: q).lookup x=zo G->env.cells.lookup x=zo G:=λx G e=>by
     rw [cK] at e
     by_cases hx:x=n
     ·subst hx; simp at e; rw [<- e]; exact hc
     ·have:(x == n)=zb:=by simpa using hx
      rw [this] at e; exact Z x G e
    obtain ⟨cl,U,O,J,Y⟩:=ih ((n,c) :: q) (λy B=>hl y (O7 _ B)) a2
    refine ⟨cl,?_,O,λy B hf=>?_,λy G e=>?_⟩
    ·rw [dm];have I:cellOf env n=pure c:=by unfold cellOf; rw [hc]
     simp only [beq_self_eq_true,if_true,I];exact U
    ·rcases D3.mp B with e | B
     ·subst e;exact Y n c (by simp)
     ·exact J y B hf
    ·by_cases B:y=n
     ·subst B; exact Y y c (by simp)
     ·have:(y == n)=zb:=by simpa using B
      exact Y y G (by rw [cK,this]; exact e)
   ·obtain ⟨cl,U,O,J,Y⟩:=ih q (λy B=>hl y (O7 _ B)) Z
    refine ⟨cl,?_,O,λy B hf=>?_,Y⟩
    ·rw [dm];have:(k == NameKind.free)=zb:=by simpa using hk
     simp only [this,cO,if_false];exact U
    ·rcases D3.mp B with e | B
     ·subst e; exact absurd hf hk
     ·exact J y B hf
 obtain ⟨cl,U,O,J,_⟩:=a1 scope.names [] h (λx c e=>by simp at e);refine ⟨cl,?_,O,J⟩;unfold closureFor;exact (congrArg (λz=>z >>= pure) U).trans rfl
theorem Q04 (f:Str->az->az) (x:Str):∀ l:List (Str × az),(l.map λy=>(y.1,f y.1 y.2)).lookup x=(l.lookup x).map (f x)
 | []=>rfl
 | (n,k) :: r=>by
  have G:=Q04 f x r;rw [O5,cK,cK]
  by_cases q:x=n
  ·subst q; simp
  ·have B:(x == n)=zb:=by simpa using q
   rw [B]; exact G
def jb {scope:Scope} {env:Env} :(relabel scope env).names.lookup x =
  (scope.names.lookup x).map λk=>if (k == .free && env.scope.kind == .function && env.kindOf x == zo .cell) then .cell else k:=by
 rw [<- Q04 (λn k=>if (k == .free && env.scope.kind == .function && env.kindOf n == zo .cell) then .cell else k)]
 unfold relabel;refine congrArg (List.lookup x) (M9 λy _=>?_);obtain ⟨n,k⟩:=y;show (if (k == NameKind.free && env.scope.kind == .function && env.kindOf n == zo .cell)=zi then (n,NameKind.cell) else (n,k))=_
 split <;> rfl
def Q0f (cap:zAE) (σ:St):St:=cap.map λc=>c.bind λj=>(σ[j]?).join
def HasItems (t:Bool) (h:Heap) (a:aB) (items:Array aA):Prop:=if t=zi then h.IsTuple a items else h.IsList a items
def IterAt (t:Bool) (h:Heap) (it a:aB) (i:Nat):Prop:=if t=zi then h.IsTupleIter it a i else h.IsListIter it a i
def HasItems.at {t:Bool} {q:Array aA} (x:HasItems t h a q) (k:∀ o,h.get? a=zo o->h'.get? a=zo o):HasItems t h' a q:=by
 cases t
 ·exact Heap.IsList.at x k
 ·obtain ⟨o,e,r⟩:=x;exact ⟨o,k o e,r⟩
def HasItems.there {t:Bool} {q:Array aA} (x:HasItems t h a q):∃ o,h.get? a=zo o:=by
 cases t
 ·obtain ⟨o,e,_⟩:=x; exact ⟨o,e⟩
 ·obtain ⟨o,e,_⟩:=x; exact ⟨o,e⟩
def IterAt.at {t:Bool} {i:Nat} (x:IterAt t h it a i) (k:∀ o,h.get? it=zo o->h'.get? it=zo o):IterAt t h' it a i:=by
 cases t
 ·exact Heap.IsListIter.at x k
 ·obtain ⟨o,e,r⟩:=x;exact ⟨o,k o e,r⟩
def IterAt.there {t:Bool} {i:Nat} (x:IterAt t h it a i):∃ o,h.get? it=zo o/\∀ v,o.data≠.cell v:=by
 cases t
 ·obtain ⟨o,e,_,d⟩:=x; exact ⟨o,e,λv z=>by rw [d] at z; cases z⟩
 ·obtain ⟨o,e,_,d⟩:=x; exact ⟨o,e,λv z=>by rw [d] at z; cases z⟩
variable {prog:aL} {A:aP} {E:zAF} {s:aC}
section
variable {w:aK}
def xy {i:Nat} {items} {x:aA} {Q:zAF} (hit:s.heap.IsTupleIter it l i)
  (hl:s.heap.IsTuple l items) (J:items[i]?=zo x)
  (O:∀ h',h'.IsTupleIter it l (i + 1)->Heap.SameBut it s.heap h'->Q x { s with heap:=h' }) :
  aF (aI prog w) A (Builtin.SmallTypes.nextOf (.ref it)) Q E s:=by
 obtain ⟨o,q,I,hd⟩:=id hit;obtain ⟨U,B,_,nl,G⟩:=hl;unfold Builtin.SmallTypes.nextOf;refine aD (wpAny_callSpecial?_slot (name:=cM "__next__") hit.typeIs F.slot_tuple_iterator_next
  (au F.slot_tuple_iterator_next hit.typeIs F.entry_tuple_iterator_next ?_ (F.args_tuple_iterator_next_1 _)))
 show aF _ _ (field (.ref it) 0 >>= _) _ _ s;refine aD (ah q hd (x:=.ref l) rfl ?_);show aF _ _ (if (bj l == bi)=zi then _ else _) _ _ s;rw [bY (show ¬ ((bj l == bi)=zi) from E1)];show aF _ _ (field (.ref it) 1 >>= _) _ _ s;refine aD (ah q hd (x:=.int i 0) rfl ?_);show aF _ _ (seqItems? (.ref l) >>= _) _ _ s;refine aD (bE B G ?_);simp only [bx,J];refine aD (wpAny_setField q hd (by simp) (aJ ⟨x,rfl,aJ (O _ ?_ (Heap.SameBut.update ..))⟩));exact ⟨_,Heap.get?_update_self _ q (fC (cv hd _)),(gJ ..).trans I,by
  rw [cv hd]; simp [aS]⟩
def Q12 {it l:aB} {i:Nat} {items} {Q:zAF} (I:A.handled=zl)
  (hit:s.heap.IsTupleIter it l i) (hl:s.heap.IsTuple l items) (O:items[i]?=zl)
  (J:∀ h' e,Heap.ExtBut it s.heap h'->(∃ o,h'.get? e=zo o/\o.cls=.type "StopIteration")->E (.ref e) { s with heap:=h' }) :
  aF (aI prog w) A (Builtin.SmallTypes.nextOf (.ref it)) Q E s:=by
 obtain ⟨o,q,U,hd⟩:=id hit;obtain ⟨Y,B,_,nl,G⟩:=hl;unfold Builtin.SmallTypes.nextOf;refine aD (wpAny_callSpecial?_slot (name:=cM "__next__") hit.typeIs F.slot_tuple_iterator_next
  (au F.slot_tuple_iterator_next hit.typeIs F.entry_tuple_iterator_next ?_ (F.args_tuple_iterator_next_1 _)))
 show aF _ _ (field (.ref it) 0 >>= _) _ _ s;refine aD (ah q hd (x:=.ref l) rfl ?_);show aF _ _ (if (bj l == bi)=zi then _ else _) _ _ s;rw [bY (show ¬ ((bj l == bi)=zi) from E1)];show aF _ _ (field (.ref it) 1 >>= _) _ _ s;refine aD (ah q hd (x:=.int i 0) rfl ?_);show aF _ _ (seqItems? (.ref l) >>= _) _ _ s;refine aD (bE B G ?_);simp only [bx,O];refine aD (bJ (aD (wpAny_setField q hd (by simp) ?_)));show aF _ _ (newExc (.type "StopIteration") [] >>= _) _ _ _;refine aD ?_;simp only [newExc,newTuple];refine aD (bA ?_ (by size_fits));refine aD (m:=firstArgMember _ _) (wpAny_of_eq (a:=bi) (by first | rfl | (simp only [firstArgMember]; rfl)) ?_);refine bA ?_ (by size_fits);simp only [bW]
 refine aD (wpAny_handled ?_)
 first | rw [show A.in1.handled=zl from I] | rw [I]
 refine aD (aJ (wpAny_throw ?_));exact J _ _ (((Heap.SameBut.update ..).extBut.push _).push _) ⟨_,D2 _ rfl,rfl⟩
def Xx {t:Bool} {i:Nat} {q:Array aA} {x:aA} {Q:zAF} (hit:IterAt t s.heap it l i)
  (hl:HasItems t s.heap l q) (B:q[i]?=zo x)
  (G:∀ h',IterAt t h' it l (i + 1)->Heap.SameBut it s.heap h'->Q x { s with heap:=h' }) :
  aF (aI prog w) A (Builtin.SmallTypes.nextOf (.ref it)) Q E s:=by
 cases t
 ·exact wpAny_nextOf_list_item hit hl B G
 ·exact xy hit hl B G
def Ky {t:Bool} {it l:aB} {i:Nat} {q:Array aA} {Q:zAF} (I:A.handled=zl)
  (hit:IterAt t s.heap it l i) (hl:HasItems t s.heap l q) (G:q[i]?=zl)
  (B:∀ h' e,Heap.ExtBut it s.heap h'->(∃ o,h'.get? e=zo o/\o.cls=.type "StopIteration")->E (.ref e) { s with heap:=h' }) :
  aF (aI prog w) A (Builtin.SmallTypes.nextOf (.ref it)) Q E s:=by
 cases t
 ·exact wpAny_nextOf_list_end I hit hl G B
 ·exact Q12 I hit hl G B
def Vk (t:Bool) (l:aB):Obj:=if t=zi then { cls:=.type "tuple_iterator",data:=.fields #[.ref l,.int 0 0] } else { cls:=.type "list_iterator",data:=.fields #[.ref l,.int 0 0] }
def V5 {t:Bool} {q:Array aA} {Q:zAF} (hl:HasItems t s.heap l q)
  (B:Q (.ref s.heap.objs.size) { s with heap:=s.heap.push (Vk t l) }):aF (aI prog w) A (pyIter (.ref l)) Q E s:=by
 cases t
 ·exact wpAny_pyIter_list hl B
 ·exact bR hl B
def ym {t:Bool} (e:h.get? it=zo (Vk t l)):IterAt t h it l 0:=by
 cases t
 ·exact ⟨_,e,rfl,rfl⟩
 ·exact ⟨_,e,rfl,rfl⟩
def qf (t:Bool) (l:aB):(Vk t l).isFreed=zb:=by cases t <;> rfl
def Qcu {t1 t2:Bool} {TI TO:aB} {k1 k2:Nat} {xs ys:Array aA} {x y a b:aA} {Q:zAF} (D:ZipApart z TI TO i1 i2 l1 l2)
  (hz:IsZip s.heap z TI TO .none) (c7:ae s.heap TI (.ref i1) (.ref i2)) (c9:ae s.heap TO a b)
  (h1:IterAt t1 s.heap i1 l1 k1) (h2:IterAt t2 s.heap i2 l2 k2) (d0:HasItems t1 s.heap l1 xs) (c8:HasItems t2 s.heap l2 ys) (hx:xs[k1]?=zo x) (hy:ys[k2]?=zo y)
  (hQ:∀ h',IsZip h' z TI TO (aS s.heap.objs.size)->ae h' TO x y->IterAt t1 h' i1 l1 (k1 + 1)->IterAt t2 h' i2 l2 (k2 + 1)->ae h' s.heap.objs.size x y->h'.objs.size=s.heap.objs.size + 1 ->
   (∀ c o,c≠z->c≠TO->c≠i1->c≠i2->s.heap.get? c=zo o->h'.get? c=zo o)->Q (.ref s.heap.objs.size) { s with heap:=h' }) :
  aF (aI prog w) A (Builtin.«zip.__next__» ⟨[.ref z],[]⟩) (λfin s'=>∃ v,fin=.done (.ret v)/\Q v s') E s:=by
 show aF _ _ (field (.ref z) 2 >>= _) _ _ _;refine aD (ah hz rfl (x:=.bool zb) rfl ?_);show aF _ _ (field (.ref z) 3 >>= _) _ _ _;refine aD (ah hz rfl (x:=.ref TI) rfl ?_);refine aD (bE c7 rfl ?_);show aF _ _ (Builtin.SmallTypes.ownedTupleIsFree (.ref z) >>= _) _ _ _;refine aD ?_;unfold Builtin.SmallTypes.ownedTupleIsFree;refine aD (ah hz rfl (x:=.none) rfl (aJ ?_));simp only [if_true];refine aD (bJ ?_);refine aD (ah hz rfl (x:=.ref TO) rfl ?_);refine aD (bC hz (by simp) λc5 a4 B=>?_)
 replace a4:IsZip c5 z TI TO .ellipsis:=a4;refine aD ?_;simp only [gK,gL,dm,fD];refine aD (aD (wpAny_onRaise ?_));show aF _ _ (Builtin.SmallTypes.nextOf (.ref i1) >>= _) _ _ _;refine aD (Xx (h1.at λo e=>B.extBut _ _ D.i1z e) (d0.at λo e=>B.extBut _ _ D.l1z e) hx λb9 b4 I=>aJ ?_)
 have a6:ae b9 TO a b:=I.extBut _ _ D.TOi1 (B.extBut _ _ D.TOz c9);refine aD (bE a6 rfl ?_);refine aD (wpAny_updateSeq_pair a6 λc6 Y G=>?_);replace Y:ae c6 TO x b:=Y;refine aD (wpAny_letGo (aJ ?_));refine aD (aD (wpAny_onRaise ?_));show aF _ _ (Builtin.SmallTypes.nextOf (.ref i2) >>= _) _ _ _;refine aD (Xx (h2.at λo e=>G.extBut _ _ D.TOi2.symm (I.extBut _ _ D.i12.symm (B.extBut _ _ D.i2z e)))
  (c8.at λo e=>G.extBut _ _ D.l2TO (I.extBut _ _ D.l2i1 (B.extBut _ _ D.l2z e))) hy λc0 b6 U=>aJ ?_)
 have a7:ae c0 TO x b:=U.extBut _ _ D.TOi2 Y;refine aD (bE a7 rfl ?_);refine aD (wpAny_updateSeq_pair a7 λq J O=>?_);replace J:ae q TO x y:=J;refine aD (wpAny_letGo (aJ (aJ ?_)));refine aD (bE J rfl ?_);refine aD (wpAny_newTuple ?_);have hsz:q.objs.size=s.heap.objs.size:=by rw [O.1,U.1,G.1,I.1,B.1]
 have a8:IsZip q z TI TO .ellipsis:=O.extBut _ _ D.TOz.symm (U.extBut _ _ D.i2z.symm (G.extBut _ _ D.TOz.symm (I.extBut _ _ D.i1z.symm a4)));have b1:∀ c o,c≠z->c≠TO->c≠i1->c≠i2->s.heap.get? c=zo o->q.get? c=zo o:=λc o c1 c2 c3 c4 e=>
  O.extBut _ _ c2 (U.extBut _ _ c4 (G.extBut _ _ c2 (I.extBut _ _ c3 (B.extBut _ _ c1 e))))
 have b2:IterAt t1 q i1 l1 (k1 + 1):=b4.at λo e=>O.extBut _ _ D.TOi1.symm (U.extBut _ _ D.i12 (G.extBut _ _ D.TOi1.symm e))
 have b3:IterAt t2 q i2 l2 (k2 + 1):=b6.at λo e=>O.extBut _ _ D.TOi2.symm e
 have b0:z < q.objs.size:=O9 a8;show aF _ _ (Builtin.SmallTypes.ownedTupleHandOut (.ref z) (.ref q.objs.size) >>= _) _ _ _;refine aD ?_;unfold Builtin.SmallTypes.ownedTupleHandOut;have b5:IsZip (q.push { cls:=.type "tuple",data:=.seq #[x,y] }) z TI TO .ellipsis:=O1 _ a8;refine aD (bC b5 (by simp) λb7 a5 a3=>?_)
 replace a5:IsZip b7 z TI TO (aS q.objs.size):=a5;refine bC a5 (by simp) λa1 Z a2=>?_
 replace Z:IsZip a1 z TI TO (aS q.objs.size):=Z;have up:∀ c o,c≠z->q.get? c=zo o->a1.get? c=zo o:=λc o c1 e=>a2.extBut _ _ c1 (a3.extBut _ _ c1 (O1 _ e))
 have a9:ae a1 q.objs.size x y:=a2.extBut _ _ (L7 b0) (a3.extBut _ _ (L7 b0) (D2 _ rfl));have b8:a1.objs.size=q.objs.size + 1:=by rw [a2.1,a3.1,F1]
 rw [hsz] at Z a9 b8;refine aJ ⟨_,rfl,?_⟩;show Q (.ref q.objs.size) _;rw [hsz];exact hQ a1 Z (up _ _ D.TOz J) (b2.at λo e=>up _ o D.i1z e) (b3.at λo e=>up _ o D.i2z e) a9 b8 λc o c1 c2 c3 c4 e=>up c o c1 (b1 c o c1 c2 c3 c4 e)
def Qfa {t1 t2:Bool} {TI TO:aB} {k1 k2:Nat} {xs ys:Array aA} {a b:aA} {Q:Fin->aC->Prop} (hh:A.handled=zl) (D:ZipApart z TI TO i1 i2 l1 l2)
  (hz:IsZip s.heap z TI TO .none) (b2:ae s.heap TI (.ref i1) (.ref i2)) (b5:ae s.heap TO a b)
  (h1:IterAt t1 s.heap i1 l1 k1) (h2:IterAt t2 s.heap i2 l2 k2) (a9:HasItems t1 s.heap l1 xs) (b3:HasItems t2 s.heap l2 ys) (b0:xs[k1]?=zl\/ys[k2]?=zl)
  (hE:∀ h' e,(∀ c o,c≠z->c≠TO->c≠i1->c≠i2->s.heap.get? c=zo o->h'.get? c=zo o)->(∃ o,h'.get? e=zo o/\o.cls=.type "StopIteration")->E (.ref e) { s with heap:=h' }) :
  aF (aI prog w) A (Builtin.«zip.__next__» ⟨[.ref z],[]⟩) Q E s:=by
 show aF _ _ (field (.ref z) 2 >>= _) _ _ _;refine aD (ah hz rfl (x:=.bool zb) rfl ?_);show aF _ _ (field (.ref z) 3 >>= _) _ _ _;refine aD (ah hz rfl (x:=.ref TI) rfl ?_);refine aD (bE b2 rfl ?_);show aF _ _ (Builtin.SmallTypes.ownedTupleIsFree (.ref z) >>= _) _ _ _;refine aD ?_;unfold Builtin.SmallTypes.ownedTupleIsFree;refine aD (ah hz rfl (x:=.none) rfl (aJ ?_));simp only [if_true];refine aD (bJ ?_);refine aD (ah hz rfl (x:=.ref TO) rfl ?_);refine aD (bC hz (by simp) λa7 I q=>?_)
 replace I:IsZip a7 z TI TO .ellipsis:=I;refine aD ?_;simp only [gK,gL,dm,fD];refine aD (aD (wpAny_onRaise ?_));show aF _ _ (Builtin.SmallTypes.nextOf (.ref i1) >>= _) _ _ _;cases hx:xs[k1]? with
 | none=>
  refine aD (Ky hh (h1.at λo e=>q.extBut _ _ D.i1z e) (a9.at λo e=>q.extBut _ _ D.l1z e) hx λU e B he=>?_)
  obtain ⟨oe,J,Z⟩:=he;have Y:IsZip U z TI TO .ellipsis:=B _ _ D.i1z.symm I;have a5:e≠z:=λx=>by subst x; rw [Y] at J; cases J; simp at Z
  refine bC Y (by simp) λa4 _ G=>hE a4 e (λc o c1 _ c3 _ x=>G.extBut _ _ c1 (B _ _ c3 (q.extBut _ _ c1 x))) ⟨oe,G.extBut _ _ a5 J,Z⟩
 | some x=>
  have hy:ys[k2]?=zl:=by rcases b0 with h | h; rw [hx] at h; cases h; exact h
  refine aD (Xx (h1.at λo e=>q.extBut _ _ D.i1z e) (a9.at λo e=>q.extBut _ _ D.l1z e) hx λU b4 B=>aJ ?_)
  have O:ae U TO a b:=B.extBut _ _ D.TOi1 (q.extBut _ _ D.TOz b5);refine aD (bE O rfl ?_);refine aD (wpAny_updateSeq_pair O λa4 b1 G=>?_);refine aD (wpAny_letGo (aJ ?_));refine aD (aD (wpAny_onRaise ?_));show aF _ _ (Builtin.SmallTypes.nextOf (.ref i2) >>= _) _ _ _;refine aD (Ky hh (h2.at λo e=>G.extBut _ _ D.TOi2.symm (B.extBut _ _ D.i12.symm (q.extBut _ _ D.i2z e)))
   (b3.at λo e=>G.extBut _ _ D.l2TO (B.extBut _ _ D.l2i1 (q.extBut _ _ D.l2z e))) hy λa6 e a3 he=>?_)
  obtain ⟨oe,J,Z⟩:=he;have a1:IsZip a6 z TI TO .ellipsis:=a3 _ _ D.i2z.symm (G.extBut _ _ D.TOz.symm (B.extBut _ _ D.i1z.symm I));have a5:e≠z:=λx=>by subst x; rw [a1] at J; cases J; simp at Z
  refine bC a1 (by simp) λa8 _ a2=>hE a8 e (λc o c1 c2 c3 c4 x=>a2.extBut _ _ c1 (a3 _ _ c4 (G.extBut _ _ c2 (B.extBut _ _ c3 (q.extBut _ _ c1 x))))) ⟨oe,a2.extBut _ _ a5 J,Z⟩
def Q3w {t1 t2:Bool} {TI TO:aB} {k1 k2:Nat} {xs ys:Array aA} {x y a b:aA} {Q:Option aA->aC->Prop} (D:ZipApart z TI TO i1 i2 l1 l2)
  (hz:IsZip s.heap z TI TO .none) (q:ae s.heap TI (.ref i1) (.ref i2)) (I:ae s.heap TO a b)
  (h1:IterAt t1 s.heap i1 l1 k1) (h2:IterAt t2 s.heap i2 l2 k2) (G:HasItems t1 s.heap l1 xs) (B:HasItems t2 s.heap l2 ys) (hx:xs[k1]?=zo x) (O:ys[k2]?=zo y)
  (hQ:∀ h',IsZip h' z TI TO (aS s.heap.objs.size)->ae h' TO x y->IterAt t1 h' i1 l1 (k1 + 1)->IterAt t2 h' i2 l2 (k2 + 1)->ae h' s.heap.objs.size x y->h'.objs.size=s.heap.objs.size + 1 ->
   (∀ c o,c≠z->c≠TO->c≠i1->c≠i2->s.heap.get? c=zo o->h'.get? c=zo o)->Q (zo (.ref s.heap.objs.size)) { s with heap:=h' }) :
  aF (aI prog w) A (ao (.ref z)) Q E s:=by
 have J:s.TypeIs (.ref z) "zip" := ⟨_,hz,rfl⟩;unfold ao;exact aD (wpAny_attempt (wpAny_callSpecial?_slot (name:=cM "__next__") J F.slot_zip_next
  (au F.slot_zip_next J F.entry_zip_next
   (Qcu D hz q I h1 h2 G B hx O λh' U Z a3 a4 a5 a6 Y=>aJ (hQ h' U Z a3 a4 a5 a6 Y)) (F.args_zip_next_1 _))))
def Q53 {t1 t2:Bool} {TI TO:aB} {k1 k2:Nat} {xs ys:Array aA} {a b:aA} {Q:Option aA->aC->Prop} (U:A.handled=zl) (D:ZipApart z TI TO i1 i2 l1 l2)
  (hz:IsZip s.heap z TI TO .none) (B:ae s.heap TI (.ref i1) (.ref i2)) (J:ae s.heap TO a b)
  (h1:IterAt t1 s.heap i1 l1 k1) (h2:IterAt t2 s.heap i2 l2 k2) (I:HasItems t1 s.heap l1 xs) (G:HasItems t2 s.heap l2 ys) (q:xs[k1]?=zl\/ys[k2]?=zl)
  (hQ:∀ h',(∀ c o,c≠z->c≠TO->c≠i1->c≠i2->s.heap.get? c=zo o->h'.get? c=zo o)->Q zl { s with heap:=h' }):aF (aI prog w) A (ao (.ref z)) Q E s:=by
 have O:s.TypeIs (.ref z) "zip" := ⟨_,hz,rfl⟩;unfold ao;refine aD (wpAny_attempt (wpAny_callSpecial?_slot (name:=cM "__next__") O F.slot_zip_next
  (au F.slot_zip_next O F.entry_zip_next (Qfa U D hz B J h1 h2 I G q λh' e Y Z=>?_) (F.args_zip_next_1 _))))
 obtain ⟨o,ho,hc⟩:=Z;refine aD (bT (T := "StopIteration") (b:=zi) ⟨o,ho,hc⟩ isSubtype_stop ?_);exact aJ (hQ _ Y)
end
def zH1 (t1:Bool) (h:Heap) (l1:aB):Heap:=h.push (Vk t1 l1)
def zH2 (t1 t2:Bool) (h:Heap) (l1 l2:aB):Heap:=(zH1 t1 h l1).push (Vk t2 l2)
def zH3 (t1 t2:Bool) (h:Heap) (l1 l2:aB):Heap:=(zH2 t1 t2 h l1 l2).push { cls:=.type "tuple",data:=.seq #[.ref h.objs.size,.ref (zH1 t1 h l1).objs.size] }
def zH4 (t1 t2:Bool) (h:Heap) (l1 l2:aB):Heap:=(zH3 t1 t2 h l1 l2).push { cls:=.type "tuple",data:=.seq #[.none,.none] }
def zH5 (t1 t2:Bool) (h:Heap) (l1 l2:aB):Heap:=(zH4 t1 t2 h l1 l2).push { cls:=.type "zip",data:=.fields #[.none,.bool zb,.bool zb,.ref (zH2 t1 t2 h l1 l2).objs.size,.ref (zH3 t1 t2 h l1 l2).objs.size] }
def Q3y (t1 t2:Bool) (l1 l2:aB) (xs ys:Array aA) :
  Meets (Builtin.«zip.__new__» ⟨[.type "zip",.ref l1,.ref l2],[]⟩) (λ_ R s=>HasItems t1 s.heap l1 xs/\HasItems t2 s.heap l2 ys /\
   R (.ok (.ret (.ref (zH4 t1 t2 s.heap l1 l2).objs.size))) { s with heap:=zH5 t1 t2 s.heap l1 l2 }):=
 .of_wp λprog w A R s h=>by
  obtain ⟨J,g,d,O,os⟩:=s; obtain ⟨G,B,h⟩:=h;have U:=sub_zip;have q:HasItems t1 (Shared.heap ⟨J,g,d,O,os⟩) l1 xs:=G;have I:HasItems t2 (Shared.heap ⟨J.push (Vk t1 l1),g,d,O,os⟩) l2 ys:=B.at λo e=>O1 _ e
  wp_walk using V5 q,V5 I
  exact ⟨_,rfl,h⟩
section
variable {w:aK}
def Qeu {xs ys:Array aA} {Q:zAF} (I:HasItems t1 s.heap l1 xs) (B:HasItems t2 s.heap l2 ys)
  (h:∀ h',IsZip h' (s.heap.objs.size + 4) (s.heap.objs.size + 2) (s.heap.objs.size + 3) .none->ae h' (s.heap.objs.size + 2) (.ref s.heap.objs.size) (.ref (s.heap.objs.size + 1)) ->
   ae h' (s.heap.objs.size + 3) .none .none->IterAt t1 h' s.heap.objs.size l1 0->IterAt t2 h' (s.heap.objs.size + 1) l2 0->h'.objs.size=s.heap.objs.size + 5 ->
   (∀ c o,s.heap.get? c=zo o->h'.get? c=zo o)->Q (.ref (s.heap.objs.size + 4)) { s with heap:=h' }) :
  aF (aI prog w) A (call (.type "zip") [.ref l1,.ref l2]) Q E s:=by
 refine callType_new F.called_zip (by decide) (F.typeCall_zip_2 _ _) (F.newCall_zip_2 _ _) (λobj=>F.args_object_init_3 obj _ _) F.entry_zip_new
  (Q3y t1 t2 l1 l2 xs ys) ⟨I,B,?_⟩
 have U:(zH1 t1 s.heap l1).objs.size=s.heap.objs.size + 1:=F1 ..;have G:(zH2 t1 t2 s.heap l1 l2).objs.size=s.heap.objs.size + 2:=by unfold zH2; rw [F1,U]
 have J:(zH3 t1 t2 s.heap l1 l2).objs.size=s.heap.objs.size + 3:=by unfold zH3; rw [F1,G]
 have O:(zH4 t1 t2 s.heap l1 l2).objs.size=s.heap.objs.size + 4:=by unfold zH4; rw [F1,J]
 have z5:(zH5 t1 t2 s.heap l1 l2).objs.size=s.heap.objs.size + 5:=by unfold zH5; rw [F1,O]
 have q:(zH5 t1 t2 s.heap l1 l2).get? (zH4 t1 t2 s.heap l1 l2).objs.size=zo { cls:=.type "zip",data:=.fields #[.none,.bool zb,.bool zb,.ref (zH2 t1 t2 s.heap l1 l2).objs.size,.ref (zH3 t1 t2 s.heap l1 l2).objs.size] }:=D2 _ rfl;have Y:(zH5 t1 t2 s.heap l1 l2).get? (zH3 t1 t2 s.heap l1 l2).objs.size=zo { cls:=.type "tuple",data:=.seq #[.none,.none] }:=O1 _ (D2 _ rfl);have Z:(zH5 t1 t2 s.heap l1 l2).get? (zH2 t1 t2 s.heap l1 l2).objs.size=zo { cls:=.type "tuple",data:=.seq #[.ref s.heap.objs.size,.ref (zH1 t1 s.heap l1).objs.size] }:=O1 _ (O1 _ (D2 _ rfl));have g2:(zH5 t1 t2 s.heap l1 l2).get? (zH1 t1 s.heap l1).objs.size=zo (Vk t2 l2):=O1 _ (O1 _ (O1 _ (D2 _ (qf _ _))));have g1:(zH5 t1 t2 s.heap l1 l2).get? s.heap.objs.size=zo (Vk t1 l1):=O1 _ (O1 _ (O1 _ (O1 _ (D2 _ (qf _ _)))));show _/\_;rw [G,J,O] at q;rw [U,G] at Z;rw [J] at Y;rw [U] at g2;rw [O];exact ⟨⟨_,q,rfl⟩,h _ q Z Y (ym g1) (ym g2) z5 λc o x=>
  O1 _ (O1 _ (O1 _ (O1 _ (O1 _ x))))⟩
end
def SqK (K:be) (t:Bool) (H:Hp) (a:aB) (xs:List V):Prop:=if t=zi then SqT K H a xs else SqL K H a xs
variable {pins:zAC} {σ:St} {H:Hp}
def Inv.seqK {t:Bool} (I:Inv X pins σ H s) (h:SqK X.K t H a xs):∃ its:List aA,Vals xs its/\HasItems t s.heap a its.toArray/\xs.length<=sizeLine:=by
 cases t
 ·obtain ⟨its,r,p,z⟩:=I.list h;exact ⟨its,r,p.isList,z⟩
 ·obtain ⟨its,r,p,z⟩:=I.tuple h;exact ⟨its,r,p,z⟩
def Inv.seqK_inj {t:Bool} {ys:List V} (I:Inv X pins σ H s) (h:SqK X.K t H a xs) (h':SqK X.K t H a ys):xs=ys:=by
 cases t
 ·exact I.list_inj h h'
 ·exact I.tuple_inj h h'
def Inv.turnedL {t':Nat} {its:List aB} (I:Inv X pins σ H s) (k:∀ b o,b∉its->s.heap.get? b=zo o->h'.get? b=zo o) (J:∀ b∈its,Q4s X pins H b):Inv X pins σ H { s with heap:=h',toks:=t' }:=by
 have G:∀ b u,H b=zo u->b∉its:=λb u e z=>by rw [(J b z).1] at e; cases e
 refine I.step (g':=s.gens) (d':=s.drawn) (ch:=its) (λb hb=>?_) (λb o _ _ B e _=>k b o B e) (λb o _ _ B e _=>⟨o.slots,k b o B e⟩) (λ_ _ _ _ n=>n)
  (λb o B e=>⟨o,k b o B e⟩) (λ_ _ e=>e) (λ_ _ _ e=>e) (λb ps e=>⟨#[],by rw [e]; simp⟩) (λm O=>?_) (λb u e=>?_) I.bare
 ·obtain ⟨f0,f1,f2,f3,Z,U⟩:=J b hb;exact ⟨f3,f1,Z,U⟩
 ·obtain ⟨o,es,ep,Y,r⟩:=O;exact ⟨o,es,ep,k _ o (λz=>(J _ z).2.1 rfl) Y,r⟩
 ·refine (I.hok b u e).stay (λc v B q=>k c v ?_ q) (λ_ q=>q) λ_ _ q=>q
  rcases B with z | z
  ·rw [z]; exact G b u e
  ·exact G c _ z
def Itz (K:be) (t1 t2:Bool) (a b:aB):It:=
 ⟨λi H=>∃ xs ys x y,SqK K t1 H a xs/\SqK K t2 H b ys/\xs[i]?=zo x/\ys[i]?=zo y,
  λi H v H'=>∃ p x y,H p=zl/\v=.ref p/\H'=upd H p (.tup [x,y])/\∀ xs ys,SqK K t1 H a xs->SqK K t2 H b ys->xs[i]?=zo x/\ys[i]?=zo y,
  λi H=>∃ xs ys,SqK K t1 H a xs/\SqK K t2 H b ys/\(xs.length<=i\/ys.length<=i)⟩
def Qtt (t1 t2:Bool) (z TI TO i1 i2 a b:aB) (i:Nat) (h:Heap):Prop:=
 IsZip h z TI TO .none/\ae h TI (.ref i1) (.ref i2)/\(∃ u v,ae h TO u v)/\IterAt t1 h i1 a i/\IterAt t2 h i2 b i
def Q5m {a:aA}:∀ v,({ cls:=.type "tuple",data:=.seq #[a,b] }:Obj).data≠.cell v:=λv z=>by cases z
def Qfd {P:aL} {w:aK} {K:be} {elts:List aH} {k:Nat} {pos:Pos} {t1 t2:Bool} {TI TO b:aB} (D:ZipApart z TI TO i1 i2 a b) :
  Turn P w K (.Tuple elts k pos) (Itz K t1 t2 a b) [z,TI,TO,i1,i2] z (Qtt t1 t2 z TI TO i1 i2 a b) where
 mem:=by simp
 obj:=λi h st c B=>by
  obtain ⟨hz,G,⟨u,v,J⟩,h1,h2⟩:=st;simp at B;rcases B with rfl | rfl | rfl | rfl | rfl
  ·exact ⟨_,hz,λv q=>by cases q⟩
  ·exact ⟨_,G,Q5m⟩
  ·exact ⟨_,J,Q5m⟩
  ·exact h1.there
  ·exact h2.there
 keep:=λi h h' st kk=>by
  obtain ⟨hz,G,⟨u,v,J⟩,h1,h2⟩:=st;exact ⟨kk z (by simp) _ hz,kk TI (by simp) _ G,⟨u,v,kk TO (by simp) _ J⟩,h1.at λo e=>kk i1 (by simp) o e,h2.at λo e=>kk i2 (by simp) o e⟩
 item:=by
  intro X hP hw hK B i pins s σ H E I hf st hg;subst hP hw hK;obtain ⟨xs,ys,x,y,Z,U,hx,hy⟩:=hg;obtain ⟨hz,G,⟨u,v,J⟩,h1,h2⟩:=st;obtain ⟨its,rv,p,_⟩:=I.seqK Z;obtain ⟨b3,b0,p2,_⟩:=I.seqK U;obtain ⟨ux,b8,b9⟩:=rv.get hx;obtain ⟨uy,c3,c2⟩:=b0.get hy;refine Q3w D hz G J h1 h2 p p2 (x:=ux) (y:=uy) (by simpa using b8) (by simpa using c3) λh' a1 a2 a3 a4 a5 a6 a7=>⟨_,rfl,?_⟩
  refine wpAny_letOwnedTupleGo_zip (s:={ s with heap:=h' }) a1 λa9 b1 b2=>?_
  have c0:H s.heap.objs.size=zl:=I.fresh;have c1:z < s.heap.objs.size:=O9 hz;have c4:TI < s.heap.objs.size:=O9 G;have c6:TO < s.heap.objs.size:=O9 J;have c7:i1 < s.heap.objs.size:=by obtain ⟨o,e,_⟩:=h1.there; exact O9 e
  have c5:i2 < s.heap.objs.size:=by obtain ⟨o,e,_⟩:=h2.there; exact O9 e
  have Y:Inv X pins σ H { s with heap:=a9 }:=I.turnedL (t':=s.toks) (its:=[z,TO,i1,i2]) (λc o B e=>(b2.2 c (λq=>B (by simp [q]))).trans (a7 c o (λq=>B (by simp [q])) (λq=>B (by simp [q])) (λq=>B (by simp [q])) (λq=>B (by simp [q])) e))
   λc B=>hf c (by simp at B ⊢; rcases B with rfl | rfl | rfl | rfl <;> simp)
  have a8:ae a9 s.heap.objs.size ux uy:=(b2.2 _ (L7 c1)).trans a5;have O:H s.heap.objs.size=zl:=c0;have I2:Inv X pins σ (upd H s.heap.objs.size (.tup [x,y])) { s with heap:=a9 }:=by
   refine ⟨Y.ok,Y.os,Y.bare,?_,Y.loc,Y.cell,?_,?_,?_,?_,Y.len⟩
   ·have u0:=Y.base;have old:∀ c o,X.s₀.heap.get? c=zo o->c≠s.heap.objs.size:=λc o e=>D9 (D7 (O9 e) I.sz)
    exact ⟨u0.keep,u0.slot,λc o e n hx=>by rw [Q6 (old c o e)]; exact u0.free c o e n hx,u0.there,
     λc ts e=>by have:=u0.tups c ts e; rw [Q6 (Qd this O)]; exact this,
     λc o ts e=>by have:=u0.frzs c o ts e; rw [Q6 (Qd this O)]; exact this,
     λc ps e=>by obtain ⟨more,q⟩:=u0.tbls c ps e; exact ⟨more,by rw [Q6 (Qd q O)]; exact q⟩⟩
   ·rw [Q6 (D9 I.lt)]; exact I.free
   ·intro x' c e;obtain ⟨v',q⟩:=I.cell x' c e;rw [Q6 (D9 q.lt)]; exact I.freeC x' c e
   ·intro p' b5;obtain ⟨e,n,ne,nf,d⟩:=Y.pin p' b5;have e0:=(I.pin p' b5).1;exact ⟨e,by rw [Q6 (D9 (O9 e0))]; exact n,ne,nf,d⟩
   ·intro c o q
    by_cases b4:c=s.heap.objs.size
    ·subst b4;rw [Qm] at q; cases q;exact ⟨by simp only [E7,cH]; rw [sizeLine_eq]; decide,[ux,uy],.cons b9 (.cons c2 .nil),⟨_,a8,rfl,0,rfl⟩⟩
    ·rw [Q6 b4] at q;exact (Y.hok c o q).stay (λ_ _ _ r=>r) (λc' r=>by rw [Q6 (Qd r O)]; exact r) λc' ts r=>by rw [Q6 (Qd r O)]; exact r
  refine ⟨.ref s.heap.objs.size,_,I2,rfl,⟨s.heap.objs.size,x,y,O,rfl,rfl,λc9 c8 q1 q2=>?_⟩,?_,λc B=>?_⟩
  ·rw [I.seqK_inj q1 Z,I.seqK_inj q2 U]; exact ⟨hx,hy⟩
  ·exact ⟨b1,b2.extBut _ _ D.TIz (a7 _ _ D.TIz D.TITO D.TIi1 D.TIi2 G),⟨_,_,b2.extBut _ _ D.TOz a2⟩,a3.at λo e=>b2.extBut _ _ D.i1z e,a4.at λo e=>b2.extBut _ _ D.i2z e⟩
  ·have:=(hf c B).1;have b7:c < s.heap.objs.size:=by simp at B; rcases B with rfl | rfl | rfl | rfl | rfl <;> assumption
   rw [Q6 (D9 b7)]; exact this
 done:=by
  intro X hP hw hK B i pins s σ H E I hf st hg;subst hP hw hK;obtain ⟨xs,ys,Z,U,b6⟩:=hg;obtain ⟨hz,G,⟨u,v,J⟩,h1,h2⟩:=st;obtain ⟨its,rv,p,_⟩:=I.seqK Z;obtain ⟨b3,b0,p2,_⟩:=I.seqK U;have l1:=rv.length;have l2:=b0.length;refine Q53 (I.ok.hd B) D hz G J h1 h2 p p2 (b6.elim (λh=>.inl (by simp; omega)) λh=>.inr (by simp; omega)) λh' kk=>⟨rfl,?_⟩
  exact I.turnedL (t':=s.toks) (its:=[z,TO,i1,i2]) (λc o B e=>kk c o (λq=>B (by simp [q])) (λq=>B (by simp [q])) (λq=>B (by simp [q])) (λq=>B (by simp [q])) e)
   λc B=>hf c (by simp at B ⊢; rcases B with rfl | rfl | rfl | rfl <;> simp)
 self:=λ_ _ _ _ _ st h=>wpAny_pyIter_zip st.1 h
def Qyh (K:be) (t1 t2:Bool) (ta:TA):TI:=λσ H R=>ta σ H λvs H1=>∃ a b xs ys,vs=[.ref a,.ref b]/\SqK K t1 H1 a xs/\SqK K t2 H1 b ys/\R (Itz K t1 t2 a b) H1
def Qiw:aZ "zip" = zo (.type "zip"):=by decide +kernel
def Qqr (t1 t2:Bool) {a b:aH} {p pos:Pos} {elts:List aH} {k:Nat} {tp:Pos} (hg:Gl X "zip") (hm:X.mg "zip" = zl) (ha:PA X [a,b] ta) (hs:aQ [a,b] X.env=[(zb,aO a X.env),(zb,aO b X.env)]:=by rfl) (B:aQ [b] X.env=[(zb,aO b X.env)]:=by rfl) :
  PI X (.Tuple elts k tp) (.Call (.Name "zip" p) [a,b] [] pos) (Qyh X.K t1 t2 ta):=by
 intro pins s σ H R I h;refine Call_ (yj I hg hm Qiw (dH (thn (ha pos pins s σ H _ I h) λus s1 ⟨vs,H1,J,r1,O⟩=>?_) (by rw [hs,B]) (by rw [B]; rfl)))
 obtain ⟨a',b',xs,ys,e,O,q2,q⟩:=O;subst e;cases r1 with
 | cons r U=>
  cases U with
  | cons r' U=>
   cases U;cases r;cases r';obtain ⟨its,rv,Z,_⟩:=J.seqK O;obtain ⟨Y,a3,p2,_⟩:=J.seqK q2;refine Qeu Z p2 λh' z1 z2 z3 z4 z5 z6 z7=>?_
   refine wpAny_pyIter_zip (s:={ s1 with heap:=h' }) z1 ?_;have a2:a' < s1.heap.objs.size:=by obtain ⟨o,e⟩:=Z.there; exact O9 e
   have a1:b' < s1.heap.objs.size:=by obtain ⟨o,e⟩:=p2.there; exact O9 e
   have D:ZipApart (s1.heap.objs.size + 4) (s1.heap.objs.size + 2) (s1.heap.objs.size + 3) s1.heap.objs.size (s1.heap.objs.size + 1) a' b':=by
    constructor <;> (intro z; unfold aB at*; omega)
   refine ⟨_,[s1.heap.objs.size + 4,s1.heap.objs.size + 2,s1.heap.objs.size + 3,s1.heap.objs.size,s1.heap.objs.size + 1],_,_,H1,rfl,J.kept (t':=s1.toks) z7,Qfd (t1:=t1) (t2:=t2) D,⟨z1,z2,⟨_,_,z3⟩,z4,z5⟩,λc hc=>?_,q⟩
   have G:s1.heap.objs.size<=c:=by simp at hc; unfold aB at*; omega
   exact J.fpOk G (J.hok.fresh G)
def Q2r {prog:aL} {w:aK} (J:A.handled=zl) (t:Bool) (I B:aB) (G:B≠I) (q:Array aA) :
  Walks prog w A I [I,B] [I] q.size (λi v=>q[i]?=zo v) (λi h=>IterAt t h I B i/\HasItems t h B q):=by
 cases t
 ·exact Walks.list J I B G q
 ·exact Walks.tuple J I B G q
def Q0b {α:Type} (l:List α) (d:α) {n:Nat} (h:n < l.length):l.getD n d=l[n]:=by simp [cw,h]
def Q88 (ns:List Int):preSum (λj=>ns.getD j 0) ns.length=ns.sum:=by
 have B:∀ (k:Nat),k<=ns.length->preSum (λj=>ns.getD j 0) k=(ns.take k).sum:=by
  intro k
  induction k with
  | zero=>intro _; rfl
  | succ k G=>
   intro I;show preSum _ k + ns.getD k 0=_;have q:k < ns.length:=by omega
   rw [G (),dn,dJ,Q0b _ _ q,O2 q];simp
 rw [B ns.length (O6 _),cx]
def Inv.movedNew {s':aC} (I:Inv X pins σ H s) {o:Obj} (m:Moved [s.heap.objs.size] (λa b=>b=a) { s with heap:=s.heap.push o } s'):Inv X pins σ H s':=by
 obtain ⟨m1,U,q,G,Y⟩:=m;obtain ⟨h',g',d',t',o'⟩:=s';have O:g'=s.gens:=U;have J:d'=s.drawn:=q;have B:o'=s.os:=G;subst O J B;refine I.kept (t':=t') λb u e=>m1 b u (λz=>?_) (O1 _ e)
 have:b=s.heap.objs.size:=by simpa using z
 exact absurd (O9 e) (by rw [this]; exact M8 _)
def jw {its:List aA} (r:Vals (ns.map V.int) its):∀ (i:Nat) (v:aA),its.toArray[i]?=zo v->∃ t,v=dD (ns.getD i 0) t:=λi v e=>by
 have q:its[i]?=zo v:=by simpa using e
 have hi:i < its.length:=(O0.mp q).1;have hl:=r.length;rw [O3] at hl;have I:(ns.map V.int)[i]?=zo (V.int (ns.getD i 0)):=by
  have:i < ns.length:=by omega
  simp [cw,this]
 obtain ⟨u,B,t,G⟩:=r.get I;rw [q] at B;cases B;exact ⟨t,G⟩
def Q6a {bs:List Bool} {its:List aA} (r:Vals (bs.map V.bl) its):∀ (i:Nat) (v:aA),its.toArray[i]?=zo v->v=ci (bs.getD i zb):=λi v e=>by
 have q:its[i]?=zo v:=by simpa using e
 have hi:i < its.length:=(O0.mp q).1;have hl:=r.length;rw [O3] at hl;have I:(bs.map V.bl)[i]?=zo (V.bl (bs.getD i zb)):=by
  have:i < bs.length:=by omega
  simp [cw,this]
 obtain ⟨u,B,G⟩:=r.get I;rw [q] at B;cases B;exact G
def Vj {t:Bool} {q:Array aA} (hl:HasItems t s.heap l q):l≠s.heap.objs.size /\
  (IterAt t (s.heap.push (Vk t l)) s.heap.objs.size l 0/\HasItems t (s.heap.push (Vk t l)) l q)/\∀ b∈[s.heap.objs.size,l],b < (s.heap.push (Vk t l)).objs.size:=by
 obtain ⟨o,e⟩:=hl.there;have B:=O9 e;refine ⟨D9 B,⟨ym (D2 _ (qf _ _)),hl.at λo e=>O1 _ e⟩,λb G=>?_⟩
 rw [F1];simp at G;rcases G with rfl | rfl
 ·exact cX _
 ·exact L6 B
def Qim (t:Bool) (O:X.calm=zi):V1 X (.builtin "sum") (λxs H Q=>∃ (a:aB) (ns:List Int),xs=[.ref a]/\SqK X.K t H a (ns.map V.int)/\Q (.int ns.sum) H):=by
 intro pins s σ H xs us Q I r h;obtain ⟨a,ns,rfl,U,q⟩:=h;obtain ⟨u,rfl,J⟩:=Xc r;cases J;obtain ⟨its,B,p,_⟩:=I.seqK U;obtain ⟨Z,Y,G⟩:=Vj p;have hl:=B.length;rw [O3] at hl;refine call_sum_walkAnyS (V5 p ⟨_,_,_,_,_,_,_,λj=>ns.getD j 0,rfl,(Q2r (A:=X.A.in1) (I.ok.hd O) t _ a Z its.toArray).toS,Y,G,jw B,λs' t' m=>?_⟩);refine ⟨.int ns.sum,H,I.movedNew m,⟨t',?_⟩,q⟩;rw [O8,<- hl,Q88]
def Qdd (bs:List Bool):(bc bs.length).all (λi=>bs.getD i zb)=bs.all id:=by
 induction bs with
 | nil=>rfl
 | cons b r q=>
  rw [E7,fE,cY,cC,cY,<- q];rfl
def Qdc (bs:List Bool):(bc bs.length).any (λi=>bs.getD i zb)=bs.any id:=by
 induction bs with
 | nil=>rfl
 | cons b r q=>
  rw [E7,fE,dL,cy,dL,<- q];rfl
def Qip (t:Bool) (O:X.calm=zi):V1 X (.builtin "all") (λxs H Q=>∃ (a:aB) (bs:List Bool),xs=[.ref a]/\SqK X.K t H a (bs.map V.bl)/\Q (.bl (bs.all id)) H):=by
 intro pins s σ H xs us Q I r h;obtain ⟨a,bs,rfl,U,q⟩:=h;obtain ⟨u,rfl,J⟩:=Xc r;cases J;obtain ⟨its,B,p,_⟩:=I.seqK U;obtain ⟨Z,Y,w3⟩:=Vj p;have hl:=B.length;rw [O3] at hl;refine call_all_walkS (V5 p ⟨_,_,_,_,_,_,_,λj=>bs.getD j zb,rfl,(Q2r (A:=X.A.in1) (I.ok.hd O) t _ a Z its.toArray).toS,Y,λi v s' Q' E' G hQ=>?_,λs' m=>?_⟩)
 ·rw [Q6a B i v G];exact bH hQ
 ·refine ⟨.bl (bs.all id),H,I.movedNew m,?_,q⟩;show ci _=_;rw [O8,<- hl,Qdd]
def Qin (t:Bool) (O:X.calm=zi):V1 X (.builtin "any") (λxs H Q=>∃ (a:aB) (bs:List Bool),xs=[.ref a]/\SqK X.K t H a (bs.map V.bl)/\Q (.bl (bs.any id)) H):=by
 intro pins s σ H xs us Q I r h;obtain ⟨a,bs,rfl,U,q⟩:=h;obtain ⟨u,rfl,J⟩:=Xc r;cases J;obtain ⟨its,B,p,_⟩:=I.seqK U;obtain ⟨Z,Y,w3⟩:=Vj p;have hl:=B.length;rw [O3] at hl;refine call_any_walkS (V5 p ⟨_,_,_,_,_,_,_,λj=>bs.getD j zb,rfl,(Q2r (A:=X.A.in1) (I.ok.hd O) t _ a Z its.toArray).toS,Y,λi v s' Q' E' G hQ=>?_,λs' m=>?_⟩)
 ·rw [Q6a B i v G];exact bH hQ
 ·refine ⟨.bl (bs.any id),H,I.movedNew m,?_,q⟩;show ci _=_;rw [O8,<- hl,Qdc]
def Qey (t:Bool) (hc:X.calm=zi):V1 X (.builtin "max") (λxs H Q=>∃ (a:aB) (ns:List Int),xs=[.ref a]/\SqK X.K t H a (ns.map V.int)/\ns≠[]/\∀ m,m∈ns->(∀ k,k∈ns->k<=m)->Q (.int m) H):=by
 intro pins s σ H xs us Q I r h;obtain ⟨a,ns,rfl,hq,G,q⟩:=h;obtain ⟨u,rfl,r1⟩:=Xc r;cases r1;obtain ⟨its,J,p,_⟩:=I.seqK hq;obtain ⟨w1,w2,Y⟩:=Vj p;have hl:=J.length;rw [O3] at hl;have O:0 < ns.length:=fF.mpr G;refine call_max_walkS (V5 p ⟨_,_,_,_,_,_,_,_,rfl,(Q2r (A:=X.A.in1) (I.ok.hd hc) t _ a w1 its.toArray).toS,w2,Y,by rw [O8]; omega,CmpOf.ints_gt (λj=>ns.getD j 0) (λi v B=>jw J i v B),λv s' B m=>?_⟩);obtain ⟨t',rfl⟩:=jw J _ _ B;obtain ⟨h1,h2⟩:=argBest_gt (λj=>ns.getD j 0) (its.toArray.size - 1);have U:argBest (λi j=>decide (ns.getD i 0 > ns.getD j 0)) (its.toArray.size - 1) < ns.length:=by
  have Z:its.toArray.size=ns.length:=by rw [O8]; omega
  rw [Z] at h1 ⊢;exact gM h1 ()
 refine ⟨.int (ns.getD (argBest (λi j=>decide (ns.getD i 0 > ns.getD j 0)) (its.toArray.size - 1)) 0),H,I.movedNew m,⟨t',rfl⟩,q _ ?_ λk hk=>?_⟩
 ·rw [Q0b _ _ U];exact cP U
 ·obtain ⟨j,hj,rfl⟩:=gN.mp hk;have:=h2 j (by rw [O8]; omega);rw [Q0b _ _ hj] at this;exact this
def Qew (t:Bool) (hc:X.calm=zi):V1 X (.builtin "min") (λxs H Q=>∃ (a:aB) (ns:List Int),xs=[.ref a]/\SqK X.K t H a (ns.map V.int)/\ns≠[]/\∀ m,m∈ns->(∀ k,k∈ns->m<=k)->Q (.int m) H):=by
 intro pins s σ H xs us Q I r h;obtain ⟨a,ns,rfl,hq,G,q⟩:=h;obtain ⟨u,rfl,r1⟩:=Xc r;cases r1;obtain ⟨its,J,p,_⟩:=I.seqK hq;obtain ⟨w1,w2,Y⟩:=Vj p;have hl:=J.length;rw [O3] at hl;have O:0 < ns.length:=fF.mpr G;refine call_min_walkS (V5 p ⟨_,_,_,_,_,_,_,_,rfl,(Q2r (A:=X.A.in1) (I.ok.hd hc) t _ a w1 its.toArray).toS,w2,Y,by rw [O8]; omega,CmpOf.ints_lt (λj=>ns.getD j 0) (λi v B=>jw J i v B),λv s' B m=>?_⟩);obtain ⟨t',rfl⟩:=jw J _ _ B;obtain ⟨h1,h2⟩:=argBest_lt (λj=>ns.getD j 0) (its.toArray.size - 1);have U:argBest (λi j=>decide (ns.getD i 0 < ns.getD j 0)) (its.toArray.size - 1) < ns.length:=by
  have Z:its.toArray.size=ns.length:=by rw [O8]; omega
  rw [Z] at h1 ⊢;exact gM h1 ()
 refine ⟨.int (ns.getD (argBest (λi j=>decide (ns.getD i 0 < ns.getD j 0)) (its.toArray.size - 1)) 0),H,I.movedNew m,⟨t',rfl⟩,q _ ?_ λk hk=>?_⟩
 ·rw [Q0b _ _ U];exact cP U
 ·obtain ⟨j,hj,rfl⟩:=gN.mp hk;have:=h2 j (by rw [O8]; omega);rw [Q0b _ _ hj] at this;exact this
def Qsi {prog:aL} {w:aK} (O:A.handled=zl) (t:Bool) (it l:aB) (I:l≠it) (q:Array aA) :
  Draws prog w A it [it,l] q.size (λi v=>q[i]?=zo v) (λi h=>IterAt t h it l i/\HasItems t h l q) where
 live:=λ_ _ st=>let ⟨o,e,_⟩:=st.1.there; ⟨o,e⟩
 frame:=λ_ _ _ st J=>⟨st.1.at λo e=>J it (by simp) o e,st.2.at λo e=>J l (by simp) o e⟩
 item:=λi s Q E hi st Y=>by
  refine Xx st.1 st.2 (x:=q[i]) (by simp [hi]) λh' G B=>?_
  exact Y _ h' s.toks (by simp [hi]) ⟨G,st.2.at λo e=>B.extBut _ _ I e⟩ B
 done:=λs Q E st U=>Ky O st.1 st.2 (by simp) U
def Q8p (l:aB) (q:Array aA) (n:Nat) (B:Option aB) (sl:Array (Option aA)) :
  Meets (Builtin.«enumerate.__new__» ⟨[.type "enumerate",.ref l],[]⟩) (λ_ R s=>s.heap.get? l=zo { cls:=.type "tuple",dict:=B,data:=.seq q n,slots:=sl } /\
   R (.ok (.ret (.ref (s.heap.push { cls:=.type "tuple_iterator",data:=.fields #[.ref l,.int 0 0] }).objs.size)))
    { s with heap:=(s.heap.push { cls:=.type "tuple_iterator",data:=.fields #[.ref l,.int 0 0] }).push { cls:=.type "enumerate",data:=.fields #[.none,.bool zb,.ref s.heap.objs.size,aS 0,.none,.none] } }):=
 .of_wp λprog w A R s h=>by
  obtain ⟨J,g,d,O,os⟩:=s; obtain ⟨hl,h⟩:=h;have I:=sub_enumerate;have G:Heap.IsTuple (Shared.heap ⟨J,g,d,O,os⟩) l q:=⟨_,hl,rfl,n,rfl⟩
  wp_walk using AutoSeq1.wpAny_loadPart' hl
  refine wpAny_stack_any λst=>aJ ?_
  split
  ·rename_i c _ _ _ _ _;cases (c == bw "enumerate")
   ·wp_walk using AutoSeq1.wpAny_loadPart' hl,bR G
    exact ⟨_,rfl,h⟩
   ·wp_walk using AutoSeq1.wpAny_loadPart' hl,bR G
    exact ⟨_,rfl,h⟩
  ·wp_walk using AutoSeq1.wpAny_loadPart' hl,bR G
   exact ⟨_,rfl,h⟩
section
variable {w:aK}
def Qb6 {q:Array aA} {Q:zAF} (J:s.heap.IsTuple l q)
  (h:∀ h',IsEnum h' (s.heap.objs.size + 1) s.heap.objs.size 0 .none->h'.IsTupleIter s.heap.objs.size l 0->h'.objs.size=s.heap.objs.size + 2 ->
   (∀ b o,s.heap.get? b=zo o->h'.get? b=zo o)->Q (.ref (s.heap.objs.size + 1)) { s with heap:=h' }) :
  aF (aI prog w) A (call (.type "enumerate") [.ref l]) Q E s:=by
 obtain ⟨⟨c,B,I,sl⟩,hl,hc,n,hd⟩:=J;replace hc:c=.type "tuple" := hc;replace hd:I=.seq q n:=hd;subst hc hd;refine callType_new F.called_enumerate (by decide) (F.typeCall_enumerate_1 _) (F.newCall_enumerate_1 _) (λobj=>F.args_object_init_2 obj _) F.entry_enumerate_new
  (Q8p l q n B sl) ⟨hl,?_⟩
 have hz:(s.heap.push { cls:=.type "tuple_iterator",data:=.fields #[.ref l,.int 0 0] }).objs.size=s.heap.objs.size + 1:=F1 ..;show _/\_;rw [hz];have G:IsEnum ((s.heap.push { cls:=.type "tuple_iterator",data:=.fields #[.ref l,.int 0 0] }).push
   { cls:=.type "enumerate",data:=.fields #[.none,.bool zb,.ref s.heap.objs.size,aS 0,.none,.none] }) (s.heap.objs.size + 1) s.heap.objs.size 0 .none:=by
  have:=D2 (s.heap.push { cls:=.type "tuple_iterator",data:=.fields #[.ref l,.int 0 0] })
   (o:={ cls:=.type "enumerate",data:=.fields #[.none,.bool zb,.ref s.heap.objs.size,aS 0,.none,.none] }) rfl
  rw [hz] at this; exact this
 refine ⟨⟨_,G,rfl⟩,h _ G ⟨_,O1 _ (D2 _ rfl),rfl,rfl⟩ (by rw [F1,hz]) λb o x=>O1 _ (O1 _ x)⟩
def Qb7 {t:Bool} {q:Array aA} {Q:zAF} (B:HasItems t s.heap l q)
  (h:∀ h',IsEnum h' (s.heap.objs.size + 1) s.heap.objs.size 0 .none->IterAt t h' s.heap.objs.size l 0->h'.objs.size=s.heap.objs.size + 2 ->
   (∀ b o,s.heap.get? b=zo o->h'.get? b=zo o)->Q (.ref (s.heap.objs.size + 1)) { s with heap:=h' }) :
  aF (aI prog w) A (call (.type "enumerate") [.ref l]) Q E s:=by
 cases t
 ·exact call_enumerate_list B h
 ·exact Qb6 B h
end
def Ite (K:be) (t:Bool) (a:aB):It:=
 ⟨λi H=>∃ xs x,SqK K t H a xs/\xs[i]?=zo x,
  λi H v H'=>∃ p x,H p=zl/\v=.ref p/\H'=upd H p (.tup [.int i,x])/\∀ xs,SqK K t H a xs->xs[i]?=zo x,
  λi H=>∃ xs,SqK K t H a xs/\xs.length<=i⟩
def Inv.tracks {s1:aC} {p:aB} {its:List aA} (I:Inv X pins σ H s) (B:Inv X pins σ H s1) (Y:s.heap.objs.size<=p) (U:H p=zl) (rv:Vals xs its) (hz:xs.length<=sizeLine)
  (ht:IsTup s1.heap p its.toArray):Inv X pins σ (upd H p (.tup xs)) s1:=by
 refine ⟨B.ok,B.os,B.bare,?_,B.loc,B.cell,?_,?_,?_,?_,B.len⟩
 ·have G:=B.base;have old:∀ c o,X.s₀.heap.get? c=zo o->c≠p:=λc o e=>D9 (D7 (O9 e) (F3 I.sz Y))
  exact ⟨G.keep,G.slot,λc o e n hx=>by rw [Q6 (old c o e)]; exact G.free c o e n hx,G.there,
   λc ts e=>by have:=G.tups c ts e; rw [Q6 (Qd this U)]; exact this,
   λc o ts e=>by have:=G.frzs c o ts e; rw [Q6 (Qd this U)]; exact this,
   λc ps e=>by obtain ⟨more,q⟩:=G.tbls c ps e; exact ⟨more,by rw [Q6 (Qd q U)]; exact q⟩⟩
 ·rw [Q6 (D9 (D7 I.lt Y))]; exact I.free
 ·intro x' c e;obtain ⟨v',q⟩:=I.cell x' c e;rw [Q6 (D9 (D7 q.lt Y))]; exact I.freeC x' c e
 ·intro Z O;obtain ⟨e,n,ne,nf,d⟩:=B.pin Z O;have e0:=(I.pin Z O).1;exact ⟨e,by rw [Q6 (D9 (D7 (O9 e0) Y))]; exact n,ne,nf,d⟩
 ·intro c o q
  by_cases J:c=p
  ·subst J;rw [Qm] at q; cases q;exact ⟨hz,its,rv,ht⟩
  ·rw [Q6 J] at q;exact (B.hok c o q).stay (λ_ _ _ r=>r) (λc' r=>by rw [Q6 (Qd r U)]; exact r) λc' ts r=>by rw [Q6 (Qd r U)]; exact r
def Qsg (t:Bool) (e it a:aB) (i:Nat) (h:Heap):Prop:=(∃ old,IsEnum h e it i old)/\IterAt t h it a i
def Qcy {P:aL} {w:aK} {K:be} {elts:List aH} {k:Nat} {pos:Pos} {t:Bool} {e:aB} (a1:e≠it) (a8:a≠e) (b1:a≠it) :
  Turn P w K (.Tuple elts k pos) (Ite K t a) [e,it] e (Qsg t e it a) where
 mem:=by simp
 obj:=λi h st c hc=>by
  obtain ⟨⟨old,G⟩,h1⟩:=st;simp at hc;rcases hc with rfl | rfl
  ·exact ⟨_,G,λv q=>by cases q⟩
  ·exact h1.there
 keep:=λi h h' st kk=>by
  obtain ⟨⟨old,G⟩,h1⟩:=st;exact ⟨⟨old,kk e (by simp) _ G⟩,h1.at λo q=>kk it (by simp) o q⟩
 item:=by
  intro X hP hw hK hc i pins s σ H E I hf st hg;subst hP hw hK;obtain ⟨xs,x,U,hx⟩:=hg;obtain ⟨⟨old,G⟩,h1⟩:=st;obtain ⟨its,rv,p,_⟩:=I.seqK U;obtain ⟨ux,a3,a7⟩:=rv.get hx;have a9:i < its.toArray.size:=by rw [O8]; exact (O0.mp a3).1
  refine wpAny_pyNext_enum_itemD (Qsi (A:=X.A.in1) (I.ok.hd hc) t it a b1 its.toArray) G ⟨h1,p⟩ a9 a1 (by simp; exact ⟨a1,λz=>a8 z.symm⟩) λx' h' tk Y ho b0 hT hsz hk=>⟨_,rfl,?_⟩
  have:x'=ux:=by
   have e1:its[i]?=zo x':=by simpa using Y
   rw [a3] at e1; exact (bm e1).symm
  subst this;refine wpAny_letOwnedTupleGo_enum (s:={ s with heap:=h',toks:=tk + 1 }) ho λa5 Z J=>?_
  have elt:e < s.heap.objs.size:=O9 G;have b3:it < s.heap.objs.size:=by obtain ⟨o,q,_⟩:=h1.there; exact O9 q
  have a4:H s.heap.objs.size=zl:=I.fresh;have I1:Inv X pins σ H { s with heap:=a5,toks:=tk + 1 }:=I.turnedL (its:=[e,it]) (λc o B q=>(J.2 c (λz=>B (by simp [z]))).trans (hk c o (λz=>B (by simp [z])) (λz=>B (by simp [z])) q)) λc B=>hf c B
  have a2:a5.get? s.heap.objs.size=zo { cls:=.type "tuple",data:=.seq #[.int i tk,x'] }:=(J.2 _ (L7 elt)).trans hT;have I2:=I.tracks (xs:=[.int i,x]) (its:=[.int i tk,x']) I1 (O6 _) a4 (.cons ⟨tk,rfl⟩ (.cons a7 .nil)) (by simp only [E7,cH]; rw [sizeLine_eq]; decide) ⟨_,a2,rfl,0,rfl⟩;refine ⟨.ref s.heap.objs.size,_,I2,rfl,⟨s.heap.objs.size,x,a4,rfl,rfl,λb4 q1=>?_⟩,?_,λc B=>?_⟩
  ·rw [I.seqK_inj q1 U]; exact hx
  ·exact ⟨⟨x',by simpa using Z⟩,b0.1.at λo q=>J.extBut _ _ (Ne.symm a1) q⟩
  ·have:=(hf c B).1;have a6:c < s.heap.objs.size:=by simp at B; rcases B with rfl | rfl <;> assumption
   rw [Q6 (D9 a6)]; exact this
 done:=by
  intro X hP hw hK hc i pins s σ H E I hf st hg;subst hP hw hK;obtain ⟨xs,U,b2⟩:=hg;obtain ⟨⟨old,G⟩,h1⟩:=st;obtain ⟨its,rv,p,_⟩:=I.seqK U;have hl:=rv.length;have hT:s.TypeIs (.ref e) "enumerate" := ⟨_,G,rfl⟩;unfold ao;refine aD (wpAny_attempt (wpAny_callSpecial?_slot (name:=cM "__next__") hT F.slot_enumerate_next
   (au F.slot_enumerate_next hT F.entry_enumerate_next ?_ (F.args_enumerate_next_1 _))))
  show aF _ _ (field (.ref e) 2 >>= _) _ _ _;refine aD (ah G rfl (x:=.ref it) rfl ?_);refine aD (Ky (I.ok.hd hc) h1 p (by simp; omega) λh' x Z Y=>?_)
  obtain ⟨o,ho,B⟩:=Y;refine aD (bT (T := "StopIteration") (b:=zi) ⟨o,ho,B⟩ isSubtype_stop ?_);exact aJ ⟨rfl,I.turnedL (t':=s.toks) (its:=[it]) (λc o O q=>Z c o (λz=>O (by simp [z])) q) λc O=>hf c (by simp at O; simp [O])⟩
 self:=λ_ _ _ _ _ st h=>by
  obtain ⟨⟨old,G⟩,_⟩:=st;exact wpAny_pyIter_enum G h
def Qw5 (K:be) (t:Bool) (ta:TA):TI:=λσ H R=>ta σ H λvs H1=>∃ a xs,vs=[.ref a]/\SqK K t H1 a xs/\R (Ite K t a) H1
def Q4m:aZ "enumerate" = zo (.type "enumerate"):=by decide +kernel
def Qm4 (t:Bool) {a:aH} {p pos:Pos} {elts:List aH} {k:Nat} {tp:Pos} (hg:Gl X "enumerate") (hm:X.mg "enumerate" = zl) (Z:PA X [a] ta) (hs:aQ [a] X.env=[(zb,aO a X.env)]:=by rfl) :
  PI X (.Tuple elts k tp) (.Call (.Name "enumerate" p) [a] [] pos) (Qw5 X.K t ta):=by
 intro pins s σ H R I h;refine Call_ (yj I hg hm Q4m (dH (thn (Z pos pins s σ H _ I h) λus s1 ⟨vs,H1,J,r1,O⟩=>?_) hs rfl))
 obtain ⟨a',xs,e,O,q⟩:=O;subst e;obtain ⟨u,rfl,r⟩:=Xc r1;cases r;obtain ⟨its,rv,U,_⟩:=J.seqK O;refine Qb7 U λh' Y z2 z3 z4=>?_
 refine wpAny_pyIter_enum (s:={ s1 with heap:=h' }) Y ?_;have B:a' < s1.heap.objs.size:=by obtain ⟨o,e⟩:=U.there; exact O9 e
 refine ⟨_,[s1.heap.objs.size + 1,s1.heap.objs.size],_,_,H1,rfl,J.kept (t':=s1.toks) z4,Qcy (t:=t) (L7 (cX _)) (D9 (L6 B)) (D9 B),⟨⟨_,Y⟩,z2⟩,λc hc=>?_,q⟩
 have G:s1.heap.objs.size<=c:=by simp at hc; unfold aB at*; omega
 exact J.fpOk G (J.hok.fresh G)
def Q3b {o:HO} (h:H a=zl):Same H (upd H a o):=λb u e=>by rw [Q6 (Qd e h)]; exact e
variable {te:TE} {H1:Hp} {Q:VK}
section
variable {cap:zAE}
abbrev g2 (K:be):TG:=Qw8 K 2 (Qi1 (Q96 0) (Qi1 (Q96 1) Qw9))
end
def Qwn:V->Option aA
 | .ty n=>zo (.type n)
 | .ref a=>zo (.ref a)
 | _=>zl
def Qij {c:V} {q u:aA} (e:Qwn c=zo q) (r:RelV c u):u=q:=by
 cases c with
 | ty n=>cases e; exact r
 | ref a=>cases e; exact r
 | _=>cases e
def Q9m:V1 X (.builtin "isinstance") (λxs H Q=>∃ x c B t b,xs=[x,c]/\Qwn c=zo B/\TyOf X.K H x t/\eT X.K t B=zo b/\Q (.bl b) H):=by
 intro pins s σ H xs us Q I r h;obtain ⟨x,c,B,t,b,rfl,U,ty,e,q⟩:=h;obtain ⟨u,Y,rfl,O,G⟩:=Qfb r;rw [Qij U G];exact Qea I O ty e λJ=>⟨.bl b,H,I.tok J,rfl,q⟩
def Q26:aZ "isinstance" = zo (.builtin "isinstance"):=by decide +kernel
def Qix:aZ "sum" = zo (.builtin "sum"):=by decide +kernel
def Qj3:aZ "all" = zo (.builtin "all"):=by decide +kernel
def Qj2:aZ "any" = zo (.builtin "any"):=by decide +kernel
def Qj0:aZ "max" = zo (.builtin "max"):=by decide +kernel
def Qiz:aZ "min" = zo (.builtin "min"):=by decide +kernel
def Qb9:aZ "tuple" = zo (.type "tuple"):=by decide +kernel
def Q69:aZ "list" = zo (.type "list"):=by decide +kernel
def Qj1:aZ "int" = zo (.type "int"):=by decide +kernel
def Qf3:aZ "bool" = zo (.type "bool"):=by decide +kernel
end L2
namespace L2
open PySem PySem.Spec PyProof.Rows PySem.W PySem.Builtin.Getset_descriptor
end L2
namespace L2
open PySem PySem.Spec PyProof.Rows
variable {cl:List (Str × aB)}
structure Fly (P:aL) (w:aK) (outer:List Env) (H H':Hp) (s s':aC) (a:aB) (cls a0:aA) (B:Heap):Prop where
 os:s'.os=s.os
 bare:AllBare s'.gens
 fl:Heap.FlyingW B outer a cls a0 s'.heap
 hokB:HOk P w H' B
 keep:∀ b o,s.heap.get? b=zo o->H b=zl->b∉frs outer->B.get? b=zo o
 there:∀ b o,s.heap.get? b=zo o->b∉frs outer->∃ o',B.get? b=zo o'
 slot:∀ b o,s.heap.get? b=zo o->b∈frs outer->∃ sl,s'.heap.get? b=zo { o with slots:=sl }
 free:∀ b o,s.heap.get? b=zo o->H b=zl->H' b=zl
 tups:∀ b xs,H b=zo (.tup xs)->H' b=zo (.tup xs)
 frzs:∀ b o u,H b=zo (.frz o u)->H' b=zo (.frz o u)
 tbls:∀ b ps,H b=zo (.tbl ps)->∃ more,H' b=zo (.tbl (ps ++ more))
def Q2w (l:aB) (q:Array aA) (n:Nat) (B:Option aB) (sl:Array (Option aA)) (t:Tok) :
  Meets (Builtin.«tuple.__mul__» ⟨[.ref l,.int 1 t],[]⟩) (λ_ R s=>s.heap.get? l=zo { cls:=.type "tuple",dict:=B,data:=.seq q n,slots:=sl }/\R (.ok (.ret (.ref l))) s):=
 .of_wp λprog w A R s h=>by
  obtain ⟨G,g,d,I,os⟩:=s; obtain ⟨hl,h⟩:=h
  wp_walk using wpAny_loadPart' hl
  exact ⟨_,rfl,h⟩
def Q2x (l:aB) (q:Array aA) (n:Nat) (U:Option aB) (sl:Array (Option aA)) (x:Int) (t:Tok) (h1:¬ (decide (x < -(2 ^ 63)) || decide (x>=2 ^ 63))=zi) (h2:¬ (q.isEmpty || x == 1)=zi) (h3:¬ (decide (x<=0) || q.isEmpty)=zi) (O:¬ (q.size:Int) * x > (2 ^ 63 - 1) / 8) (I:¬ Builtin.Tuple.tupleTooMany ((q.size:Int) * x)=zi)
  (J:((bg x.toNat q).foldl (λB G=>B ++ G) #[]).size<=sizeLine) :
  Meets (Builtin.«tuple.__mul__» ⟨[.ref l,.int x t],[]⟩) (λ_ R s=>s.heap.get? l=zo { cls:=.type "tuple",dict:=U,data:=.seq q n,slots:=sl } /\
   R (.ok (.ret (bj s.heap.objs.size))) { s with heap:=s.heap.push { cls:=bw "tuple",data:=Data.seq ((bg x.toNat q).foldl (λB G=>B ++ G) #[]) } }):=
 .of_wp λprog w A R s h=>by
  obtain ⟨Y,g,d,Z,os⟩:=s; obtain ⟨hl,h⟩:=h
  wp_walk using wpAny_loadPart' hl
  refine wpAny_ite_false (bZ h1) ?_
  wp_walk using wpAny_loadPart' hl
  refine wpAny_ite_false (bZ O) ?_
  wp_walk using wpAny_loadPart' hl
  all_goals first | exact ⟨_,rfl,h⟩ | (refine wpAny_ite_false (bZ I) ?_; wp_walk) | skip
  all_goals first | exact ⟨_,rfl,h⟩ | (refine wpAny_ite_false (bZ (gO.mpr J)) ?_; wp_walk; exact ⟨_,rfl,h⟩)
def Q4a (a:Int) (t:Tok) (l:aB) (q:Array aA) (n:Nat) (B:Option aB) (sl:Array (Option aA)) :
  Meets (Builtin.«int.__rmul__» ⟨[.int a t,.ref l],[]⟩) (λ_ R s=>s.heap.get? l=zo { cls:=.type "tuple",dict:=B,data:=.seq q n,slots:=sl }/\R (.ok (.ret gD)) s):=
 .of_wp λprog w A R s h=>by obtain ⟨G,g,d,I,os⟩:=s; obtain ⟨hl,h⟩:=h; wp_walk using wpAny_loadPart' hl; exact ⟨_,rfl,h⟩
def Q11:fillsNumberSlot (.type "tuple") "mul" = pure zb:=
 PySem.fillsNumberSlot_seq (id := "tuple.__mul__") (r:=zo (.builtin "tuple.__rmul__")) F.slot_tuple_mul.lookup (by decide +kernel) F.slot_tuple_rmul.lookup (by decide +kernel)
def Q6r:seqRepeat? (.type "tuple")=pure (zo (.builtin "tuple.__mul__")):=by
 unfold seqRepeat?;rw [gP (T := "tuple") (name := "__mul__") (id := "tuple.__mul__") F.slot_tuple_mul.lookup (by decide +kernel),gP (T := "tuple") (name := "__rmul__") (id := "tuple.__rmul__") F.slot_tuple_rmul.lookup (by decide +kernel)];rfl
variable {X:Cx}
def Quj (K:be):R2:=λx y H Q=>∃ a k xs,x=.ref a/\y=.int k/\SqT K H a xs/\xs≠[]/\1<=k/\xs.length * k.toNat<=4096 /\
 (k=1->Q (.ref a) H)/\(k≠1->∀ p,H p=zl->Q (.ref p) (upd H p (.tup (bg k.toNat xs).flatten)))
def Qmi:OpR X (aa .Mult) (Quj X.K):=by
 intro pins s σ H x y v u Q I rx ry h;obtain ⟨a,k,xs,rfl,rfl,ha,O,hk,hz,q1,q2⟩:=h;cases rx;obtain ⟨t,rfl⟩:=ry;obtain ⟨its,r,p1,hs⟩:=I.tuple ha;obtain ⟨⟨cls,J,data,sl⟩,ho,hc,n,hd⟩:=id p1;simp only at hc hd;subst hc hd;have hl:its.length=xs.length:=r.length.symm;have B:0 < its.length:=by rw [hl]; exact fF.mpr O
 have a1:k.toNat<=4096:=by
  have:1 * k.toNat<=xs.length * k.toNat:=Nat.mul_le_mul_right _ ();omega
 refine wpAny_binaryOp_repeat_ref (T := "tuple") (U := "int") (by decide) ⟨_,ho,rfl⟩ (λs'=>typeIs_int s' k t) Q11 F.fills_int_mul F.slot_int_rmul Q6r F.slot_int_index.lookup
  (bG F.slot_int_rmul (typeIs_int s k t) F.entry_int_rmul (F.args_int_rmul_2 _ _) (Q4a k t a its.toArray n J sl)
   ⟨ho,rfl,⟨_,ho,rfl⟩,?_⟩)
 by_cases h1:k=1
 ·subst h1;exact bG F.slot_tuple_mul ⟨_,ho,rfl⟩ F.entry_tuple_mul (F.args_tuple_mul_2 _ _) (Q2w a its.toArray n J sl t) ⟨ho,⟨.ref a,H,I,rfl,q1 rfl⟩⟩
 ·have Z:dk (λx1 x2=>x1 ++ x2) #[] (bg k.toNat its.toArray)=(bg k.toNat its).flatten.toArray:=by
   have:=Q17 its k.toNat [];rw [dI] at this;exact this
  have G:(its.toArray.size:Int) * k=((its.length * k.toNat:Nat):Int):=by
   rw [O8,Int.natCast_mul,Int.toNat_of_nonneg ()]
  have Y:(bg k.toNat its).flatten.length<=4096:=by rw [Q73,hl,eh]; exact hz
  have hb:its.length * k.toNat<=4096:=by rw [hl]; exact hz
  refine bG F.slot_tuple_mul ⟨_,ho,rfl⟩ F.entry_tuple_mul (F.args_tuple_mul_2 _ _) (Q2x a its.toArray n J sl k t ?_ ?_ ?_ ?_ ?_ ?_) ⟨ho,?_⟩
  ·rw [bZ (),bZ ()]; exact E1
  ·intro z;rcases gQ.mp z with z | z
   ·rw [gS,gT] at z; rw [z] at B; simp at B
   ·exact h1 (eq_of_beq z)
  ·intro z;rcases gQ.mp z with z | z
   ·have:=of_decide_eq_true z; omega
   ·rw [gS,gT] at z; rw [z] at B; simp at B
  ·rw [G]; omega
  ·rw [G];have:(4096:Int)<=sizeLine:=by decide
   show ¬ decide (((its.length * k.toNat:Nat):Int) > (sizeLine:Int))=zi;rw [bZ ()]; exact E1
  ·rw [Z,O8]; exact F3 Y (by decide)
  ·rw [Z];refine ⟨.ref s.heap.objs.size,_,I.laid (t':=s.toks) (o:=.tup (bg k.toNat xs).flatten) (λb ob q=>O1 _ q) (O6 _) ?_,rfl,q2 h1 _ (I.hok.fresh (O6 _))⟩;exact ⟨by rw [Q73,eh]; exact F3 hz (by decide),_,r.rep k.toNat,IsTup.new _ _⟩
variable {pins:zAC} {s:aC} {σ:St} {H:Hp}
open PySem.SeqAt
def Qh8:OpR X (aU .Is) (λx y H Q=>∃ b c,x=.bl b/\y=.bl c/\Q (.bl (b == c)) H):=by
 intro pins s σ H x y v u Q I B G h;obtain ⟨b,c,rfl,rfl,q⟩:=h;cases B;cases G;exact iL ⟨.bl _,H,I,rfl,q⟩
def Q8b:OpR X (aU .IsNot) (λx y H Q=>∃ b c,x=.bl b/\y=.bl c/\Q (.bl (b != c)) H):=by
 intro pins s σ H x y v u Q I B G h;obtain ⟨b,c,rfl,rfl,q⟩:=h;cases B;cases G;exact iM ⟨.bl _,H,I,rfl,q⟩
theorem Vn:∀ (names:List (Str × az)) (h:Heap) (q:List (Str × aB)) (x:Str) (c:aB),(aq h.objs.size names q).lookup x=zo c ->
  q.lookup x=zo c\/((x,NameKind.cell)∈names/\h.objs.size<=c/\(pushCells h names).IsCell c zl)
 | [],_,_,_,_,e=>.inl e
 | (name,kind) :: r,h,q,x,c,e=>by
  unfold aq at e;unfold pushCells
  by_cases O:(kind == NameKind.cell)=zi
  ·rw [bX O] at e ⊢;have G:kind=.cell:=by simpa using O
   have Y:=Vn r (h.push { cls:=.type "cell",data:=.cell zl }) ((name,h.objs.size) :: q) x c (by rw [F1]; exact e);rw [F1] at Y;rcases Y with z | ⟨B,U,J⟩
   ·rw [cK] at z;cases I:x == name with
    | true=>
     rw [I] at z; cases z;exact .inr ⟨by rw [beq_iff_eq.mp I,G]; exact E3,O6 _,⟨_,pushCells_keeps _ _ _ _ (D2 _ rfl),rfl⟩⟩
    | false=>rw [I] at z; exact .inl z
   ·exact .inr ⟨O7 _ B,by omega,J⟩
  ·rw [bY O] at e ⊢;rcases Vn r h q x c e with z | ⟨B,U,J⟩
   ·exact .inl z
   ·exact .inr ⟨O7 _ B,U,J⟩
theorem Ud {x:Str}:∀ (names:List (Str × az)) (n:Nat) (q:List (Str × aB)),(x,NameKind.cell)∉names->(aq n names q).lookup x=q.lookup x
 | [],_,_,_=>rfl
 | (name,kind) :: r,n,q,h=>by
  unfold aq;have G:(x,NameKind.cell)∉r:=λz=>h (O7 _ z)
  by_cases B:(kind == NameKind.cell)=zi
  ·rw [bX B,Ud r _ _ G,cK];cases I:x == name with
   | true=>exact absurd (by rw [beq_iff_eq.mp I,show kind=.cell by simpa using B]; exact E3) h
   | false=>rfl
  ·rw [bY B,Ud r _ _ G]
theorem K4 {x:Str} {c:aB}:∀ (names:List (Str × az)) (n:Nat) (B:List (Str × aB)),(x,NameKind.cell)∈names->(aq n names B).lookup x=zo c->n<=c
 | [],_,_,h,_=>by cases h
 | (name,kind) :: r,n,B,h,e=>by
  unfold aq at e
  by_cases G:(x,NameKind.cell)∈r
  ·by_cases I:(kind == NameKind.cell)=zi
   ·rw [bX I] at e;exact Nat.le_of_succ_le (K4 r _ _ G e)
   ·rw [bY I] at e;exact K4 r _ _ G e
  ·rcases D3.mp h with q | q
   ·cases q;rw [bX (by decide),Ud r _ _ G,cK] at e;simp at e;exact fA e
   ·exact absurd q G
theorem K5:∀ (names:List (Str × az)) (n:Nat) (q:List (Str × aB)),(∀ x c,q.lookup x=zo c->c < n)->(∀ x y c,q.lookup x=zo c->q.lookup y=zo c->x=y) ->
  ∀ x y c,(aq n names q).lookup x=zo c->(aq n names q).lookup y=zo c->x=y
 | [],_,_,_,h=>h
 | (name,kind) :: r,n,q,h1,h2=>by
  unfold aq
  by_cases J:(kind == NameKind.cell)=zi
  ·rw [bX J];refine K5 r (n + 1) _ (λx c e=>?_) (λx y c e G=>?_)
   ·rw [cK] at e;cases I:x == name with
    | true=>rw [I] at e; cases e; exact cX _
    | false=>rw [I] at e; exact L6 (h1 x c e)
   ·rw [cK] at e G;cases I:x == name with
    | true=>
     rw [I] at e; cases e;cases B:y == name with
     | true=>rw [beq_iff_eq.mp I,beq_iff_eq.mp B]
     | false=>rw [B] at G; exact absurd (h1 y _ G) (M8 _)
    | false=>
     rw [I] at e;cases B:y == name with
     | true=>rw [B] at G; cases G; exact absurd (h1 x _ e) (M8 _)
     | false=>rw [B] at G; exact h2 x y c e G
  ·rw [bY J];exact K5 r n q h1 h2
def Q4t {M:Model} {A:aP} {E:zAF} {s:aC} {scope:Scope} {B:aB} {cl:List (Str × aB)} {qual:Str} {G:Option aB} {code:aA} {env:Env} {q:aB} {Q:Env->aC->Prop}
  (O:Q (newEnv scope s.heap.objs.size B (aq (s.heap.objs.size + 1) scope.names cl) qual G code (zo env) q) { s with heap:=pushCells (s.heap.push { cls:=.type "dict",data:=.dict #[] }) scope.names }) :
  aF M A (newFunctionEnv scope B cl [] qual G code (zo env) q) Q E s:=by
 simp only [newFunctionEnv,gU,if_true];refine aD (wpAny_alloc ?_);refine aD (wpAny_layCells _ (λname kind I=>by cases J:kind == NameKind.cell <;> simp [J]) _ _ _ _ ?_);rw [show ({ s with heap:=s.heap.push { cls:=.type "dict",data:=.dict #[] } }:aC).heap.objs.size=s.heap.objs.size + 1 from F1 ..];refine aD ?_;rw [fD];exact aJ (aJ O)
def compOkC (N N':List Str) (sc scE:Scope) (cap:zAE):Bool:=
 sc.kind == .function && sc.names.all (λx=>x.2 != .cell || sc.names.lookup x.1 == zo .cell) && sc.names.all (λx=>x.2 != .local || sc.names.lookup x.1 == zo .local) &&
 sc.names.all (λx=>x.2 != .free || scE.names.lookup x.1 == zo .cell || scE.names.lookup x.1 == zo .free) && cap.length == N'.length &&
 (bc cap.length).all (λi=>match cap[i]? with
  | some (zo j)=>(match N'[i]?,N[j]? with | some a,zo b=>a == b && sc.names.lookup a == zo .free | _,_=>zb)
  | _=>zi)
structure CompOkC (N N':List Str) (sc scE:Scope) (cap:zAE):Prop where
 kind:sc.kind=.function
 cel:∀ x∈sc.names,x.2=.cell->sc.names.lookup x.1=zo .cell
 loc:∀ x∈sc.names,x.2=.local->sc.names.lookup x.1=zo .local
 fre:∀ x∈sc.names,x.2=.free->scE.names.lookup x.1=zo .cell\/scE.names.lookup x.1=zo .free
 len:cap.length=N'.length
 at_:∀ (i j:Nat),cap[i]?=zo (zo j)->∃ x,N'[i]?=zo x/\N[j]?=zo x/\sc.names.lookup x=zo .free
def compOkC.of {N N':List Str} {sc scE:Scope} {cap:zAE} (h:compOkC N N' sc scE cap=zi):CompOkC N N' sc scE cap:=by
 unfold compOkC at h;simp only [L1,E8,beq_iff_eq,Bool.or_eq_true,bne_iff_ne] at h;obtain ⟨⟨⟨⟨⟨h1,h2⟩,h3⟩,h4⟩,h5⟩,h6⟩:=h;refine ⟨h1,λx q e=>?_,λx q e=>?_,λx q e=>?_,h5,λi j e=>?_⟩
 ·rcases h2 x q with z | z
  ·exact absurd e z
  ·exact z
 ·rcases h3 x q with z | z
  ·exact absurd e z
  ·exact z
 ·rcases h4 x q with (z | z) | z
  ·exact absurd e z
  ·exact .inl z
  ·exact .inr z
 ·have hi:i < cap.length:=(O0.mp e).1;have:=h6 i (eQ.mpr hi);rw [e] at this;simp only at this;cases B:N'[i]? with
  | none=>rw [B] at this; cases this
  | some a=>
   cases G:N[j]? with
   | none=>rw [B,G] at this; cases this
   | some b=>
    rw [B,G] at this;simp only [L1,beq_iff_eq] at this;obtain ⟨rfl,z⟩:=this;exact ⟨a,rfl,rfl,z⟩
def Yz (X:Cx) (N':List Str) (sc:Scope) (cl:List (Str × aB)) (C:aB) (s0:aC) (H0:Hp) (ex:List aB):Cx:=
 { X with N:=N',s₀:=s0,H₀:=H0,env:=compEnvC sc cl C X.env,outer:=X.stack,ex:=ex,fn:=λx=>sc.names.lookup x == zo .cell,pn:=[],xe:=λ_ _=>False }
def Qj5 {pins:zAC} {σ:St} {H:Hp} {s:aC} {N N':List Str} {sc scE:Scope} {cap:zAE} {cl:List (Str × aB)} {fp:List aB}
  (I:Inv X pins σ H s) (hN:X.N=N) (hE:X.env.scope=scE) (ck:CompOkC N N' sc scE cap) (c1:∀ x c,cl.lookup x=zo c->X.env.cells.lookup x=zo c) (c2:∀ x∈sc.names,x.2=.free->∃ c,cl.lookup x.1=zo c)
  (hf:∀ b∈fp,Q4s X pins H b) (a7:∀ b∈fp,b < s.heap.objs.size) :
  Inv (Yz X N' sc (aq (s.heap.objs.size + 1) sc.names cl) s.heap.objs.size s H fp) [] (Q0f cap σ) H { s with heap:=pushCells (s.heap.push { cls:=.type "dict",data:=.dict #[] }) sc.names }:=by
 obtain ⟨J,O⟩:∃ J,pushCells (s.heap.push { cls:=.type "dict",data:=.dict #[] }) sc.names=J:=⟨_,rfl⟩;obtain ⟨B,G⟩:∃ B,aq (s.heap.objs.size + 1) sc.names cl=B:=⟨_,rfl⟩;rw [O,G];have keep:∀ b o,s.heap.get? b=zo o->J.get? b=zo o:=λb o e=>by rw [<- O]; exact pushCells_keeps _ _ b o (O1 _ e)
 have a8:J.Ns s.heap.objs.size (λ_=>zl):=by rw [<- O]; exact (Heap.Ns.new s.heap (.type "dict")).keeps (pushCells_keeps _ _)
 have look:∀ x c,B.lookup x=zo c->cl.lookup x=zo c\/(s.heap.objs.size + 1<=c/\J.IsCell c zl):=λx c e=>by
  rw [<- G] at e;have:=Vn (sc.names) (s.heap.push { cls:=.type "dict",data:=.dict #[] }) cl x c (by rw [F1]; exact e);rw [F1,O] at this;rcases this with z | ⟨_,z,z'⟩
  ·exact .inl z
  ·exact .inr ⟨z,z'⟩
 have Y:∀ x c,cl.lookup x=zo c->c < s.heap.objs.size:=λx c e=>by
  obtain ⟨v,o,ho,_⟩:=I.cell x c (c1 x c e);exact O9 ho
 have inj:∀ x y c,B.lookup x=zo c->B.lookup y=zo c->x=y:=by
  rw [<- G];exact K5 _ _ _ (λx c e=>L6 (Y x c e)) λx y c a b=>I.ok.inj x y c (c1 x c a) (c1 y c b)
 have a9:∀ x,sc.names.lookup x=zo .cell->∃ c,B.lookup x=zo c:=λx e=>by
  rw [<- G];exact gA.mp (eV _ _ _ (.inl e))
 have a5:∀ x,sc.names.lookup x=zo .free->B.lookup x=cl.lookup x:=λx e=>by
  rw [<- G];refine Ud _ _ _ λz=>?_
  have:=ck.cel _ z rfl;rw [e] at this; cases this
 have kindOf:∀ x k,(compEnvC sc B s.heap.objs.size X.env).kindOf x=zo k->k=.cell\/k=.free->sc.names.lookup x=zo .free\/sc.names.lookup x=zo .cell:=λx k e hk=>by
  have e':(relabel sc X.env).names.lookup x=zo k:=e;rw [jb] at e';cases q:sc.names.lookup x with
  | none=>rw [q] at e'; cases e'
  | some k'=>
   rw [q] at e';have a4:(if (k' == NameKind.free && X.env.scope.kind == .function && X.env.kindOf x == zo .cell)=zi then NameKind.cell else k')=k:=bm e'
   by_cases U:(k' == NameKind.free && X.env.scope.kind == .function && X.env.kindOf x == zo .cell)=zi
   ·simp only [L1,beq_iff_eq] at U;rw [U.1.1]; exact .inl rfl
   ·rw [bY U] at a4;subst a4;rcases hk with z | z
    ·rw [z]; exact .inr rfl
    ·rw [z]; exact .inl rfl
 have cellAt:∀ x c,X.env.cells.lookup x=zo c->∀ v,s.heap.IsCell c v->J.IsCell c v:=λx c e v ⟨o,ho,hd⟩=>⟨o,keep c o ho,hd⟩
 have a2:∀ c,s.heap.objs.size<=c->H c=zl:=λc U=>I.hok.fresh U
 refine ⟨⟨I.ok.mod,ck.kind,I.ok.glob,I.ok.blt,O6 _,inj,λx hx=>?_,λx c h1 h2=>?_,I.ok.hd,I.ok.frames,.inl rfl,λb hb=>?_,I.bs,
  F3 I.ok.bsz I.sz,λb o e hb=>?_,λb hb hz=>?_,I.stack,I.stkFree⟩,rfl,I.bare,Un.kept keep,⟨_,a8,λi x v e1 Z e3=>?_⟩,λx c e=>?_,a2 _ (O6 _),λx c e=>?_,λp hp=>(by cases hp),I.hok.kept keep,?_⟩
 ·have hx:(compEnvC sc B s.heap.objs.size X.env).kindOf x=zo .cell\/(compEnvC sc B s.heap.objs.size X.env).kindOf x=zo .free:=hx;have q:sc.names.lookup x=zo .free\/sc.names.lookup x=zo .cell:=by
   rcases hx with z | z
   ·exact kindOf x _ z (.inl rfl)
   ·exact kindOf x _ z (.inr rfl)
  rcases q with q | q
  ·obtain ⟨c,U⟩:=c2 _ (cL q) rfl;exact ⟨c,(a5 x q).trans U⟩
  ·exact a9 x q
 ·have h1:sc.names.lookup x=zo .cell:=by simpa [Yz] using h1
  have h2:B.lookup x=zo c:=h2;rw [<- G] at h2;exact F3 (cI _) (K4 _ _ _ (cL h1) h2)
 ·refine ⟨D9 (a7 b hb),λx c e=>?_⟩;rcases look x c e with z | ⟨z,_⟩
  ·exact (hf b hb).2.2.2.2.1 x c (c1 x c z)
  ·exact λq=>absurd (D7 (a7 b hb) (F3 (cI _) (q ▸ z))) (M8 _)
 ·rcases (hf b hb).2.2.2.1 with z | z
  ·exact I.ok.noex b o e z
  ·exact absurd (D7 (O9 e) (F3 I.ok.bsz z)) (M8 _)
 ·rcases D3.mp (I.stkSub b hz) with e | z
  ·exact (hf b hb).2.1 e
  ·exact (hf b hb).2.2.1 z
 ·have e1:N'[i]?=zo x:=e1;have Z:(Q0f cap σ)[i]?=zo (zo v):=Z;unfold Q0f at Z;rw [E2] at Z;cases q:cap[i]? with
  | none=>rw [q] at Z; cases Z
  | some oj=>
   rw [q] at Z;cases oj with
   | none=>cases Z
   | some j=>
    obtain ⟨y,z1,z2,z3⟩:=ck.at_ i j q;rw [e1] at z1; cases z1;have ev:σ[j]?=zo (zo v):=by
     have a1:(σ[j]?).join=zo v:=bm Z;cases r:σ[j]? with
     | none=>rw [r] at a1; cases a1
     | some o=>rw [r] at a1; exact congrArg zo a1
    obtain ⟨m',b0,hl⟩:=I.loc;have sK:X.env.scope.names.lookup x=zo .cell\/X.env.scope.names.lookup x=zo .free:=by rw [hE]; exact ck.fre _ (cL z3) rfl
    obtain ⟨u,ru,l⟩:=hl j x v (by rw [hN]; exact z2) ev (sK.elim (λz=>.inr (.inl z)) λz=>.inr (.inr z))
    refine ⟨u,ru,?_⟩;obtain ⟨c,U⟩:=c2 _ (cL z3) rfl;rcases l with ⟨k,_⟩ | ⟨k,c',a6,a3⟩
    ·have k:X.env.scope.names.lookup x=zo .local:=k;rcases sK with z | z <;> (rw [k] at z; cases z)
    ·have:c=c':=by
      have q1:=c1 x c U;rw [a6] at q1;exact (bm q1).symm
     subst this;refine .inr ⟨?_,c,(a5 x z3).trans U,cellAt x c a6 _ a3⟩;show (relabel sc X.env).names.lookup x=zo .cell\/(relabel sc X.env).names.lookup x=zo .free;rw [jb,z3];show zo (if _ then NameKind.cell else NameKind.free)=_\/zo (if _ then NameKind.cell else NameKind.free)=_
     split
     ·exact .inl rfl
     ·exact .inr rfl
 ·rcases look x c e with z | ⟨_,z⟩
  ·obtain ⟨v,q⟩:=I.cell x c (c1 x c z);exact ⟨v,cellAt x c (c1 x c z) v q⟩
  ·exact ⟨_,z⟩
 ·rcases look x c e with z | ⟨z,_⟩
  ·exact I.freeC x c (c1 x c z)
  ·exact a2 c ()
 ·unfold Q0f;show _=N'.length;rw [O3];exact ck.len
end L2
namespace PySem
open Sem (wp)
end PySem
namespace L2
open PySem PySem.Spec PyProof.Rows PySem.W PySem.Builtin.ObjectAttr
end L2
namespace L2
open PySem PySem.Spec PyProof.Rows PySem.W
end L2
namespace PySem
open Sem (wp)
def Q57 (o:Obj):Option aA:=match o.data with | .fields vs=>vs[2]? | _=>zl
def Qi8 {o:Obj} {vs:Array aA} {x:aA} (q:o.data=.fields vs):Q57 (cz (·.setIfInBounds 1 x) o)=Q57 o:=by
 have d:=cv q (·.setIfInBounds 1 x);unfold Q57;rw [d,q];exact gV (by decide)
variable {M:Model} {A:aP} {E:aA->aC->Prop} {s:aC} {en:Env} {ou:List Env} {L e:aB} {ob:Obj} {vs:Array aA} {a0:aA} {Q:Unit->aC->Prop}
section
variable {bs:Heap}
def Q4f {G:aA} {nx:Bool} (fr:A.frames=zo (en :: ou)) (Z:s.heap.FunFrames bs (en :: ou)) (ef:en.frame=zo L) (oe:s.heap.get? e=zo ob) (kb:bs.StaysIn s.heap) (ne:bs.get? e=zl)
  (J:ob.data=.fields vs) (z1:1 < vs.size) (z0:vs[0]?=zo a0)
  (h:∀ h',Heap.LeftW bs (en :: ou) e ob.cls a0 s.heap h'->(∃ o',h'.get? e=zo o'/\o'.dict=ob.dict/\Q57 o'=Q57 ob)->Q PUnit.unit { s with heap:=h' }) :
  aF M A (do
   let a <- frameOf en
   let pl <- entryPlaceOf L nx
   let b <- EntryCells.newEntry G a .none (aS L) .none pl
   setField (.ref e) 1 b) (λ_ s'=>aF M A (setFlight (.ref e) zl) Q E s') E s:=by
 have nf:e∉(en :: ou).filterMap (·.frame):=λm=>by
  obtain ⟨_,o,q,n⟩:=Z.mem m;rw [oe] at q;cases q;exact n vs J
 refine aD (wpAny_frameOf_fun fr Z ef λg gs=>?_);refine aD (wpAny_entryPlaceOf λpl hp=>?_);unfold EntryCells.newEntry newFields;refine aD (bA ?_ (hp.sizeOk5 _ _ _ _ _));have ge:g.get? e=zo ob:=(gs.2.1 e nf).trans oe;have gb:bs.StaysIn g:=λb o q=>(gs.2.1 b λm=>by
  rw [(Z.mem m).1] at q;cases q).trans (kb b o q)
 obtain ⟨tb,O⟩:∃ tb:List aA,[G,.ref L,.none,aS L,.none] ++ (if pl.isEmpty then bg 6 bi else pl)=tb:=⟨_,rfl⟩;have l5:3 < tb.length/\tb[3]?=zo (aS L):=by
  rw [<- O];exact ⟨by simp,by simp⟩
 rw [O];have U:=O1 (h:=g) { cls:=.type "traceback",dict:=zl,data:=.fields tb.toArray } ge;refine wpAny_setField U J z1 ?_;have te:g.objs.size≠e:=L7 (O9 ge);have d3:=cv J (·.setIfInBounds 1 (bj g.objs.size));have B:=Heap.get?_update_self (cz (·.setIfInBounds 1 (bj g.objs.size))) U (fC d3);have I:=(L4 (g.push { cls:=.type "traceback",dict:=zl,data:=.fields tb.toArray })
  (cz (·.setIfInBounds 1 (bj g.objs.size))) te.symm).trans
  (D2 g rfl)
 unfold setFlight;refine aD (ah B d3 (x:=.ref g.objs.size) (by simp [z1]) ?_);rw [bX (show (bj g.objs.size != bi)=zi by simp)];refine wpAny_setField I rfl (by simpa using l5.1) (h _ ?_ ?_)
 all_goals
  obtain ⟨g3,Y⟩:∃ g3,((g.push { cls:=.type "traceback",dict:=zl,data:=.fields tb.toArray }).update e (cz (·.setIfInBounds 1 (bj g.objs.size))))=g3:=⟨_,rfl⟩;rw [Y] at B I ⊢
 ·have kp:∀ b o,b≠e->g.get? b=zo o->(g3.update g.objs.size (cz (·.setIfInBounds 3 ((zl:Option aB).elim bi λf=>aS f)))).get? b=zo o:=λb o n q=>by
   rw [L4 _ _ (L7 (O9 q)),<- Y,L4 _ _ n.symm];exact O1 _ q
  have nr:∀ b o,s.heap.get? b=zo o->(∀ ws,o.data≠.fields ws)->b≠e:=λb o q n z=>by
   rw [z,oe] at q;cases q;exact n vs J
  refine ⟨λb o q=>kp b o (λz=>by rw [z,ne] at q; cases q) (gb b o q),Z.of_keeps λb o q n=>?_,?_,λb o q n=>?_⟩
  ·obtain ⟨sl,z⟩:=gs.2.2 b o q;exact ⟨_,kp b _ (nr b o q n) z,rfl⟩
  ·refine ⟨_,_,g.objs.size,_,_,?_,⟨gJ _ _,?_⟩,d3,by simp [z1],gb.fresh,te,Heap.get?_update_self _ I (fC (cv rfl _)),cv rfl _,?_⟩
   ·rw [L4 _ _ te];exact B
   ·rw [gV (by decide)];exact z0
   ·have:=l5.1;simp [this]
  ·obtain ⟨sl,z⟩:=gs.2.2 b o q;exact ⟨sl,kp b _ (nr b o q n) z⟩
 ·refine ⟨_,(L4 _ _ te).trans B,?_,Qi8 J⟩;cases ob with
  | mk c d dt sl=>cases dt <;> first | rfl | cases J
def Q8v (J:A.frames=zo (en :: ou)) (Y:s.heap.FunFrames bs (en :: ou)) (q:en.frame=zo L) (G:s.heap.get? e=zo ob) (O:bs.StaysIn s.heap) (ne:bs.get? e=zl)
  (B:ob.data=.fields vs) (I:vs[1]?=zo .none) (U:vs[0]?=zo a0)
  (h:∀ h',Heap.LeftW bs (en :: ou) e ob.cls a0 s.heap h'->(∃ o',h'.get? e=zo o'/\o'.dict=ob.dict/\Q57 o'=Q57 ob)->Q PUnit.unit { s with heap:=h' }):aF M A (leaving en (.ref e)) Q E s:=by
 unfold leaving noteFrame;simp only [q];refine aD (aD (ah G B I ?_));rw [bY (by decide)];exact Q4f J Y q G O ne B (cp.mp I).1 U h
def Q8u {cls:aA} {dv:Option aB} (fr:A.frames=zo (en :: ou)) (Y:en.frame=zo L) (fl:Heap.FlyingW bs (en :: ou) e cls a0 s.heap) (dd:∃ o',s.heap.get? e=zo o'/\o'.dict=dv/\Q57 o'=zo .none)
  (h:∀ h',Heap.FlyingW bs ou e cls a0 h'->(∃ o',h'.get? e=zo o'/\o'.dict=dv/\Q57 o'=zo .none)->s.heap.UpToSlots h'->Q PUnit.unit { s with heap:=h' }):aF M A (leaving en (.ref e)) Q E s:=by
 obtain ⟨kb,ne,ff,oe,U,T,oT,ts,I,⟨hc,z0⟩,od,z1,nT,Te,hT,dT,z3⟩:=fl;obtain ⟨o',B,J,O⟩:=dd;rw [I] at B;cases B;unfold leaving noteFrame;simp only [Y];refine aD (aD (ah I od z1 ?_));rw [bX (show (bj T != bi)=zi by simp)];refine aD (ah hT dT z3 ?_);rw [bY (show ¬ ((bi == aS L)=zi) by simp [aS])];refine aD (wpAny_setField hT dT (cp.mp z3).1 ?_);have G:∀ b,b≠T->(s.heap.update T (cz (·.setIfInBounds 3 bi))).get? b=s.heap.get? b:=λb n=>L4 _ _ n.symm
 have Z:∀ b o,s.heap.get? b=zo o->(∀ U,o.data≠.fields U)->b≠T:=λb o q n z=>by
  rw [z,hT] at q;cases q;exact n ts dT
 refine Q4f fr (ff.of_keeps λb o q n=>⟨o,(G b (Z b o q n)).trans q,rfl⟩) Y ((G e Te.symm).trans I) (λb o q=>(G b λz=>by rw [z,nT] at q; cases q).trans (kb b o q)) ne od (cp.mp z1).1 z0 λh' lf d'=>?_
 obtain ⟨k1,⟨_,_,k2⟩,k3,k4⟩:=lf;rw [hc] at k3;exact h h' ⟨k1,ne,k2,k3⟩ (d'.imp λo q=>⟨q.1,q.2.1.trans J,q.2.2.trans O⟩) λb o q n=>k4 b o ((G b (Z b o q n)).trans q) n
end
end PySem
namespace L2
open PySem PySem.Spec PyProof.Rows
variable {σ:St} {H1:Hp} {s1:aC} {b:aB}
def CXD (P:aL) (w:aK):CXT:=λouter H s E e s'=>∃ a cls a0 dv H' B,e=bj a/\Fly P w outer H H' s s' a cls a0 B/\(∃ o',s'.heap.get? a=zo o'/\o'.dict=dv/\Q57 o'=zo .none)/\E cls dv H'
def Qme {P:aL} {w:aK} {X:Cx}:Q4r (CXD P w) X E0:=λ_ _ _ _ _ _ _ h=>by
 obtain ⟨_,_,_,_,_,_,_,_,_,z⟩:=h;exact z.elim
variable {P:aL} {K:be} {mg:zAG} {base:Heap} {N:List Str} {qual:Str} {scope:Scope} {f:aB} {cd:aA} {A:aP} {outer:List Env} {s:aC} {H:Hp} {E:XK}
section
variable {w:aK}
abbrev cxD (P:aL) (w:aK) (K:be) (mg:zAG) (base:Heap) (N:List Str) (qual:Str) (scope:Scope) (f:aB) (cd:aA) (A:aP) (outer:List Env) (s:aC) (H:Hp) (E:XK):Cx:=Qeq (CXD P w) P w K mg base N qual scope f cd A outer s H E
def Q6k {pins:zAC} (I:Inv (cxD P w K mg base N qual scope f cd A outer s H E) pins σ H1 s1) {o:Obj} (e:s.heap.get? b=zo o) (n:b∉frs outer):b∉frs (cxD P w K mg base N qual scope f cd A outer s H E).stack:=λq=>by
 rcases D3.mp (I.stkSub b q) with z | z
 ·have h1:b < s.heap.objs.size:=O9 e;have h2:s.heap.objs.size<=(cxD P w K mg base N qual scope f cd A outer s H E).env.locals:=I.ok.above;rw [<- z] at h2;exact absurd (D7 h1 h2) (M8 _)
 ·exact n z
def Qi5 (h:b∈frs outer):b∈frs (cxD P w K mg base N qual scope f cd A outer s H E).stack:=by
 show b∈frs (_ :: outer);unfold frs at h ⊢;rw [dG]
 split
 ·exact h
 ·exact O7 _ h
def Qqf {pins:zAC} {J:Heap} {e C t:aB} {dv:Option aB} (I:Inv (cxD P w K mg base N qual scope f cd A outer s H E) pins σ H1 s1)
  (Z:∀ b o,b≠e->s1.heap.get? b=zo o->J.get? b=zo o) (a5:∀ o,s1.heap.get? e=zo o->∃ vs,o.data=.fields vs) (new:s.heap.get? e=zl) (hH:H1 e=zl)
  (oe:J.get? e=zo { cls:=.ref C,dict:=dv,data:=.fields #[.ref t,.none,.none,.none,.bool zb,.none] }) (hE:E (.ref C) dv H1) :
  (cxD P w K mg base N qual scope f cd A outer s H E).xe (.ref e) { s1 with heap:=J }:=by
 have a1:∀ en∈(cxD P w K mg base N qual scope f cd A outer s H E).stack,∀ b,en.frame=zo b->b∈e :: frs (cxD P w K mg base N qual scope f cd A outer s H E).stack:=λen he b B=>O7 _ (di.mpr ⟨en,he,B⟩)
 have ff:=PySem.W.funFrames_hide I.stack a1;have a4:∀ b o,s1.heap.get? b=zo o->(∀ vs,o.data≠.fields vs)->b≠e:=λb o q n z=>by
  subst z;obtain ⟨vs,d⟩:=a5 o q;exact n vs d
 have hid:(dg s1.heap (e :: frs (cxD P w K mg base N qual scope f cd A outer s H E).stack)).get? e=zl:=fo _ E3;have kb:(dg s1.heap (e :: frs (cxD P w K mg base N qual scope f cd A outer s H E).stack)).StaysIn J:=λb o q=>Z b o (λz=>by rw [z,hid] at q; cases q) (fm _ q)
 show aF (aI P w) _ (leaving _ (.ref e)) _ _ _;refine Q8v (bs:=dg s1.heap (e :: frs (cxD P w K mg base N qual scope f cd A outer s H E).stack)) (a0:=.ref t) (s:={ s1 with heap:=J }) I.ok.frames (ff.of_keeps λb o q n=>⟨o,Z b o (a4 b o q n) q,rfl⟩) rfl oe kb hid rfl rfl rfl λh2 lf dd=>?_
 obtain ⟨k1,⟨_,_,k2⟩,k3,k4⟩:=lf;have noex:∀ b:aB,b∉(cxD P w K mg base N qual scope f cd A outer s H E).ex:=λb z=>absurd (show b∈([]:List aB) from z) (by simp)
 have G:∀ b o,s.heap.get? b=zo o->b≠e:=λb o q z=>by rw [z,new] at q; cases q
 have out:∀ b o,s.heap.get? b=zo o->b∉frs outer->b∉e :: frs (cxD P w K mg base N qual scope f cd A outer s H E).stack:=λb o q n m=>by
  rcases D3.mp m with z | z
  ·exact G b o q z
  ·exact Q6k I q n z
 refine ⟨e,.ref C,.ref t,dv,H1,_,rfl,⟨I.os,I.bare,⟨k1,hid,k2,k3⟩,λb u q=>?_,λb o q n B=>?_,λb o q B=>?_,λb o q B=>?_,λb o q n=>I.base.free b o q n (noex b),I.base.tups,I.base.frzs,I.base.tbls⟩,dd,hE⟩
 ·have ne:∀ c v,H1 c=zo v->c∉e :: frs (cxD P w K mg base N qual scope f cd A outer s H E).stack:=λc v z m=>by
   rcases D3.mp m with m | m
   ·rw [m,hH] at z; cases z
   ·rw [I.stkFree c m] at z; cases z
  refine (I.hok b u q).stay (λc v Y r=>dh _ r ?_) (λ_ r=>r) λ_ _ r=>r
  rcases Y with rfl | Y
  ·exact ne c u q
  ·exact ne c _ Y
 ·exact dh _ (I.base.keep b o q n B (noex b)) (out b o q B)
 ·obtain ⟨o',z⟩:=I.base.there b o q (noex b);exact ⟨o',dh _ z (out b o q B)⟩
 ·obtain ⟨sl,z⟩:=I.base.slot b o q (I.ok.frf b B) B (noex b);obtain ⟨_,o',a2,U⟩:=I.ok.funs.mem B;have O:s.heap.get? b=zo o':=a2;rw [q] at O;cases O;obtain ⟨a3,z'⟩:=k4 b _ (Z b _ (G b o q) z) U;exact ⟨a3,z'⟩
def Qh3:Q4r (CXD P w) (cxD P w K mg base N qual scope f cd A outer s H E) E:=by
 intro pins σ H1 s1 e s' I h;obtain ⟨a,cls,a0,dv,H',B,rfl,F,dd,Z⟩:=h;show aF (aI P w) _ (leaving _ (.ref a)) _ _ _;have noex:∀ b:aB,b∉(cxD P w K mg base N qual scope f cd A outer s H E).ex:=λb z=>absurd (show b∈([]:List aB) from z) (by simp)
 refine Q8u I.ok.frames rfl F.fl dd λh2 x1 d2 x2=>?_
 refine ⟨a,cls,a0,dv,H',B,rfl,⟨F.os.trans I.os,F.bare,x1,F.hokB,λb o q n G=>?_,λb o q G=>?_,λb o q G=>?_,λb o q n=>?_,λb xs q=>F.tups b xs (I.base.tups b xs q),λb o u q=>F.frzs b o u (I.base.frzs b o u q),λb ps q=>?_⟩,d2,Z⟩
 ·exact F.keep b o (I.base.keep b o q n G (noex b)) (I.base.free b o q n (noex b)) (Q6k I q G)
 ·obtain ⟨o',z⟩:=I.base.there b o q (noex b);exact F.there b o' z (Q6k I q G)
 ·obtain ⟨sl,z⟩:=I.base.slot b o q (I.ok.frf b G) G (noex b);obtain ⟨_,o',Y,O⟩:=I.ok.funs.mem G;have J:s.heap.get? b=zo o':=Y;rw [q] at J;cases J;obtain ⟨a1,z'⟩:=F.slot b _ z (Qi5 G);obtain ⟨U,z2⟩:=x2 b _ z' O;exact ⟨U,z2⟩
 ·obtain ⟨o',z⟩:=I.base.there b o q (noex b);exact F.free b o' z (I.base.free b o q n (noex b))
 ·obtain ⟨m1,e1⟩:=I.base.tbls b ps q;obtain ⟨m2,e2⟩:=F.tbls b _ e1;exact ⟨m1 ++ m2,by rw [e2,fq]⟩
end
variable {X:Cx}
def Qt3 (X:Cx) (E:XK):Prop:=∀ (pins:zAC) (σ:St) (H0 H1:Hp) (s0 s1:aC) (hx:Heap) (e C t:aB) (dv:Option aB),Inv X pins σ H0 s0->s0.heap.get? e=zl->Inv X pins σ H1 s1->(∀ b o,b≠e->s1.heap.get? b=zo o->hx.get? b=zo o) ->
 (∀ o,s1.heap.get? e=zo o->∃ vs,o.data=.fields vs)->H1 e=zl->hx.get? e=zo { cls:=.ref C,dict:=dv,data:=.fields #[.ref t,.none,.none,.none,.bool zb,.none] }->E (.ref C) dv H1->X.xe (.ref e) { s1 with heap:=hx }
def Qgg {P:aL} {w:aK} {K:be} {mg:zAG} {base:Heap} {N:List Str} {qual:Str} {scope:Scope} {f:aB} {cd:aA} {A:aP} {outer:List Env} {s:aC} {H:Hp} {E:XK} :
  Qt3 (cxD P w K mg base N qual scope f cd A outer s H E) E:=λpins σ H0 H1 s0 s1 hx e C t dv O Y I Z B J U G=>by
 refine Qqf I Z B ?_ J U G;cases q:s.heap.get? e with
 | none=>rfl
 | some o=>
  obtain ⟨o',z⟩:=O.base.there e o q (λz=>absurd (show e∈([]:List aB) from z) (by simp))
  rw [Y] at z; cases z
def Fun.okD {P:aL} {w:aK} {mg:zAG} {base:Heap} {x:Str} {st:aM} {fd:aR} {ps:List Str} {k:Nat} {sp:Sp} (F:Fun K x qual st f fd) (S:FnScope N ps (Q9 st)) (len:∀ vs H Q E,sp vs H Q E->vs.length=ps.length)
  (B:∀ (q:aA) (A:aP) (outer:List Env) (s:aC) (H:Hp) (vs:List V) (Q:VK) (E:XK),Room k (A.deeper (envOfC qual (Q9 st) s.heap.objs.size f q))->sp vs H Q E ->
   ∃ t,PSs (cxD P w K mg base N qual (Q9 st) f q A outer s H E) (Zz st) t/\t { nx:=λ_ H'=>Q .non H',rt:=Q } (start N vs) H):FnOk P w K mg base (CXD P w) (k + 1) f fd ps sp:=by
 obtain ⟨oc,Y,kV,J,Z,an,q,ct,U,rfl,lk,G⟩:=F.ex;exact Qwi lk G S len λA outer s H vs Q E O I=>B q A outer s H vs Q E O I
end L2
namespace L2
open PySem PySem.Spec PyProof.Rows PySem.W PySem.Builtin.Getset_descriptor
end L2
namespace L2
open PySem PySem.Spec PyProof.Rows
end L2
namespace L2
open PySem PySem.Spec PyProof.Rows PySem.W PySem.Builtin.Getset_descriptor
end L2
namespace L2
open PySem PySem.Spec PyProof.Rows
end L2
namespace L2
open PySem PySem.Spec PyProof.Rows PySem.W PySem.Builtin.Getset_descriptor
end L2
namespace L2
open PySem PySem.Spec PyProof.Rows PySem.SeqAt
end L2
namespace L2
open PySem PySem.Spec PyProof.Rows
variable {tg:aH} {tt:TT} {wi:TI} {g:TG} {te:TE} {y:V} {u:aA} {H H':Hp} {xs:List (List Key × aB × aA)} {Q:zAF} {h':Heap} {sl:Array (Option aA)} {K:Type} {es:Array DictEntry} {ep:Nat}
variable {X:Cx}
def Qgh (K:be):R2:=λx y H Q=>∃ a b ys,x=.ref a/\y=.ref b/\SqT K H a []/\SqT K H b ys/\Q (.ref b) H
def Qha:OpR X (aa .Add) (Qgh X.K):=by
 intro pins s σ H x y v u Q I rx Y h;obtain ⟨a,b,ys,rfl,rfl,U,hb,q⟩:=h;cases rx;cases Y;obtain ⟨its,r1,p1,_⟩:=I.tuple U;obtain ⟨B,r2,p2,_⟩:=I.tuple hb;have Z:its=[]:=r1.nil_iff.mpr rfl;subst Z;obtain ⟨⟨cls,dd,data,sl⟩,ho,hc,n,hd⟩:=id p1;obtain ⟨⟨O,G,data2,J⟩,ho2,hc2,n2,hd2⟩:=id p2;simp only at hc hd hc2 hd2;subst hc hd hc2 hd2;exact concat_meets ⟨_,ho,rfl⟩ ⟨_,ho2,rfl⟩ noFill_tuple_add seq_tuple_add eX eY (eZ _ _)
  (tuple_addW0 a b ([]:List aA).toArray B.toArray n n2 dd G sl J (by simp)) ⟨ho,ho2,⟨.ref b,H,I,rfl,q⟩⟩
abbrev Qun (K:be):R2:=λx y H Q=>Qnw K x y H Q\/Qgh K x y H Q
def Qmm:OpR X (aa .Add) (Qun X.K):=op_catT.or Qha
def PTs (X:Cx) (ifs:List aH) (t:TT):Prop:=
 ∀ (pins:zAC) (s:aC) (σ:St) (H:Hp) (Q:Bool->Hp->Prop),Inv X pins σ H s->t σ H Q ->
  aF (aI X.prog X.w) X.A (forIn ifs zi λc r=>if r=zi then do let ok <- isTrue c X.env (aO c X.env); pure (ForInStep.yield ok) else pure (ForInStep.yield r)) (TP X pins σ Q) X.xe s
def Qtz:TT:=λ_ H Q=>Q zi H
def Qkr :PTs X [] Qtz:=λ_ _ _ H _ I h=>wpAny_tests_nil ⟨H,I,h⟩
def Qkq {c:aH} {t:TT} (h:PT X c t):PTs X [c] t:=λpins s σ H Q I q=>wpAny_tests_one (h pins s σ H Q I q)
def Q66 (J:It) (cap:zAE) (g:TG) (tt:TT) (te:TE) (σ:St) (H1:Hp) (Q:VK):Prop:=∀ acc,H1 acc=zl ->
 ∃ W:Nat->Nat->List V->St->Hp->Prop,(∃ m,W 0 m [] (Q0f cap σ) (upd H1 acc (.lst [])))/\∀ i m ys σ' H',W i m ys σ' H'->H' acc=zo (.lst ys) /\
  ((J.stop i H'/\Q (.ref acc) H')\/(J.go i H'/\ys.length < sizeLine/\∀ x H2,J.yld i H' x H2->g x σ' H2 λσ3 H3=>tt σ3 H3 λb H4=>
    if b=zi then te σ3 H4 λy H5=>H5 acc=zo (.lst ys)/\∃ m',m' < m/\W (i + 1) m' (ys ++ [y]) σ3 (upd H5 acc (.lst (ys ++ [y])))
    else ∃ m',m' < m/\W (i + 1) m' ys σ3 H4))
def Q6j (cap:zAE) (wi:TI) (g:TG) (tt:TT) (te:TE):TE:=λσ H Q=>wi σ H λJ H1=>Q66 J cap g tt te σ H1 Q
variable {prog:aL} {A:aP} {R:Result->aC->Prop} {s:aC}
section
variable {w:aK}
def Q58 {elt q iter:aH} {ifs:List aH} {scope:Scope} {pos:Pos} {it a2:aA} {env:Env} (I:Nat->aC->Prop)
  (a7:∀ n s,I n s->aF (aI prog w) A (ao it) (λr J=>match r with
   | none=>R (.ok .next) J
   | some v=>aF (aI prog w) A (letOwnedTupleGo q it v) (λ_ G=>aF (aI prog w) A (assign q env v) (λ_ Z=>
     aF (aI prog w) A (forIn ifs zi λc r=>if r=zi then do let ok <- isTrue c env (aO c env); pure (ForInStep.yield ok) else pure (ForInStep.yield r)) (λok O=>
      if ok=zi then aF (aI prog w) A (aO elt env) (λx U=>
       aF (aI prog w) A (call (.builtin "list.append") [a2,x]) (λ_ a1=>∃ m,m < n/\I m a1) (λ_ _=>False) U) (λ_ _=>False) O
      else ∃ m,m < n/\I m O) (λ_ _=>False) Z)
     (λ_ _=>False) G) (λ_ _=>False) J) (λ_ _=>False) s)
  (n:Nat) (h:I n s):codeAny (aI prog w) A (.compLoop (.ListComp elt [⟨q,iter,ifs,0⟩] scope pos) 0 it a2 env) R s:=by
 refine codeAny_loop rfl I (λn s hI=>?_) n h;show aF _ A ((compTurn (.ListComp elt [⟨q,iter,ifs,0⟩] scope pos) 0 it a2 env).onRaise (λx=>do noteFrame x env; theTreesLotGoes x)) _ _ s;refine wpAny_noted ?_;rw [compTurn_list];refine aD (wpAny_standAt (aD (ay (a7 n s hI) (λr J Y=>?_) λ_ _ h'=>h'.elim)))
 cases r with
 | none=>exact aJ Y
 | some v=>
  refine aD (ay Y (λ_ G a3=>?_) λ_ _ h'=>h'.elim)
  refine aD (ay a3 (λ_ Z a4=>aD (ay a4 (λok O B=>?_) λ_ _ h'=>h'.elim)) λ_ _ h'=>h'.elim)
  cases ok with
  | true=>
   rw [bX rfl] at B;exact aD (aD (ay B (λx U a6=>aD (ay a6 (λ_ a1 a5=>aJ (aJ ⟨rfl,a5⟩)) λ_ _ h'=>h'.elim)) λ_ _ h'=>h'.elim))
  | false=>
   rw [bY E1] at B;exact aD (aJ (aJ ⟨rfl,B⟩))
end
def Q4h {elt iter:aH} {ifs:List aH} {tt:TT} {pos:Pos} {N N':List Str} {sc scE:Scope} {cap:zAE} {g:TG} {te:TE} {use:Option (aA->Sem Unit)} {QQ:zAF} (b9:X.calm=zi) (hi:PI X tg iter wi)
  (hg:∀ cl C s0 H0 ex,PG (Yz X N' sc cl C s0 H0 ex) tg g) (he:∀ cl C s0 H0 ex,PE (Yz X N' sc cl C s0 H0 ex) elt te) (e6:∀ cl C s0 H0 ex,PTs (Yz X N' sc cl C s0 H0 ex) ifs tt)
  (hN:X.N=N) (hE:X.env.scope=scE) (hc:compOkC N N' sc scE cap=zi) (hs:∀ x,bI iter X.env x=pure x)
  {pins:zAC} {s:aC} {σ:St} {H:Hp} {Q:VK} (I:Inv X pins σ H s) (h:Q6j cap wi g tt te σ H Q)
  (fin:∀ d1 C H' s' m,Inv X pins σ H' s'->s'.heap.Ns C m->Q4s X pins H' C->Q (.ref d1) H'->compPost (aI X.prog X.w) X.A X.xe use QQ (.ref d1) C (.ok .next) s') {pos':Pos} :
  aF (aI X.prog X.w) X.A (comprehension (.ListComp elt [⟨tg,iter,ifs,0⟩] sc pos) sc X.env pos' (newList []) zb (aO iter X.env) use) QQ X.xe s:=by
 have ck:=compOkC.of hc;obtain ⟨cl,e7,c1,c2⟩:=Qb4 (scope:=sc) (env:=X.env) λx hx hf=>I.ok.has x.1 (by
  have:=ck.fre x hx hf;rw [<- hE] at this;exact this)
 refine wpAny_comprehension_free (use:=use) rfl hs e7 ck.kind ck.loc (thn (hi pins s σ H _ I h) λv s1 h1=>thn h1 λf0 U h2=>?_)
 obtain ⟨it,fp,tn,J,H2,e,I2,T,c6,f2,hw⟩:=h2;subst e;have b5:∀ b∈fp,b < U.heap.objs.size:=λb G=>by
  obtain ⟨o,e,_⟩:=T.obj _ _ c6 b G;exact O9 e
 obtain ⟨W,⟨m0,w0⟩,turn⟩:=hw U.heap.objs.size I2.fresh;refine bA (Q4t ?_);dsimp only;have I3:Inv X pins σ (upd H2 U.heap.objs.size (.lst [])) { U with heap:=U.heap.push { cls:=.type "list",data:=.seq ([]:List aA).toArray } }:=
  I2.lnew (its:=[]) (ys:=[]) (t':=U.toks) .nil (L5 _)
 generalize d5:({ U with heap:=U.heap.push { cls:=.type "list",data:=.seq ([]:List aA).toArray } }:aC)=Y at I3;have d3:Y.heap=U.heap.push { cls:=.type "list",data:=.seq ([]:List aA).toArray }:=by rw [<- d5]
 have hsz:Y.heap.objs.size=U.heap.objs.size + 1:=by rw [d3,F1]
 have f3:∀ b∈fp,Q4s X pins (upd H2 U.heap.objs.size (.lst [])) b:=λb G=>by
  obtain ⟨g0,g1⟩:=f2 b G;exact ⟨by rw [Q6 (D9 (b5 b G))]; exact g0,g1⟩
 have k3:∀ b o,U.heap.get? b=zo o->Y.heap.get? b=zo o:=λb o e=>by rw [d3]; exact O1 _ e
 obtain ⟨a3,b0⟩:∃ a3,aq (Y.heap.objs.size + 1) sc.names cl=a3:=⟨_,rfl⟩;obtain ⟨Z,a1⟩:∃ Z,pushCells (Y.heap.push { cls:=.type "dict",data:=.dict #[] }) sc.names=Z:=⟨_,rfl⟩;have k1:∀ b o,Y.heap.get? b=zo o->Z.get? b=zo o:=λb o e=>by rw [<- a1]; exact pushCells_keeps _ _ b o (O1 _ e)
 have e0:∀ x c,a3.lookup x=zo c->cl.lookup x=zo c\/Y.heap.objs.size + 1<=c:=λx c e=>by
  rw [<- b0] at e;have:=Vn (sc.names) (Y.heap.push { cls:=.type "dict",data:=.dict #[] }) cl x c (by rw [F1]; exact e);rcases this with z | ⟨_,z,_⟩
  ·exact .inl z
  ·rw [F1] at z; exact .inr z
 have I4:Inv (Yz X N' sc a3 Y.heap.objs.size Y (upd H2 U.heap.objs.size (.lst [])) fp) [] (Q0f cap σ) (upd H2 U.heap.objs.size (.lst [])) { Y with heap:=Z }:=by
  rw [<- b0,<- a1];exact Qj5 I3 hN hE ck c1 c2 f3 (λb G=>D7 (b5 b G) (by rw [hsz]; exact cI _))
 have d4:tn 0 Z:=T.keep _ _ _ c6 λb G o e=>k1 b o (k3 b o e)
 generalize B:Yz X N' sc a3 Y.heap.objs.size Y (upd H2 U.heap.objs.size (.lst [])) fp=X' at I4;have c0:X'.xe=λ_ _=>False:=by rw [<- B]; rfl
 have O:X'.prog=X.prog:=by rw [<- B]; rfl
 have a2:X'.w=X.w:=by rw [<- B]; rfl
 have c7:X'.K=X.K:=by rw [<- B]; rfl
 have a5:X'.A=X.A:=by rw [<- B]; rfl
 have d2:X'.calm=zi:=by rw [<- B]; exact b9
 have b1:X'.env=compEnvC sc a3 Y.heap.objs.size X.env:=by rw [<- B]; rfl
 have a4:X'.env.locals=Y.heap.objs.size:=by rw [b1]; rfl
 have d8:PG X' tg g:=by rw [<- B]; exact hg _ _ _ _ _
 have e5:PE X' elt te:=by rw [<- B]; exact he _ _ _ _ _
 have d0:PTs X' ifs tt:=by rw [<- B]; exact e6 _ _ _ _ _
 have a6:∀ {H':Hp},(∀ b∈fp,H' b=zl)->∀ b∈fp,Q4s X' [] H' b:=λ{H'} hn b G=>by
  obtain ⟨_,g1,g2,g3,g4,g5⟩:=f3 b G;refine ⟨hn b G,by rw [a4,hsz]; exact D9 (L6 (b5 b G)),?_,?_,?_,λp hp=>?_⟩
  ·rw [<- B];intro z;rcases D3.mp (I3.stkSub b z) with e | z
   ·exact g1 e
   ·exact g2 z
  ·left
   rw [<- B];exact G
  ·intro x c e;rw [b1] at e;rcases e0 x c e with z | z
   ·exact g4 x c (c1 x c z)
   ·exact λq=>absurd (D7 (b5 b G) (F3 (F3 (cI _) (hsz ▸ cI _)) (q ▸ z))) (M8 _)
  ·rw [<- B] at hp;cases hp
 have fin':∀ {a8:St} {H':Hp} {s':aC},Inv X' [] a8 H' s'->Q (.ref U.heap.objs.size) H'->compPost (aI X.prog X.w) X.A X.xe use QQ (.ref U.heap.objs.size) Y.heap.objs.size (.ok .next) s':=λ{a8 H' s'} J q=>by
  obtain ⟨mm,c9,_⟩:=J.loc;rw [a4] at c9;have c3:H' Y.heap.objs.size=zl:=by have:=J.free; rw [a4] at this; exact this
  have hok:=J.hok;rw [O,a2] at hok;have u1:Un (frs X.stack) fp (upd H2 U.heap.objs.size (.lst [])) H' Y.heap s'.heap:=by
   have:=J.base;rw [<- B] at this;exact this
  have e3:s'.os=Y.os:=by have:=J.os; rw [<- B] at this; exact this
  refine fin _ _ H' s' mm (I3.call' (s':=s') e3 u1 hok J.bare λb G=>?_) c9 (I3.fpOk (O6 _) c3) q
  obtain ⟨_,g1,g2,g3,g4,g5⟩:=f3 b G;exact ⟨g3,g1,g4,g5⟩
 have a7:codeAny (aI X.prog X.w) X.A (.compLoop (.ListComp elt [⟨tg,iter,ifs,0⟩] sc pos) 0 (.ref it) (.ref U.heap.objs.size) X'.env)
   (compPost (aI X.prog X.w) X.A X.xe use QQ (.ref U.heap.objs.size) Y.heap.objs.size) { Y with heap:=Z }:=by
  refine Q58 (λn s'=>∃ i ys a8 H',Inv X' [] a8 H' s'/\tn i s'.heap/\(∀ b∈fp,H' b=zl)/\W i n ys a8 H') ?_ m0 ⟨0,[],_,_,I4,d4,λb G=>(f3 b G).1,w0⟩
  rintro n s5 ⟨i,ys,b4,H5,I5,c8,d6,w5⟩;obtain ⟨e9,q⟩:=turn i n ys b4 H5 w5;rcases q with ⟨stop,q⟩ | ⟨go,e8,step⟩
  ·refine thn (a5 ▸ T.done X' O a2 c7 d2 i [] s5 b4 H5 _ I5 (a6 d6) c8 stop) λr s6 ⟨hr,I6⟩=>?_
   subst hr;exact fin' I6 q
  ·refine thn (a5 ▸ T.item X' O a2 c7 d2 i [] s5 b4 H5 _ I5 (a6 d6) c8 go) λr s6 ⟨u,hr,h6⟩=>?_
   subst hr;refine thn h6 λ_ s7 ⟨x,H7,I7,r7,y7,b3,e2⟩=>?_
   have d9:=I7.pinned (a6 e2) (T.obj _ _ b3);have g7:=d8 _ s7 b4 H7 x u _ d9 r7 (step x H7 y7);rw [O,a2,a5,c0] at g7;refine thn g7 λ_ s8 ⟨b2,H8,I8,q8⟩=>?_
   have t8:=d0 _ s8 b2 H8 _ I8 q8;rw [O,a2,a5,c0] at t8;refine thn t8 λe4 d7 ⟨e1,b6,b7⟩=>?_
   cases e4 with
   | false=>
    rw [bY E1] at b7 ⊢;obtain ⟨m',c4,w9⟩:=b7;refine ⟨m',c4,i + 1,_,b2,_,b6.unpinned,T.keep _ _ _ b3 λb G o eo=>(b6.pin (b,o) (F6 _ (F6 _ (U5 G eo)))).1,λb G=>?_,w9⟩;obtain ⟨o,eo,d⟩:=T.obj _ _ b3 b G;exact (b6.pin (b,o) (F6 _ (F6 _ (U5 G eo)))).2.1
   | true=>
   rw [bX rfl] at b7 ⊢;have g8:=e5 _ d7 b2 e1 _ b6 b7;rw [O,a2,a5,c0] at g8;refine thn g8 λy s9 ⟨yv,H9,I9,r9,a9,m',c4,w9⟩=>?_
   obtain ⟨z,its,nn,rr,hl,e⟩:=I9.lstM a9;refine bG F.slot_list_append ⟨_,e,rfl⟩ F.entry_list_append (F.args_list_append_2 _ _) (gG _ its.toArray nn y (by rw [O8]; omega)) ⟨e,?_⟩;have c5:Inv X' ([] ++ Q3p fp s7.heap) b2 (upd H9 U.heap.objs.size (.lst (ys ++ [yv]))) { s9 with heap:=s9.heap.update U.heap.objs.size (bp λa=>a.push y) }:=
    I9.lset (t':=s9.toks) (its':=its ++ [y]) a9 e (by simp) (rr.append (.cons r9 .nil)) (by rw [D4,ee]; omega)
   refine ⟨m',c4,i + 1,_,b2,_,c5.unpinned,T.keep _ _ _ b3 λb G o eo=>(c5.pin (b,o) (F6 _ (F6 _ (U5 G eo)))).1,λb G=>?_,w9⟩;obtain ⟨o,eo,d⟩:=T.obj _ _ b3 b G;exact (c5.pin (b,o) (F6 _ (F6 _ (U5 G eo)))).2.1
 rw [b1] at a7;have b8:=codeAny_compStart_list (rest:=[]) (ifs:=ifs) a7 (T.self X.A 0 _ _ _ d4 a7);subst d5;rw [<- b0,<- a1] at b8;exact b8
def Qh1 {elt iter:aH} {ifs:List aH} {tt:TT} {pos:Pos} {N N':List Str} {sc scE:Scope} {cap:zAE} {g:TG} {te:TE} (B:X.calm=zi) (hi:PI X tg iter wi)
  (hg:∀ cl C G H0 ex,PG (Yz X N' sc cl C G H0 ex) tg g) (he:∀ cl C G H0 ex,PE (Yz X N' sc cl C G H0 ex) elt te) (O:∀ cl C G H0 ex,PTs (Yz X N' sc cl C G H0 ex) ifs tt)
  (hN:X.N=N:=by rfl) (Y:X.env.scope=scE:=by rfl) (hc:compOkC N N' sc scE cap=zi:=by decide +kernel) (hs:∀ x,bI iter X.env x=pure x:=by intro _; rfl) :
  PE X (.ListComp elt [⟨tg,iter,ifs,0⟩] sc pos) (Q6j cap wi g tt te):=by
 intro pins s σ H Q I h;rw [eval_ListComp];refine Q4h (use:=zl) B hi hg he O hN Y hc hs I h λJ C H' s' m Z hm hf q=>⟨m,hm,λh' U=>?_⟩
 obtain ⟨f0,f1,f2,f3,f4,f5⟩:=hf;exact ⟨.ref J,H',Z.turned (t':=s'.toks) (λb o hb e=>(U.2 b hb).trans e) f0 f1 f3 f4 f5,rfl,q⟩
def Qgn {ifs:List aH} {tt:TT} {i:Nat} {x:Str} {px B:Pos} {elt iter:aH} {pos:Pos} {N N':List Str} {sc scE:Scope} {cap:zAE} {g:TG} {te:TE} (Z:X.N.Nodup) (a3:X.N[i]?=zo x) (hx:Loc X.env.scope x) (G:X.calm=zi) (hi:PI X tg iter wi)
  (hg:∀ cl C O H0 ex,PG (Yz X N' sc cl C O H0 ex) tg g) (he:∀ cl C O H0 ex,PE (Yz X N' sc cl C O H0 ex) elt te) (a1:∀ cl C O H0 ex,PTs (Yz X N' sc cl C O H0 ex) ifs tt)
  (Y:swapsWith (.ListComp elt [⟨tg,iter,ifs,0⟩] sc pos) (zo (.Name x px)) B.line X.env=pure zi:=by rfl)
  (hN:X.N=N:=by rfl) (hE:X.env.scope=scE:=by rfl) (hc:compOkC N N' sc scE cap=zi:=by decide +kernel) (hs:∀ x,bI iter X.env x=pure x:=by intro _; rfl)
  (hf:X.fn x=zi\/X.env.scope.names.lookup x=zo .local:=by first | exact .inl rfl | exact .inr rfl | assumption) :
  PS X (.Assign [.Name x px] (.ListComp elt [⟨tg,iter,ifs,0⟩] sc pos) B) (Qpa (Q6j cap wi g tt te) (Q96 i)):=by
 intro pins s σ H D I h;rw [exec_Assign_Name_used _ _ _ _ Y];refine aD (wpAny_standAt (aD ?_));show aF _ _ (do let _ <- comprehension (.ListComp elt [⟨tg,iter,ifs,0⟩] sc pos) sc X.env _ (newList []) zb (aO iter X.env) (zo (assign (.Name x px) X.env))) _ _ s;refine aD (ay (Q4h (use:=zo (assign (.Name x px) X.env)) (QQ:=λ_ s'=>SP X pins D .next s') G hi hg he a1 hN hE hc hs I h ?_) (λ_ s' hq=>aJ (aJ hq)) λ_ _ e=>e)
 intro U C H' s' m I' hm a4 q;obtain ⟨f0,f1,f2,f3,f4,f5⟩:=a4;show aF _ _ (assign (.Name x px) X.env (.ref U)) _ _ _;refine wpAny_assign_Name (Q5a I' Z a3 hx (v:=.ref U) rfl (λs2 I2 ⟨a,sb,J⟩=>⟨m,?_,λh' a2=>?_⟩) hf)
 ·refine hm.sameBut sb λz=>?_
  rcases J with J | J
  ·exact f1 (z.trans J)
  ·exact f4 x a J z.symm
 ·exact ⟨_,H',I2.turned (t':=s2.toks) (λb o hb e=>(a2.2 b hb).trans e) f0 f1 f3 f4 f5,q⟩
section
variable {κ:Type} [DecidableEq κ]
def Kq (kvs:List (κ × V)) (k:κ):Option V:=(kvs.find? λkv=>decide (kv.1=k)).map (·.2)
def K9 (kvs:List (κ × V)) (k:κ) (v:V):List (κ × V):=
 if (kvs.any λkv=>decide (kv.1=k))=zi then kvs.map (λkv=>if kv.1=k then (kv.1,v) else kv) else kvs ++ [(k,v)]
def Q2t {p:κ × V} {r:List (κ × V)} {k:κ} (e:p.1=k):Kq (p :: r) k=zo p.2:=by simp [Kq,G8,e]
def Q2u {p:κ × V} {r:List (κ × V)} {k:κ} (e:¬ p.1=k):Kq (p :: r) k=Kq r k:=by simp [Kq,G8,e]
theorem Q7n (k:κ):∀ kvs:List (κ × V),(kvs.any λkv=>decide (kv.1=k))=(Kq kvs k).isSome
 | []=>rfl
 | p :: r=>by
  rw [dL]
  by_cases e:p.1=k
  ·simp only [Q2t e,ba e,Bool.true_or,gU]
  ·rw [Q2u e,bZ e,Bool.false_or]; exact Q7n k r
def ju (kvs:List (κ × V)) (k:κ) (v:V):(K9 kvs k v).length<=kvs.length + 1:=by
 unfold K9
 split
 ·rw [O3]; omega
 ·rw [D4,E7,cH]; omega
def RelO.isSome_eq {o:Option V} {u:Option aA} (r:RelO o u):o.isSome=u.isSome:=by
 cases o with
 | none=>cases u with
  | none=>rfl
  | some _=>exact (show False from r).elim
 | some _=>cases u with
  | none=>exact (show False from r).elim
  | some _=>rfl
def KV.val {kvs:List (κ × V)} {vs:List (κ × aA)} (r:KV kvs vs) (k:κ):RelO (Kq kvs k) (af vs k):=by
 unfold KV at r
 induction r with
 | nil=>exact True.intro
 | @cons p q ps B h t I=>
  obtain ⟨h1,h2⟩:=h
  by_cases e:p.1=k
  ·have G:q.1=k:=h1.symm.trans e;have b:af (q :: B) k=zo q.2:=by simp [af,G8,G]
   rw [Q2t e,b]; exact h2
  ·have G:¬ q.1=k:=λz=>e (h1.trans z)
   have b:af (q :: B) k=af B k:=by simp [af,G8,G]
   rw [Q2u e,b]; exact I
def KV.any {kvs:List (κ × V)} {vs:List (κ × aA)} (r:KV kvs vs) (k:κ):(kvs.any λkv=>decide (kv.1=k))=vs.any λkv=>decide (kv.1=k):=by
 unfold KV at r
 induction r with
 | nil=>rfl
 | cons h t q=>rw [dL,dL,q,h.1]
def KV.repl {kvs:List (κ × V)} {vs:List (κ × aA)} (r:KV kvs vs) (k:κ) (B:RelV y u) :
  KV (kvs.map λkv=>if kv.1=k then (kv.1,y) else kv) (vs.map λkv=>if kv.1=k then (kv.1,u) else kv):=by
 unfold KV at r ⊢
 induction r with
 | nil=>exact .nil
 | @cons p q ps I h t G=>
  rw [O5,O5];refine .cons ?_ G;obtain ⟨h1,h2⟩:=h
  by_cases e:p.1=k
  ·rw [bX e,bX (h1.symm.trans e)]; exact ⟨h1,B⟩
  ·rw [bY e,bY (λz=>e (h1.trans z))]; exact ⟨h1,h2⟩
def KV.put {kvs:List (κ × V)} {vs:List (κ × aA)} (r:KV kvs vs) (k:κ) (q:RelV y u):KV (K9 kvs k y) (stored vs k u):=by
 unfold K9 stored;rw [r.any k]
 by_cases e:(vs.any λkv=>decide (kv.1=k))=zi
 ·rw [bX e,bX e]; exact r.repl k q
 ·rw [bY e,bY e]; exact Paired.snoc r ⟨rfl,q⟩
def KV.length {kvs:List (κ × V)} {vs:List (κ × aA)} (r:KV kvs vs):kvs.length=vs.length:=Paired.length r
end
def Q45 {P:aL} {w:aK} {k:Key} (r:RelV (kV k) u):(Jy P w).is k u=zi:=by
 cases k with
 | inl i=>obtain ⟨t,e⟩:=(show ∃ t,u=dD i t from r); subst e; exact Q8n P w i t
 | inr x=>obtain ⟨t,e⟩:=(show ∃ t,u=df x t from r); subst e; exact Q8m P w x t
theorem Q5x {P:aL} {w:aK}:∀ {ks:List Key} {us:List aA},Vals (ks.map kV) us->ItemsAre (Jy P w) ks us
 | [],_,r=>by rw [bz] at r; cases r; exact .nil
 | k :: ks,_,r=>by
  rw [O5] at r;cases r with
  | cons h t=>exact .cons (Q45 h) (Q5x t)
abbrev KT (H:Hp):List (List Key × V)->List (List Key × aB × aA)->Prop:=aY λp q=>p.1=q.1/\H q.2.1=zo (.tup (p.1.map kV))/\RelV p.2 q.2.2
def KT.val {kvs:List (List Key × V)} (r:KT H kvs xs) (k:List Key):RelO (Kq kvs k) ((atKey xs k).map (·.2)):=by
 induction r with
 | nil=>exact True.intro
 | @cons p q ps B h t I=>
  obtain ⟨h1,_,h2⟩:=h
  by_cases e:p.1=k
  ·have G:q.1=k:=h1.symm.trans e;have b:atKey (q :: B) k=zo q.2:=by simp [atKey,G8,G]
   rw [Q2t e,b]; exact h2
  ·have G:¬ q.1=k:=λz=>e (h1.trans z)
   have b:atKey (q :: B) k=atKey B k:=by simp [atKey,G8,G]
   rw [Q2u e,b]; exact I
def KT.repl {kvs:List (List Key × V)} (r:KT H kvs xs) (k:List Key) (B:RelV y u) :
  KT H (kvs.map λkv=>if kv.1=k then (kv.1,y) else kv) (xs.map (putAt k u)):=by
 induction r with
 | nil=>exact .nil
 | @cons p q ps J h t G=>
  rw [O5,O5];refine .cons ?_ G;obtain ⟨h1,h2,I⟩:=h;unfold putAt
  by_cases e:p.1=k
  ·rw [bX e,bX (h1.symm.trans e)]; exact ⟨h1,h2,B⟩
  ·rw [bY e,bY (λz=>e (h1.trans z))]; exact ⟨h1,h2,I⟩
def KT.put {kvs:List (List Key × V)} (r:KT H kvs xs) (k:List Key) {b:aB} (G:H b=zo (.tup (k.map kV))) (B:RelV y u) :
  KT H (K9 kvs k y) (storedH xs k b u):=by
 have e:(kvs.any λkv=>decide (kv.1=k))=(atKey xs k).isSome:=by
  rw [Q7n,(r.val k).isSome_eq,fG]
 unfold K9 storedH;rw [e]
 by_cases q:(atKey xs k).isSome=zi
 ·rw [bX q,bX q]; exact r.repl k B
 ·rw [bY q,bY q]; exact Paired.snoc r ⟨rfl,G,B⟩
def KT.keeps {kvs:List (List Key × V)} (r:KT H kvs xs) (q:∀ b ys,H b=zo (.tup ys)->H' b=zo (.tup ys)):KT H' kvs xs:=
 Paired.mapP r λ_ _ z=>⟨z.1,q _ _ z.2.1,z.2.2⟩
variable {P:aL} {H:Hp} {h:Heap} {a:aB}
section
variable {w:aK}
def Qnv {u:HO} (ok:HOk P w H h) (e:Rd H a u):ObjOk P w H h a u:=e.ok ok
def Q1n {kvs:List (Key × V)} (ok:HOk P w H h) (e:Rd H a (.dK kvs)):kvs.length<=sizeLine/\(a == av)=zb/\∃ vs,KV kvs vs/\h.DictOf (Jy P w) a vs:=
 show ObjOk P w H h a (.dK kvs) from Qnv ok e
def Q9e {kvs:List (Key × V)} (ok:HOk P w H h) (e:H a=zo (.dK kvs)):kvs.length<=sizeLine/\(a == av)=zb/\∃ vs,KV kvs vs/\h.DictOf (Jy P w) a vs:=Q1n ok (.inl e)
def Q44 {ks:List Key} (ok:HOk P w H h) (e:H a=zo (.tup (ks.map kV))):(tupleKind (Jy P w)).is h ks a:=by
 obtain ⟨_,its,r,o,h1,h2,n,q⟩:=(show ObjOk P w H h a (.tup (ks.map kV)) from ok a _ e);exact ⟨o,its.toArray,n,h1,h2,q,by simpa using Q5x r⟩
def Q9d {kvs:List (List Key × V)} (ok:HOk P w H h) (e:Rd H a (.dT kvs)):kvs.length<=sizeLine/\(a == av)=zb /\
  ∃ xs,KT H kvs xs/\h.DictOfH (tupleKind (Jy P w)) a xs:=by
 obtain ⟨z,y,xs,r,o,es,ep,h1,h2,U,J,I⟩:=(show ObjOk P w H h a (.dT kvs) from Qnv ok e);refine ⟨z,y,xs,r,o,es,ep,h1,h2,U,J,λx B=>?_,I⟩;have all:∀ {l:List (List Key × V)} {m:List (List Key × aB × aA)},KT H l m->∀ x∈m,(tupleKind (Jy P w)).is h x.1 x.2.1:=by
  intro l m q
  induction q with
  | nil=>intro x B; exact nomatch B
  | @cons p q ps Y G t O=>
   intro x B;rcases D3.mp B with e | B
   ·subst e;exact Q44 ok (by rw [<- G.1]; exact G.2.1)
   ·exact O x B
 exact all r x B
def Qwj {kvs:List (List Key × V)} (ok:HOk P w H h) (e:H a=zo (.dT kvs)):kvs.length<=sizeLine/\(a == av)=zb /\
  ∃ xs,KT H kvs xs/\h.DictOfH (tupleKind (Jy P w)) a xs:=Q9d ok (.inl e)
end
def DGet (H:Hp) (a:aB) (y:V) (r:Option V):Prop:=
 (∃ kvs k,Rd H a (.dK kvs)/\y=kV k/\r=Kq kvs k)\/∃ kvs k b,Rd H a (.dT kvs)/\y=.ref b/\H b=zo (.tup (k.map kV))/\r=Kq kvs k
def DPut (H:Hp) (a:aB) (y v:V) (H':Hp):Prop:=
 (∃ kvs k,H a=zo (.dK kvs)/\y=kV k/\kvs.length < sizeLine/\H'=upd H a (.dK (K9 kvs k v))) \/
 ∃ kvs k b,H a=zo (.dT kvs)/\y=.ref b/\H b=zo (.tup (k.map kV))/\kvs.length < sizeLine/\H'=upd H a (.dT (K9 kvs k v))
def DPut.k {H:Hp} {a:aB} {kvs:List (Key × V)} {k:Key} {v:V} (e:H a=zo (.dK kvs)) (hl:kvs.length < sizeLine):DPut H a (kV k) v (upd H a (.dK (K9 kvs k v))):=.inl ⟨kvs,k,e,rfl,hl,rfl⟩
variable {pins:zAC} {σ:St} {y v:V} {u r:aA} {o:Option V} {E:zAF}
def Inv.big (I:Inv X pins σ H s):av < s.heap.objs.size:=by
 have h:aV < s.heap.objs.size:=(I.mod.glob.keeps I.bk).lt;exact gW (by decide) h
def Qep (hu:A.units + 1 < aX) (I:Inv X pins σ H s) (g:DGet H a y (zo v)) (Z:RelV y u) (h:∀ G s',Inv X pins σ H s'->RelV v G->Q G s') :
  aF (aI X.prog X.w) A (getItem (.ref a) u) Q E s:=by
 rcases g with ⟨kvs,k,e,Y,l⟩ | ⟨kvs,k,b,e,Y,eb,l⟩
 ·subst Y;obtain ⟨z,hd,vs,B,U⟩:=Q1n I.hok e;obtain ⟨G,J,q⟩:=RelO.some_of (v:=v) (o:=af vs k) (by rw [l]; exact B.val k);exact wpAny_getItem_of (Q45 Z) U.mapOf J (h G _ (I.tok _) q)
 ·subst Y;cases (show u=bj b from Z);obtain ⟨z,hd,xs,B,U⟩:=Q9d I.hok e;obtain ⟨G,J,q⟩:=RelO.some_of (v:=v) (o:=(atKey xs k).map (·.2)) (by rw [l]; exact B.val k);obtain ⟨p,hp,O⟩:=Option.map_eq_some_iff.mp J;refine wpAny_getItem_heap (bV hu) (Q44 I.hok eb) U hp ?_;rw [O];exact h G _ (I.tok _) q
def Qyn (Y:A.units + 1 < aX) (I:Inv X pins σ H s) (g:DGet H a y o) (O:RelV y u) (h:∀ s',Inv X pins σ H s'->Q (.bool o.isSome) s') :
  aF (aI X.prog X.w) A (aU .In u (.ref a)) Q E s:=by
 rcases g with ⟨kvs,k,e,J,l⟩ | ⟨kvs,k,b,e,J,U,l⟩
 ·subst J;obtain ⟨z,hd,vs,B,G⟩:=Q1n I.hok e;refine wpAny_in_of (Q45 O) hd G.mapOf ?_;rw [<- (B.val k).isSome_eq,<- l];exact h _ (I.tok _)
 ·subst J;cases (show u=bj b from O);obtain ⟨z,hd,xs,B,G⟩:=Q9d I.hok e;refine wpAny_in_heap (bV Y) (Q44 I.hok U) hd G ?_;have q:=(B.val k).isSome_eq;rw [fG] at q;rw [<- q,<- l];exact h _ (I.tok _)
def Qng (Y:A.units + 1 < aX) (I:Inv X pins σ H s) (g:DGet H a y o) (O:RelV y u) (h:∀ s',Inv X pins σ H s'->Q (.bool (!o.isSome)) s') :
  aF (aI X.prog X.w) A (aU .NotIn u (.ref a)) Q E s:=by
 rcases g with ⟨kvs,k,e,J,l⟩ | ⟨kvs,k,b,e,J,U,l⟩
 ·subst J;obtain ⟨z,hd,vs,B,G⟩:=Q1n I.hok e;refine wpAny_notIn_of (Q45 O) hd G.mapOf ?_;rw [<- (B.val k).isSome_eq,<- l];exact h _ (I.tok _)
 ·subst J;cases (show u=bj b from O);obtain ⟨z,hd,xs,B,G⟩:=Q9d I.hok e;refine wpAny_notIn_heap (bV Y) (Q44 I.hok U) hd G ?_;have q:=(B.val k).isSome_eq;rw [fG] at q;rw [<- q,<- l];exact h _ (I.tok _)
def Q2h {t':Nat} {ob:HO} (I:Inv X pins σ H s) (J:Mut (H a)) (hs:Heap.SameBut a s.heap h') (B:∃ q,h'.get? a=zo q) (new:ObjOk X.prog X.w (upd H a ob) h' a ob) :
  Inv X pins σ (upd H a ob) { s with heap:=h',toks:=t' }:=
 I.write (x:=a) (e:=a) J (.inl rfl) (λb q G z=>(hs.2 b G).trans z) B new
def Q79 {w:aK} {H':Hp} {kvs:List (Key × V)} {vs:List (Key × aA)} (z:kvs.length<=sizeLine) (hd:(a == av)=zb) (q:KV kvs vs) (B:h'.DictOf (Jy P w) a vs) :
  ObjOk P w H' h' a (.dK kvs):=⟨z,hd,vs,q,B⟩
def Qen {Q:Unit->aC->Prop} (hu:A.units + 1 < aX) (I:Inv X pins σ H s) (g:DPut H a y v H') (ry:RelV y u) (rv:RelV v r) (h:∀ s',Inv X pins σ H' s'->Q PUnit.unit s') :
  aF (aI X.prog X.w) A (setItem (.ref a) u r) Q E s:=by
 rcases g with ⟨kvs,k,e,Y,l,O⟩ | ⟨kvs,k,b,e,Y,Z,l,O⟩
 ·subst Y O;obtain ⟨z,hd,vs,B,U⟩:=Q9e I.hok e;have hz:vs.length<=sizeLine:=by rw [<- B.length]; exact z
  have hl:(K9 kvs k v).length<=sizeLine:=by have:=ju kvs k v; omega
  refine wpAny_setItem_pairs (hsz:=hz) (Q45 ry) U λh' G hs=>h _ ?_
  have he:∃ q,h'.get? a=zo q:=let ⟨q,_,_,J,_⟩:=G; ⟨q,J⟩;exact Q2h I (by rw [e]; exact True.intro) hs he (Q79 hl hd (B.put k rv) G)
 ·subst Y O;cases (show u=bj b from ry);obtain ⟨z,hd,xs,B,U⟩:=Qwj I.hok e;have hz:xs.length<=sizeLine:=by rw [<- Paired.length B]; exact z
  have hl:(K9 kvs k v).length<=sizeLine:=by have:=ju kvs k v; omega
  refine wpAny_setItem_heap (hsz:=hz) (bV hu) (Q44 I.hok Z) U λh' G hs=>h _ ?_
  obtain ⟨q,es,ep,J,h2,h3,h4,_,h5⟩:=G;refine Q2h I (by rw [e]; exact True.intro) hs ⟨q,J⟩ ⟨hl,hd,_,(B.put k Z rv).keeps λc ys ec=>?_,q,es,ep,J,h2,h3,h4,h5⟩;rw [Q6 (Qvp ec e (λz=>nomatch z))];exact ec
variable {kvs:List (Key × V)}
section
variable {k:Key}
def Qnh (I:Inv X pins σ H s) (e:H a=zo (.dK kvs)) (h:∀ s',Inv X pins σ (upd H a (.dK [])) s'->Q .none s'):aF (aI X.prog X.w) A (call (.builtin "dict.clear") [.ref a]) Q E s:=by
 obtain ⟨z,hd,vs,G,J⟩:=Q9e I.hok e;refine call_meetsIn gX J.typeIs PySem.F.entry_dict_clear (PySem.F.args_dict_clear_1 _) (meets_dict_clear (Jy X.prog X.w) a) ⟨vs,J,by rw [<- G.length]; exact z,λh' B hs=>h _ ?_⟩;have O:∃ q,h'.get? a=zo q:=let ⟨q,_,_,U,_⟩:=B; ⟨q,U⟩;exact Q2h (t':=s.toks) I (by rw [e]; exact True.intro) hs O (Q79 (L5 _) hd .nil B)
def Qwk (I:Inv X pins σ H s) (e:Rd H a (.dK kvs)) (h:∀ t s',Inv X pins σ H s'->Q (.int kvs.length t) s'):aF (aI X.prog X.w) A (call (.builtin "len") [.ref a]) Q E s:=by
 obtain ⟨z,hd,vs,q,B⟩:=Q1n I.hok e;refine call_len_dict hd B (by rw [<- q.length]; rw [sizeLine_eq] at z; omega) ?_;rw [<- q.length];exact h _ _ (I.tok _)
end
def Qt6 (i:aH):Prop:=∀ ov iv,subscripted i zb ov iv=operate [ov,iv] (getItem ov iv)
def Qjm {prog:aL} {w:aK} {A:aP} {E:zAF} {s:aC} {env:Env} {value q:aH} {pos:Pos} {T id:String} {Q:zAF}
  (hl:typeLookup (.type T) "__getitem__" = pure (zo (.builtin id))) (hs:Qt6 q)
  (h:aF (aI prog w) A (aO value env) (λo I=>aF (aI prog w) A (aO q env) (λi B=>B.TypeIs o T/\aF (aI prog w) A (getItem o i) Q E B) E I) E s) :
  aF (aI prog w) A (aO (.Subscript value q pos) env) Q E s:=by
 refine Subscript_ (ay h (λo I O=>ay O (λi B G=>?_) λ_ _ x=>x) λ_ _ x=>x)
 obtain ⟨Y,G⟩:=G;unfold subscriptTail;refine aD ?_;rw [getitemInPython_of_ne Y.not_modules];refine aD (wpAny_specialOf Y hl ?_);have fin:aF (aI prog w) A (subscripted q zb o i) (λr J=>aF (aI prog w) A (letTemporaryGo value o r >>= λ_=>pure r) Q E J) E B:=by
  rw [hs o i];exact wpAny_operating (ay G (λr J U=>aD (wpAny_letTemporaryGo (aJ U))) λ_ _ x=>x)
 first
  | exact aJ (aD fin)
  | exact aD (aJ (aD fin))
  | exact aD fin
def Q9g (I:Inv X pins σ H s) (g:DGet H a y o):s.TypeIs (.ref a) "dict" := by
 rcases g with ⟨kvs,k,e,_,_⟩ | ⟨kvs,k,b,e,_,_,_⟩
 ·obtain ⟨_,_,vs,_,q⟩:=Q1n I.hok e;exact q.typeIs
 ·obtain ⟨_,_,xs,_,q⟩:=Q9d I.hok e;exact q.typeIs
def Qu5 (td ty:TE):TE:=λσ H Q=>td σ H λx H1=>ty σ H1 λy H2=>∃ a v,x=.ref a/\DGet H2 a y (zo v)/\Q v H2
def Qug (td ty tv:TE):TS:=λD σ H=>tv σ H λv H1=>td σ H1 λx H2=>ty σ H2 λy H3=>∃ a H4,x=.ref a/\DPut H3 a y v H4/\D.nx σ H4
variable {e value:aH} {pos pos' tpos:Pos} {td ty tv:TE}
section
variable {o i:aH}
def Qma (hu:X.A.units + 1 < aX) (Y:PE X o td) (hi:PE X i ty) (hs:Qt6 i):PE X (.Subscript o i pos) (Qu5 td ty):=by
 intro pins s σ H Q I h;refine Qjm PySem.F.slot_dict_getitem.lookup hs (thn (Y pins s σ H _ I h) λu s1 ⟨x,H1,I1,Z,G⟩=>thn (hi pins s1 σ H1 _ I1 G) λiv s2 ⟨y,H2,B,O,a,v,ex,g,J⟩=>?_)
 subst ex;obtain rfl:u=bj a:=Z;exact ⟨Q9g B g,Qep hu B g O λw' s3 U q=>⟨v,H2,U,q,J⟩⟩
def Qkw (hu:X.A.units + 1 < aX) (G:PE X o td) (hi:PE X i ty) (q:PE X value tv) (hs:swapsWith value (zo (.Subscript o i pos')) pos.line X.env=pure zb) :
  PS X (.Assign [.Subscript o i pos'] value pos) (Qug td ty tv):=by
 intro pins s σ H D I h;refine wpAny_Assign_Subscript (thn (q pins s σ H _ I h) λr s1 ⟨v,H1,I1,Z,J⟩=>thn (G pins s1 σ H1 _ I1 J) λu s2 ⟨x,H2,Y,rx,q2⟩=>thn (hi pins s2 σ H2 _ Y q2) λiv s3 ⟨y,H3,U,O,a,B,ex,g,q3⟩=>?_) hs
 subst ex;obtain rfl:u=bj a:=rx;exact Qen hu U g O Z λs4 I4=>⟨σ,B,I4,q3⟩
end
def Q9f {w:aK} (h:Heap) (q:av < h.objs.size):ObjOk P w H (h.push { cls:=.type "dict",data:=.dict #[] }) h.objs.size (.dK []):=
 ⟨L5 _,beq_eq_false_iff_ne.mpr (Ne.symm (D9 q)),[],.nil,Heap.DictOf.new h⟩
def Qp8:TE:=λ_ H Q=>∀ p,H p=zl->Q (.ref p) (upd H p (.dK []))
def Qh0:PE X (.Dict [] [] pos) Qp8:=λpins s σ H Q I h=>
 wpAny_Dict_empty ⟨.ref s.heap.objs.size,_,I.laid (a:=s.heap.objs.size) (o:=.dK []) (t':=s.toks) (λ_ _ q=>O1 _ q) (O6 _) (Q9f s.heap I.big),rfl,h _ (I.hok.fresh (O6 _))⟩
def Qa0:List (TE × TE)->St->Hp->(List (V × V)->Hp->Prop)->Prop
 | [],_,H,Q=>Q [] H
 | (tk,tv) :: r,σ,H,Q=>tk σ H λx H1=>tv σ H1 λy H2=>Qa0 r σ H2 λps H3=>Q ((x,y) :: ps) H3
abbrev VV:List (V × V)->List (aA × aA)->Prop:=aY λp q=>RelV p.1 q.1/\RelV p.2 q.2
def PPs (X:Cx) (pos:Pos) (keys:List (Option aH)) (values:List aH) (trs:List (TE × TE)):Prop:=
 ∀ (pins:zAC) (s:aC) (σ:St) (H:Hp) (Q:List (V × V)->Hp->Prop),Inv X pins σ H s->Qa0 trs σ H Q ->
  aF (aI X.prog X.w) X.A (evalPairs (pairTrees keys values X.env pos)) (λvs s'=>∃ ps H',Inv X pins σ H' s'/\VV ps vs/\Q ps H') X.xe s
def Qky :PPs X pos [] [] []:=λpins s σ H Q I h=>pairTrees_nil_walk ⟨[],H,I,.nil,h⟩
def Qgs {k v:aH} {ks:List (Option aH)} {vs:List aH} {G:TE} {q:List (TE × TE)} (hk:PE X k G) (J:PE X v tv) (Z:PPs X pos ks vs q) :
  PPs X pos (zo k :: ks) (v :: vs) ((G,tv) :: q):=λpins s σ H Q I h=>
 pairTrees_cons_walk (thn (hk pins s σ H _ I h) λu s1 ⟨x,H1,I1,rx,U⟩=>thn (J pins s1 σ H1 _ I1 U) λw2 s2 ⟨y,H2,I2,Y,q2⟩=>
  thn (Z pins s2 σ H2 _ I2 q2) λws s3 ⟨ps,O,I3,B,q3⟩=>⟨(x,y) :: ps,O,I3,.cons ⟨rx,Y⟩ B,q3⟩)
def U4 (kvs more:List (Key × V)):List (Key × V):=more.foldl (λacc kv=>K9 acc kv.1 kv.2) kvs
def KV.merge:∀ {more:List (Key × V)} {rs:List (Key × aA)} {kvs:List (Key × V)} {vs:List (Key × aA)},KV more rs->KV kvs vs->KV (U4 kvs more) (merged vs rs):=by
 intro more rs kvs vs r;unfold KV at r
 induction r generalizing kvs vs with
 | nil=>intro q; exact q
 | @cons p q ps I h t B=>
  intro G;have e:KV (K9 kvs p.1 p.2) (stored vs q.1 q.2):=by
   have:=G.put p.1 h.2;rw [<- h.1]; exact this
  exact B e
theorem y6:∀ (more kvs:List (Key × V)),(U4 kvs more).length<=kvs.length + more.length
 | [],kvs=>by show kvs.length<=kvs.length + 0; omega
 | p :: r,kvs=>by
  have h1:=y6 r (K9 kvs p.1 p.2);have h2:=ju kvs p.1 p.2;show (U4 (K9 kvs p.1 p.2) r).length<=_;rw [E7]; omega
theorem Q4i {P:aL} {w:aK}:∀ {kvs:List (Key × V)} {B:List (aA × aA)},VV (kvs.map λkv=>(kV kv.1,kv.2)) B->∃ rs,Carries (Jy P w) B rs/\KV kvs rs
 | [],_,r=>by rw [bz] at r; cases r; exact ⟨[],True.intro,.nil⟩
 | p :: kvs,_,r=>by
  rw [O5] at r;cases r with
  | @cons a b I bs h t=>
   obtain ⟨rs,c,q⟩:=Q4i (P:=P) (w:=w) t;obtain ⟨J,G⟩:=b;exact ⟨(p.1,G) :: rs,⟨Q45 h.1,rfl,c⟩,.cons ⟨rfl,h.2⟩ q⟩
def Qu4 (trs:List (TE × TE)):TE:=λσ H Q=>∀ p,H p=zl->Qa0 trs σ (upd H p (.dK [])) λps H2=>H2 p=zo (.dK [])/\∃ kvs:List (Key × V),ps=kvs.map (λkv=>(kV kv.1,kv.2))/\kvs.length<=15/\Q (.ref p) (upd H2 p (.dK (U4 [] kvs)))
def Qm9 {B:List (Option aH)} {G:List aH} {U:List (TE × TE)} (h:PPs X pos B G U) (J:B.all (·.isSome)=zi) (hl:B.length=G.length) (h0:B≠[])
  (Y:B.length<=15):PE X (.Dict B G pos) (Qu4 U):=by
 intro pins s σ H Q I q;have hn:=I.hok.fresh (O6 s.heap.objs.size);have I1:=I.laid (a:=s.heap.objs.size) (o:=.dK []) (h':=s.heap.push { cls:=.type "dict",data:=.dict #[] }) (t':=s.toks) (λ_ _ q=>O1 _ q) (O6 _) (Q9f s.heap I.big);refine wpAny_Dict_walk (knd:=Jy X.prog X.w) J hl h0 Y (thn (h pins _ σ _ _ I1 (q _ hn)) λws s2 ⟨ps,H2,I2,Z,e,kvs,ep,lk,q2⟩=>?_)
 subst ep;obtain ⟨rs,c,rk⟩:=Q4i (P:=X.prog) (w:=X.w) Z;obtain ⟨z,hd,a1,r0,dd⟩:=Q9e I2.hok e;cases r0;refine ⟨rs,c,dd,λh' O hs=>⟨.ref s.heap.objs.size,_,?_,rfl,q2⟩⟩
 have hz:(U4 [] kvs).length<=sizeLine:=by
  have h1:=y6 kvs [];rw [cH] at h1;rw [sizeLine_eq]; omega
 have he:∃ q,h'.get? s.heap.objs.size=zo q:=let ⟨q,_,_,hq,_⟩:=O; ⟨q,hq⟩;exact Q2h I2 (by rw [e]; exact True.intro) hs he (Q79 hz hd (rk.merge .nil) O)
structure M1 (X:Cx) (o:aH) (m:Str) (apos:Pos) (e:aH) (cpos:Pos):Prop where
 base:bF o m X.env (aO o X.env)=aO o X.env
 few:((ag cpos (aQ [e] X.env)).all (λx=>!x.1) && (backToKw cpos (keywordEach [] X.env)).all (λx=>x.1.isSome)
  && decide (([e]:List aH).length + ([]:List Keyword).length + (if ([]:List Keyword).isEmpty then 0 else 1) < 30))=zi
 line:(apos.endLine == cpos.line)=zi
 trees:ag cpos (aQ [e] X.env)=[(zb,aO e X.env)]
structure M2 (X:Cx) (o:aH) (m:Str) (apos:Pos) (e f:aH) (cpos:Pos):Prop where
 base:bF o m X.env (aO o X.env)=aO o X.env
 few:((ag cpos (aQ [e,f] X.env)).all (λx=>!x.1) && (backToKw cpos (keywordEach [] X.env)).all (λx=>x.1.isSome)
  && decide (([e,f]:List aH).length + ([]:List Keyword).length + (if ([]:List Keyword).isEmpty then 0 else 1) < 30))=zi
 line:(apos.endLine == cpos.line)=zi
 trees:ag cpos (aQ [e,f] X.env)=[(zb,aO e X.env),(zb,aO f X.env)]
section
open AutoSeq1 (wpAny_loadPart')
end
def Q8k:typeLookup (.type "list") "keys" = pure zl:=am_miss_of_fast (by decide +kernel)
def Q56 {prog:aL} {w:aK} {A:aP} {E:zAF} {s:aC} {a:aB} {xs:Array aA} {k:Nat} {sl:Array (Option aA)} {Q:Option aA->aC->Prop}
  (J:s.heap.get? a=zo { cls:=.type "list",dict:=zl,data:=.seq xs k,slots:=sl }) (Y:A.handled=zl)
  (h:∀ h' I,(∀ b o,s.heap.get? b=zo o->h'.get? b=zo o)->Q zl { s with heap:=h',toks:=I }) :
  aF (aI prog w) A (getAttr? (.ref a) "keys") Q E s:=by
 obtain ⟨U,g,d,I,os⟩:=s;have O:∀ G,(⟨U,g,d,G,os⟩:aC).TypeIs (.ref a) "list" := λ_=>⟨_,J,rfl⟩
 have f1:=sub_AttributeError;have f3:=F.slot_list_getattribute.lookup;have f4:=F.slot_list_getattribute.bind (.ref a);have Z:=am_list_getattr_none;have q:(["__module__", "__name__", "__qualname__", "__doc__", "__annotations__"]:List Str).contains "keys" = zb:=by decide +kernel
 unfold getAttr? getAttrBy? getAttrBy
 repeat (any_goals (first | assumption | exact O _ | ((with_reducible show aF _ _ (call (Value.builtin "list.__getattribute__") _ _) _ _ _); refine bG F.slot_list_getattribute (O _) am_entry_list_getattribute (F.args_list_getattribute_2 _ _) (meets_getattribute_miss_list a xs k sl "keys" _ Q8k q) ⟨J,Y,λh' G e B=>?_⟩) | wp_step))
 obtain ⟨t',u',he⟩:=B.there;show aF _ _ (getattributeRaised _ _ _ _ _ _ _) _ _ _;unfold getattributeRaised
 repeat (any_goals (first | assumption | wp_step))
 exact h _ _ B.of.keeps
def qr:entryFor table "dict.update.loop" = zo Builtin.«dict.update.loop»:=entryFor_of_tree (by kernel_rfl)
def V2:plainId "dict.update.loop" = zi:=by decide +kernel
def Qbg {prog:aL} {w:aK} {K:Type} [DecidableEq K] (knd:KeyKind prog w K) (h:Heap) (v:aA) (p:K × aA):Prop:=
 ∃ a key,v=.ref a/\knd.is p.1 key=zi/\IsTup h a #[key,p.2]
def Wi {K:Type} [DecidableEq K] (kvs:List (K × aA)):List (K × aA):=kvs.foldl (λacc p=>stored acc p.1 p.2) []
def Q33 [DecidableEq K] (kvs:List (K × aA)) (p:K × aA):Wi (kvs ++ [p])=stored (Wi kvs) p.1 p.2:=by unfold Wi; rw [fH]; rfl
def Qa3 [DecidableEq K] (kvs:List (K × aA)) (k:K) (v:aA):(stored kvs k v).length<=kvs.length + 1:=by
 unfold stored; split <;> simp
def zy [DecidableEq K] (kvs:List (K × aA)):∀ q:List (K × aA),(kvs.foldl (λq p=>stored q p.1 p.2) q).length<=q.length + kvs.length:=by
 induction kvs with
 | nil=>intro q; simp
 | cons p r B=>
  intro q;rw [cV,E7];have:=B (stored q p.1 p.2);have:=Qa3 q p.1 p.2;omega
section
variable {prog:aL} {w:aK} {K:Type} [DecidableEq K] {knd:KeyKind prog w K} {A:aP} {R:Result->aC->Prop}
def Qek {I l D:aB} {q:Array aA} {kvs:List (K × aA)} {h0:Heap} {B:Nat} (hh:A.handled=zl) (b6:l≠I) (a2:D≠I) (a9:D≠l) (hB:∀ b o,h0.get? b=zo o->b≠I/\b≠D)
  (hn:q.size=kvs.length) (hp:∀ (i:Nat) (v:aA) (p:K × aA),q[i]?=zo v->kvs[i]?=zo p->Qbg knd h0 v p) (hsz:kvs.length<=sizeLine) :
  ∀ (k i:Nat) (s:aC),q.size - i=k->i<=q.size->(s.heap.IsListIter I l i/\s.heap.IsList l q)->(∀ b o,h0.get? b=zo o->s.heap.get? b=zo o)->s.heap.DictOf knd D (Wi (kvs.take i)) ->
   (∀ h' tk,h'.DictOf knd D (Wi kvs)->(∀ b o,h0.get? b=zo o->h'.get? b=zo o)->R (.ok (.ret .none)) { s with heap:=h',toks:=tk }) ->
   codeAny (aI prog w) A (.builtin "dict.update.loop" ⟨[.ref D,.ref I,aS i,.none],[]⟩) R s:=by
 have W:=Walks.list (prog:=prog) (w:=w) (A:=A.in1) (by simpa using hh) I l b6 q;intro k
 induction k with
 | zero=>
  intro i s hk hi a1 G hD hR;have b4:i=q.size:=by omega
  subst b4;refine bK qr ?_;rw [Around.under_plainId V2 _];show aF _ A.in1 (ao (.ref I) >>= _) _ _ s;refine aD (W.done s _ _ a1 λh' tk hm=>?_);show aF _ A.in1 (Builtin.Dict.addKeywords D [] >>= λ_=>ret bi) _ _ _;refine aD (aJ (aJ (hR h' tk ?_ λb o e=>hm b o (λz=>(hB b o e).1 (by simpa using z)) (G b o e))))
  rw [hn,cx] at hD;obtain ⟨o,es,ep,ho,r⟩:=hD;exact ⟨o,es,ep,hm D o (λz=>a2 (by simpa using z)) ho,r⟩
 | succ k ih=>
  intro i s hk hi a1 G hD hR;have a7:i < q.size:=by omega
  refine bK qr ?_;rw [Around.under_plainId V2 _];show aF _ A.in1 (ao (.ref I) >>= _) _ _ s;refine aD (W.item i s _ _ a7 a1 λv h' tk hP Z hm=>?_);have a3:i < kvs.length:=by omega
  obtain ⟨a,a5,rfl,a4,ht⟩:=hp i v kvs[i] hP (O2 a3);have J:∀ b o,h0.get? b=zo o->h'.get? b=zo o:=λb o e=>hm b o (λz=>(hB b o e).1 (by simpa using z)) (G b o e)
  have b5:h'.DictOf knd D (Wi (kvs.take i)):=by
   obtain ⟨o,es,ep,ho,r⟩:=hD;exact ⟨o,es,ep,hm D o (λz=>a2 (by simpa using z)) ho,r⟩
  show aF _ A.in1 (aw [bj a] _ >>= _) _ _ _;refine aD (ak ?_);obtain ⟨ot,b1,b7,nt,b8⟩:=ht;have Y:=J a ot b1;have b0:Shared.TypeIs { s with heap:=h',toks:=tk } (.ref a) "tuple" := ⟨ot,Y,b7⟩;refine aD (wpAny_tryCatch ?_);unfold Builtin.Dict.pairItems;refine aD (bO b0 ?_);rw [bX (by decide)];refine aD (bE Y b8 ?_);refine aJ ?_;show aF _ A.in1 (aw [a5,(kvs[i]).2] (dictSet D a5 (kvs[i]).2)) _ _ _;refine ak (wpAny_dictSet_pairs (knd:=knd) (k:=(kvs[i]).1) a4 b5 (λU a8 O=>?_) ?_)
  ·have b3:∀ b o,h0.get? b=zo o->U.get? b=zo o:=λb o e=>(O.2 b (hB b o e).2).trans (J b o e)
   have a6:U.IsListIter I l (i + 1)/\U.IsList l q:=⟨Z.1.at λo e=>(O.2 I (Ne.symm a2)).trans e,Z.2.at λo e=>(O.2 l (Ne.symm a9)).trans e⟩;have e1:kvs.take (i + 1)=kvs.take i ++ [kvs[i]]:=by rw [dn,O2 a3]; rfl
   have b2:U.DictOf knd D (Wi (kvs.take (i + 1))):=by rw [e1,Q33]; exact a8
   exact aJ ⟨bQ V2 _,ih (i + 1) _ () a7 a6 b3 b2 λh3 t3 d3 k3=>hR h3 t3 d3 k3⟩
  ·have:=zy (kvs.take i) [];have h2:(kvs.take i).length<=kvs.length:=by rw [cU]; omega
   simp only [cH,dN] at this;exact F3 this (F3 h2 hsz)
def Q25 {s:aC} {E:zAF} {l:aB} {q:Array aA} {m:Nat} {sl:Array (Option aA)} {kvs:List (K × aA)} {Q:zAF} (hh:A.handled=zl)
  (hl:s.heap.get? l=zo { cls:=.type "list",dict:=zl,data:=.seq q m,slots:=sl })
  (hn:q.size=kvs.length) (hp:∀ (i:Nat) (v:aA) (p:K × aA),q[i]?=zo v->kvs[i]?=zo p->Qbg knd s.heap v p) (hsz:kvs.length<=sizeLine)
  (h:∀ h' tk,h'.DictOf knd s.heap.objs.size (Wi kvs)->(∀ b o,s.heap.get? b=zo o->h'.get? b=zo o)->Q (.ref s.heap.objs.size) { s with heap:=h',toks:=tk }) :
  aF (aI prog w) A (call (.type "dict") [.ref l]) Q E s:=by
 refine callType_codes (Q₁:=λobj O=>obj=.ref s.heap.objs.size/\O={ s with heap:=s.heap.push { cls:=.type "dict",data:=.dict #[] } }) F.kt_called_dict (F.kt_typeCall_dict_1 _) F.entry_dict_init (kt_code_dict_new _ ⟨rfl,rfl⟩) ?_;rintro obj O ⟨rfl,rfl⟩;have J:(s.heap.push { cls:=.type "dict",data:=.dict #[] }).DictOf knd s.heap.objs.size []:=Heap.DictOf.new s.heap;refine ⟨J.typeIs,F.args_dict_init_2 _ _,?_⟩;have U:(s.heap.push { cls:=.type "dict",data:=.dict #[] }).get? l=zo { cls:=.type "list",dict:=zl,data:=.seq q m,slots:=sl }:=O1 _ hl;unfold Builtin.«dict.__init__»;refine aD ?_;unfold Builtin.Dict.selfAndRest;refine aD (wpAny_notOrdered_dict J.typeIs ?_);show aF _ _ (pure (s.heap.objs.size,[bj l])) _ _ _;refine aJ ?_;show aF _ _ (Builtin.Dict.updateFrom "dict.__init__" s.heap.objs.size (.ref l) [] .none) _ _ _;unfold Builtin.Dict.updateFrom
 refine aD (bO (T := "list") ⟨_,U,rfl⟩ ?_);rw [bX (by decide)];refine aD (Q56 U (by simpa using hh) λh2 a3 G=>?_)
 rw [bX (by rfl)];have Y:h2.get? l=zo { cls:=.type "list",dict:=zl,data:=.seq q m,slots:=sl }:=G _ _ U;have a2:h2.IsList l q:=⟨_,Y,rfl,m,rfl⟩;have k0:∀ b o,s.heap.get? b=zo o->h2.get? b=zo o:=λb o e=>G b o (O1 _ e)
 have a1:h2.DictOf knd s.heap.objs.size []:=by
  obtain ⟨o,es,ep,ho,r⟩:=J;exact ⟨o,es,ep,G _ _ ho,r⟩
 have Z:s.heap.objs.size < h2.objs.size:=by
  obtain ⟨o,es,ep,ho,r⟩:=a1;exact O9 ho
 refine aD (aD (m:=rule _) (bJ (aJ (aD (wpAny_pyIter_list a2 ?_)))));refine aJ ⟨bQ V2 _,?_⟩;refine Qek (A:=A.in1) (I:=h2.objs.size) (l:=l) (kvs:=kvs) (h0:=s.heap) (B:=0) (knd:=knd) (by simpa using hh) (D9 (O9 Y)) (D9 Z) (L7 (O9 hl))
  (λb o e=>⟨D9 (O9 (k0 b o e)),D9 (O9 e)⟩) hn hp hsz (q.size - 0) 0 _ rfl (L5 _) ⟨⟨_,D2 _ rfl,rfl,rfl⟩,a2.push _⟩ (λb o e=>O1 _ (k0 b o e)) (a1.push _) λh' tk d k=>?_
 exact ⟨rfl,h h' tk d k⟩
end
theorem Q8a {P:aL} {w:aK} {H:Hp} {h:Heap} (ok:HOk P w H h):∀ {kvs:List (Key × V)} {vs:List V} {its:List aA},aY (λ(v:V) (kv:Key × V)=>∃ a,v=.ref a/\H a=zo (.tup [kV kv.1,kv.2])) vs kvs->Vals vs its ->
  ∃ rs:List (Key × aA),KV kvs rs/\its.length=rs.length/\∀ (i:Nat) (u:aA) (r:Key × aA),its[i]?=zo u->rs[i]?=zo r->Qbg (Jy P w) h u r
 | [],_,_,.nil,.nil=>⟨[],.nil,rfl,λi u r e=>by simp at e⟩
 | kv :: kvs,v :: vs,u :: us,.cons ⟨a,Y,O⟩ t,.cons J tu=>by
  obtain ⟨rs,h1,h2,h3⟩:=Q8a ok t tu;subst Y;cases J;obtain ⟨_,Z,q,tp⟩:=ok a _ O;cases q with
  | cons r1 q=>
   cases q with
   | cons U q=>
    cases q;rename_i I val;refine ⟨(kv.1,val) :: rs,.cons ⟨rfl,U⟩ h1,by simp [h2],λi u r B G=>?_⟩
    cases i with
    | zero=>
     simp only [List.getElem?_cons_zero,iN] at B G;subst B; subst G;exact ⟨a,I,rfl,Q45 r1,tp⟩
    | succ i=>
     simp only [dq] at B G;exact h3 i u r B G
def Qb8 (hc:X.calm=zi):V1 X (.type "dict") (λxs H Q=>∃ p vs,∃ kvs:List (Key × V),xs=[.ref p]/\SqL X.K H p vs/\aY (λ(v:V) (kv:Key × V)=>∃ a,v=.ref a/\H a=zo (.tup [kV kv.1,kv.2])) vs kvs /\
  ∀ d,H d=zl->Q (.ref d) (upd H d (.dK (U4 [] kvs)))):=by
 intro pins s σ H xs us Q I r h;obtain ⟨p,vs,kvs,rfl,hq,hp,q⟩:=h;obtain ⟨u,rfl,rx⟩:=Xc r;cases rx;obtain ⟨its,O,pl,hz⟩:=I.list hq;obtain ⟨rs,h1,h2,h3⟩:=Q8a I.hok hp O;obtain ⟨⟨oc,od,U,a1⟩,n,e,hcls,hdict,hdata⟩:=pl;simp only at hcls hdict hdata;subst hcls hdict hdata;have B:rs.length<=sizeLine:=by rw [<- h2,<- O.length]; exact hz
 refine Q25 (knd:=Jy X.prog X.w) (kvs:=rs) (I.ok.hd hc) e (by rw [O8,h2]) (λi v p Z e2=>h3 i v p (by simpa using Z) e2) B λh' Y hd hk=>?_
 have G:KV (U4 [] kvs) (Wi rs):=KV.merge h1 .nil;have J:(U4 [] kvs).length<=sizeLine:=by
  rw [G.length];have:=zy rs [];simp only [cH,dN] at this;exact F3 this B
 exact ⟨.ref s.heap.objs.size,_,I.laid (t':=Y) (o:=.dK (U4 [] kvs)) hk (O6 _) (Q79 J (beq_eq_false_iff_ne.mpr (Ne.symm (D9 I.big))) G hd),rfl,q _ (I.hok.fresh (O6 _))⟩
def Itd (a:aB) (o:Obj) (kvs:List (Key × V)):It:=
 ⟨λi H=>H a=zo (.frz o (.dK kvs))/\i < kvs.length,λi H x H'=>H'=H/\∃ kv,kvs[i]?=zo kv/\x=kV kv.1,λi H=>H a=zo (.frz o (.dK kvs))/\kvs.length<=i⟩
def Qp2 {w:aK} {k:Key} (h:(Jy P w).is k u=zi):RelV (kV k) u:=by
 rcases Zn h with ⟨i,t,rfl,rfl⟩ | ⟨x,t,rfl,rfl⟩
 ·exact ⟨t,rfl⟩
 ·exact ⟨t,rfl⟩
def qh {w:aK} {o:Obj} (ok:HOk P w H h) (e:H a=zo (.frz o (.dK kvs))) (hd:o.data=.dict es ep) :
  (a == av)=zb/\∃ vs,KV kvs vs/\h.DictAt (Jy P w) a vs ep:=by
 obtain ⟨B,_,hs,vs,r,o',G,I,q,h1,h2,J⟩:=ok a _ e;rw [B] at q;cases q;rw [hd] at h2;cases h2;exact ⟨hs,vs,r,o,es,B,h1,hd,J⟩
theorem KV.get:∀ {kvs:List (Key × V)} {vs:List (Key × aA)} {i:Nat} {kv:Key × V},KV kvs vs->kvs[i]?=zo kv->∃ u,vs[i]?=zo (kv.1,u)/\RelV kv.2 u
 | _,_,_,_,.nil,e=>by simp at e
 | kv :: _,q :: _,0,B,.cons ⟨h1,h2⟩ t,e=>by
  simp at e; subst e;exact ⟨q.2,by simp [h1],h2⟩
 | _ :: _,_ :: _,i + 1,B,.cons h t,e=>by
  obtain ⟨u,h1,h2⟩:=KV.get (i:=i) t (by simpa using e);exact ⟨u,by simpa using h1,h2⟩
def Qcz {P:aL} {w:aK} {K:be} {tg:aH} (a it:aB) (o:Obj) (kvs:List (Key × V)) (hd:o.data=.dict es ep) :
  Turn P w K tg (Itd a o kvs) [it] it (λi h=>h.IsKeyIter it a i kvs.length ep) where
 mem:=by simp
 obj:=λi h st b B=>by
  have e:b=it:=by simpa using B
  subst e;obtain ⟨o,e,c,d⟩:=st;exact ⟨o,e,λv z=>by rw [d] at z; cases z⟩
 keep:=λi h h' st k=>by
  obtain ⟨o,e,r⟩:=st;exact ⟨o,k it (by simp) o e,r⟩
 item:=by
  intro X hP hw hK hc i pins s σ H E I J st hg;subst hP hw hK;obtain ⟨O,hl⟩:=hg;obtain ⟨hs,vs,G,da⟩:=qh I.hok O hd;obtain ⟨u,hu,ru⟩:=G.get (O2 hl);obtain ⟨f0,f1,f2,f3,Z,U⟩:=J it (by simp);have q:=G.length;rw [q] at st;refine wpAny_pyNext_dict_item st da hu λY h' hk st' sb=>?_
  rw [<- q] at st';have I1:Inv X pins σ H { s with heap:=h' }:=I.turned (t':=s.toks) (λb o B e=>(sb.2 b B).trans e) f0 f1 f3 Z U
  obtain ⟨o,e,c,d⟩:=id st';exact ⟨Y,rfl,Qcf (s:={ s with heap:=h' }) e c d (by decide) ⟨kV kvs[i].1,H,I1,Qp2 hk,⟨rfl,kvs[i],O2 hl,rfl⟩,st',λb B=>(J b B).1⟩⟩
 done:=by
  intro X hP hw hK hc i pins s σ H E I J st hg;subst hP hw hK;obtain ⟨O,hl⟩:=hg;obtain ⟨hs,vs,G,da⟩:=qh I.hok O hd;obtain ⟨f0,f1,f2,f3,Z,U⟩:=J it (by simp);have q:=G.length;rw [q] at st;exact wpAny_pyNext_dict_end (I.ok.hd hc) st da (by simp; omega) λh' eb=>⟨rfl,I.turned (t':=s.toks) (λb o B e=>eb b o B e) f0 f1 f3 Z U⟩
 self:=λ_ _ _ _ _ st h=>wpAny_pyIter_keyiter st h
variable {tg:aH}
def Qcr (X:Cx) (a:aB):Prop:=∀ o u,X.H₀ a≠zo (.frz o u)
def Inv.noFrz (I:Inv X pins σ H s) (e:H a=zo (.dK kvs)):Qcr X a:=λo u q=>by
 have:=I.base.frzs a o u q;rw [e] at this; cases this
def Inv.thaw {o:Obj} (I:Inv X pins σ H s) (e:H a=zo (.frz o (.dK kvs))) (n:Qcr X a):Inv X pins σ (upd H a (.dK kvs)) s:=by
 have B:∀ b,H b=zl->b≠a:=λb h z=>by rw [z,e] at h; cases h
 refine ⟨I.ok,I.os,I.bare,⟨I.base.keep,I.base.slot,λb o q h J=>?_,I.base.there,λb xs q=>?_,λb o u q=>?_,λb ps q=>?_⟩,I.loc,I.cell,?_,λx c q=>?_,λp G=>?_,λb ob q=>?_,I.len⟩
 ·have:=I.base.free b o q h J;rw [Q6 (B b this)]; exact this
 ·have:=I.base.tups b xs q;rw [Q6 (λz=>by rw [z,e] at this; cases this)]; exact this
 ·have:=I.base.frzs b o u q
  by_cases z:b=a
  ·subst z; exact absurd q (n o u)
  ·rw [Q6 z]; exact this
 ·obtain ⟨more,this⟩:=I.base.tbls b ps q;exact ⟨more,by rw [Q6 (λz=>by rw [z,e] at this; cases this)]; exact this⟩
 ·rw [Q6 (B _ I.free)]; exact I.free
 ·rw [Q6 (B _ (I.freeC x c q))]; exact I.freeC x c q
 ·obtain ⟨h1,h2,O⟩:=I.pin p G;exact ⟨h1,by rw [Q6 (B _ h2)]; exact h2,O⟩
 ·have stay:∀ {ob:HO},ObjOk X.prog X.w H s.heap b ob->ObjOk X.prog X.w (upd H a (.dK kvs)) s.heap b ob:=λh=>h.stay (λ_ _ _ q=>q) (λc q=>by
   rw [Q6 (λz=>by rw [z,e] at q; cases q)]; exact q) λc xs q=>by
   rw [Q6 (λz=>by rw [z,e] at q; cases q)]; exact q
  by_cases z:b=a
  ·subst z;rw [Qm] at q;cases q;exact stay (I.hok b _ e).2
  ·rw [Q6 z] at q;exact stay (I.hok b _ q)
def Qw4 (X:Cx) (tl:TE):TI:=λσ H R=>tl σ H λx H1=>∃ a kvs,x=.ref a/\H1 a=zo (.dK kvs)/\∀ o,Qcr X a->R (Itd a o kvs) (upd H1 a (.frz o (.dK kvs)))
def Qm3 {l:aH} {tl:TE} (hl:PE X l tl):PI X tg l (Qw4 X tl):=by
 intro pins s σ H R I h;refine thn (hl pins s σ H _ I h) λv s1 ⟨x,H1,G,r1,q1⟩=>?_
 obtain ⟨a,kvs,rfl,J,q⟩:=q1;cases r1;obtain ⟨z,hs,vs,rv,Z⟩:=Q9e G.hok J;obtain ⟨ep,B⟩:=Z.dictAt;obtain ⟨o,es,Y,h1,h2,h3⟩:=id B;refine wpAny_pyIter_dict hs B ?_;have O:s1.heap.objs.size≠a:=L7 (O9 Y);have U:H1 s1.heap.objs.size=zl:=G.hok.fresh (O6 _);have keep:∀ b u,s1.heap.get? b=zo u->(s1.heap.push { cls:=.type "dict_keyiterator",data:=.fields #[.ref a,.int 0 0,.int vs.length 0,.int ep 0] }).get? b=zo u:=λb u e=>O1 _ e
 have nt:∀ c xs,H1 c=zo (.tup xs)->c≠a:=λc xs q z=>by rw [z,J] at q; cases q
 refine ⟨s1.heap.objs.size,[s1.heap.objs.size],_,_,upd H1 a (.frz o (.dK kvs)),rfl,G.write (t':=s1.toks) (x:=a) (e:=a) (by rw [J]; trivial) (.inl rfl) (λb u _ e=>keep b u e) ⟨o,keep a o Y⟩ ⟨keep a o Y,z,hs,vs,rv,Z.push _⟩,
  Qcz a _ o kvs h2,⟨_,D2 _ rfl,rfl,by rw [rv.length]; rfl⟩,λb hb=>?_,q o (G.noFrz J)⟩
 have e:b=s1.heap.objs.size:=by simpa using hb
 subst e;exact G.fpOk (O6 _) (by rw [Q6 O]; exact U)
end L2
namespace L2
open PySem PySem.Spec PyProof.Rows PySem.W
variable {p:Array Nat} {n:Nat} {h:Heap} {vs:List aA}
def evT {α:Type} (c:Nat->Nat->Bool):KasT α->α
 | .ret a=>a
 | .ask i j k=>evT c (k (c i j))
theorem Kg {α β:Type} (c:Nat->Nat->Bool) (f:α->KasT β):∀ t:KasT α,evT c (t.bind f)=evT c (f (evT c t))
 | .ret _=>rfl
 | .ask i j k=>Kg c f (k (c i j))
section
variable (r:Nat->Nat)
def rk (p:Array Nat) (i:Nat):Nat:=r (p.getD i 0)
def cR:Nat->Nat->Bool:=λi j=>decide (r i < r j)
variable {r}
def Q82 {q:Array Nat} {i j:Nat} (h:p[i]?=q[j]?):rk r p i=rk r q j:=by
 unfold rk;rw [dO,dO,h]
def Qa9 {i j:Nat} (B:j<=p.size) (k:Nat):rk r (kas_rev p i j) k=if i<=k/\k < j then rk r p (i + j - 1 - k) else rk r p k:=by
 have h:=getElem?_mirror_all (xs:=p) (i:=i) B k
 by_cases q:i<=k/\k < j
 ·rw [bX q] at h ⊢; exact Q82 h
 ·rw [bY q] at h ⊢; exact Q82 h
def Qgb {src d:Nat} (hs:src < p.size) (hd:d<=src) (k:Nat):rk r (bubble p src d) k=if k=src - d then rk r p src else if src - d < k/\k<=src then rk r p (k - 1) else rk r p k:=by
 have h:=getElem?_bubble hs d hd k
 by_cases q:k=src - d
 ·rw [bX q] at h ⊢; exact Q82 h
 ·rw [bY q] at h ⊢
  by_cases B:src - d < k/\k<=src
  ·rw [bX B] at h ⊢; exact Q82 h
  ·rw [bY B] at h ⊢; exact Q82 h
def xn (i j:Nat):(kas_rev p i j).size=p.size:=mirror_size _ _ _ _
def Ve (i j:Nat):(kas_rev p i j).Perm p:=mirror_perm _ _ _ _
theorem Qbd (p:Array Nat):∀ f n,1<=n->n<=evT (cR r) (kas_asc p f n)/\evT (cR r) (kas_asc p f n)<=n + f/\(∀ i,n<=i->i < evT (cR r) (kas_asc p f n)->rk r p (i - 1)<=rk r p i)/\(evT (cR r) (kas_asc p f n) < n + f->rk r p (evT (cR r) (kas_asc p f n)) < rk r p (evT (cR r) (kas_asc p f n) - 1))
 | 0,n,_=>⟨O6 _,O6 _,λi h1 h2=>absurd h2 (by show ¬ i < n; omega),λh=>absurd h (by show ¬ n < n + 0; omega)⟩
 | f + 1,n,J=>by
  have e:evT (cR r) (kas_asc p (f + 1) n)=if rk r p n < rk r p (n - 1) then n else evT (cR r) (kas_asc p f (n + 1)):=by
   show evT (cR r) (if decide (rk r p n < rk r p (n - 1))=zi then KasT.ret n else kas_asc p f (n + 1))=_
   by_cases q:rk r p n < rk r p (n - 1)
   ·rw [bX (by simpa using q),bX q]; rfl
   ·rw [bY (by simpa using q),bY q]
  rw [e]
  by_cases q:rk r p n < rk r p (n - 1)
  ·rw [bX q];exact ⟨O6 _,by omega,λi h1 h2=>by omega,λ_=>q⟩
  ·rw [bY q];obtain ⟨h1,h2,G,B⟩:=Qbd p f (n + 1) ();refine ⟨by omega,by omega,λi I g2=>?_,λg=>B ()⟩
   by_cases z:i=n
   ·subst z; omega
   ·exact G i () g2
def Q3e {i j:Nat} (B:j<=p.size) (h:∀ k,i<=k->k < j->rk r p k=rk r p (j - 1)) (k:Nat):rk r (kas_rev p i j) k=rk r p k:=by
 rw [Qa9 B]
 by_cases q:i<=k/\k < j
 ·rw [bX q,h (i + j - 1 - k) () (),h k q.1 q.2]
 ·rw [bY q]
structure Dsc (r:Nat->Nat) (p:Array Nat) (n q:Nat):Prop where
 n1:1<=n
 sz:n<=p.size
 qn:q + 1<=n
 de:∀ i,1<=i->i < n->rk r p i<=rk r p (i - 1)
 eq:∀ i,n - (q + 1)<=i->i < n->rk r p i=rk r p (n - 1)
theorem Q2g:∀ f (p:Array Nat) n q,Dsc r p n q->n + f<=p.size->Dsc r (evT (cR r) (kas_desc f p n q)).1 (evT (cR r) (kas_desc f p n q)).2.1 (evT (cR r) (kas_desc f p n q)).2.2/\(evT (cR r) (kas_desc f p n q)).1.Perm p/\n<=(evT (cR r) (kas_desc f p n q)).2.1/\(evT (cR r) (kas_desc f p n q)).2.1<=n + f
 | 0,p,n,q,h,_=>⟨h,dP _,O6 _,O6 _⟩
 | f + 1,p,n,q,h,hs=>by
  have e:evT (cR r) (kas_desc (f + 1) p n q)=if rk r p n < rk r p (n - 1) then (if q > 0 then evT (cR r) (kas_desc f (kas_rev p (n - (q + 1)) n) (n + 1) 0) else evT (cR r) (kas_desc f p (n + 1) 0)) else if rk r p (n - 1) < rk r p n then (p,n,q) else evT (cR r) (kas_desc f p (n + 1) (q + 1)):=by
   show evT (cR r) (if decide (rk r p n < rk r p (n - 1))=zi then (if q > 0 then kas_desc f (kas_rev p (n - (q + 1)) n) (n + 1) 0 else kas_desc f p (n + 1) 0) else KasT.ask (p.getD (n - 1) 0) (p.getD n 0) λd=>if d=zi then .ret (p,n,q) else kas_desc f p (n + 1) (q + 1))=_
   by_cases z:rk r p n < rk r p (n - 1)
   ·rw [bX (by simpa using z),bX z]
    split <;> rfl
   ·rw [bY (by simpa using z),bY z];show evT (cR r) (if decide (rk r p (n - 1) < rk r p n)=zi then KasT.ret (p,n,q) else kas_desc f p (n + 1) (q + 1))=_
    by_cases G:rk r p (n - 1) < rk r p n
    ·rw [bX (by simpa using G),bX G]; rfl
    ·rw [bY (by simpa using G),bY G]
  rw [e]
  by_cases z:rk r p n < rk r p (n - 1)
  ·rw [bX z]
   by_cases J:q > 0
   ·rw [bX J];have I:=Q3e (r:=r) (p:=p) (i:=n - (q + 1)) (j:=n) h.sz h.eq;obtain ⟨h1,h2,U,O⟩:=Q2g f (kas_rev p (n - (q + 1)) n) (n + 1) 0 ⟨by omega,by rw [xn]; omega,by omega,λi B g2=>by
     rw [I,I]
     by_cases y:i=n
     ·subst y; omega
     ·exact h.de i B (),λi B g2=>by
     have:i=n:=by omega
     subst this; rfl⟩ (by rw [xn]; omega)
    exact ⟨h1,h2.trans (Ve _ _),by omega,by omega⟩
   ·rw [bY J];obtain ⟨h1,h2,U,O⟩:=Q2g f p (n + 1) 0 ⟨by omega,by omega,by omega,λi B g2=>by
     by_cases y:i=n
     ·subst y; omega
     ·exact h.de i B (),λi B g2=>by
     have:i=n:=by omega
     subst this; rfl⟩ ()
    exact ⟨h1,h2,by omega,by omega⟩
  ·rw [bY z]
   by_cases G:rk r p (n - 1) < rk r p n
   ·rw [bX G];exact ⟨h,dP _,O6 _,by show n<=n + (f + 1); omega⟩
   ·rw [bY G];have Z:=h.n1;have Y:=h.qn;obtain ⟨h1,h2,U,O⟩:=Q2g f p (n + 1) (q + 1) ⟨by omega,by omega,by omega,λi B g2=>by
     by_cases y:i=n
     ·subst y; omega
     ·exact h.de i B (),λi B g2=>by
     show rk r p i=rk r p n
     by_cases y:i=n
     ·rw [y]
     ·rw [h.eq i () ()]; omega⟩ ()
    exact ⟨h1,h2,by omega,by omega⟩
def Srt (r:Nat->Nat) (p:Array Nat) (m:Nat):Prop:=∀ i,1<=i->i < m->rk r p (i - 1)<=rk r p i
def Qbj {nrem:Nat} (B:1<=n) (q:n<=nrem) (hs:nrem<=p.size) (hd:∀ i,1<=i->i < n->rk r p i<=rk r p (i - 1)) :
  1<=(evT (cR r) (kas_tail3 n nrem p)).1/\(evT (cR r) (kas_tail3 n nrem p)).1<=nrem/\Srt r (evT (cR r) (kas_tail3 n nrem p)).2 (evT (cR r) (kas_tail3 n nrem p)).1/\(evT (cR r) (kas_tail3 n nrem p)).2.Perm p:=by
 obtain ⟨h1,h2,G,_⟩:=Qbd (r:=r) (kas_rev p 0 n) (nrem - n) n B;unfold kas_tail3;rw [Kg];show 1<=evT (cR r) (kas_asc (kas_rev p 0 n) (nrem - n) n)/\_/\Srt r (kas_rev p 0 n) _/\(kas_rev p 0 n).Perm p;refine ⟨by omega,by show evT (cR r) (kas_asc (kas_rev p 0 n) (nrem - n) n)<=nrem; omega,λi I g2=>?_,Ve _ _⟩
 by_cases z:i < n
 ·rw [Qa9 (),Qa9 (),bX (),bX ()];have:=hd (0 + n - 1 - (i - 1)) () ();rw [show 0 + n - 1 - (i - 1) - 1=0 + n - 1 - i by omega] at this;exact this
 ·exact G i () g2
def Q1p {nrem:Nat} (hn:1<=n) (U:n < nrem) (hs:nrem<=p.size) (B:∀ i,i < n->rk r p i=rk r p (n - 1)) (O:rk r p n < rk r p (n - 1)) :
  1<=(evT (cR r) (kas_descPart n nrem p)).1/\(evT (cR r) (kas_descPart n nrem p)).1<=nrem/\Srt r (evT (cR r) (kas_descPart n nrem p)).2 (evT (cR r) (kas_descPart n nrem p)).1/\(evT (cR r) (kas_descPart n nrem p)).2.Perm p:=by
 obtain ⟨D,P,Z,Y⟩:=Q2g (r:=r) (nrem - (n + 1)) p (n + 1) 0 ⟨by omega,by omega,by omega,λi I g2=>by
  by_cases y:i=n
  ·subst y; omega
  ·rw [B i (),B (i - 1) ()]; exact O6 _,λi I g2=>by
  have:i=n:=by omega
  subst this; rfl⟩ ()
 unfold kas_descPart;rw [Kg];generalize evT (cR r) (kas_desc (nrem - (n + 1)) p (n + 1) 0)=x at*;obtain ⟨G,m,q⟩:=x;have sz:G.size=p.size:=P.size_eq;simp only at D P Z Y;dsimp only
 by_cases z:q > 0
 ·rw [bX z];have J:=Q3e (r:=r) (p:=G) (i:=m - (q + 1)) (j:=m) D.sz D.eq;obtain ⟨a,b,c,d⟩:=Qbj (r:=r) (p:=kas_rev G (m - (q + 1)) m) (n:=m) (nrem:=nrem) D.n1 () (by rw [xn]; omega) (λi I g2=>by rw [J,J]; exact D.de i I g2);exact ⟨a,b,c,(d.trans (Ve _ _)).trans P⟩
 ·rw [bY z];obtain ⟨a,b,c,d⟩:=Qbj (r:=r) (p:=G) (n:=m) (nrem:=nrem) D.n1 () () D.de;exact ⟨a,b,c,d.trans P⟩
def Srt.le {m:Nat} (h:Srt r p m):∀ {i j:Nat},i<=j->j < m->rk r p i<=rk r p j:=by
 intro i j q
 induction j with
 | zero => intro _; have : i = 0 := by omega
           subst this; exact O6 _
 | succ j G=>
  intro B
  by_cases z:i=j + 1
  ·subst z; exact O6 _
  ·have h1:=G () ();have h2:=h (j + 1) () B;rw [du] at h2;exact F3 h1 h2
def Qii (Z:1<=n) (hs:n<=p.size) :
  1<=(evT (cR r) (kas_count n p)).1/\(evT (cR r) (kas_count n p)).1<=n/\Srt r (evT (cR r) (kas_count n p)).2 (evT (cR r) (kas_count n p)).1/\(evT (cR r) (kas_count n p)).2.Perm p:=by
 obtain ⟨h1,h2,J,U⟩:=Qbd (r:=r) p (n - 1) 1 (O6 _);unfold kas_count;rw [Kg];generalize evT (cR r) (kas_asc p (n - 1) 1)=m at*;have S:Srt r p m:=λi O g2=>J i O g2
 by_cases z:m=n
 ·subst z;rw [bX (by simp)];exact ⟨h1,O6 _,S,dP _⟩
 ·rw [bY (by simpa using z)];have q:=U ()
  by_cases G:m > 1
  ·rw [bX G];show 1<=(evT (cR r) (if decide (rk r p 0 < rk r p (m - 1))=zi then KasT.ret (m,p) else kas_descPart m n (kas_rev p 0 m))).1/\(evT (cR r) (if decide (rk r p 0 < rk r p (m - 1))=zi then KasT.ret (m,p) else kas_descPart m n (kas_rev p 0 m))).1<=n/\Srt r (evT (cR r) (if decide (rk r p 0 < rk r p (m - 1))=zi then KasT.ret (m,p) else kas_descPart m n (kas_rev p 0 m))).2 (evT (cR r) (if decide (rk r p 0 < rk r p (m - 1))=zi then KasT.ret (m,p) else kas_descPart m n (kas_rev p 0 m))).1/\(evT (cR r) (if decide (rk r p 0 < rk r p (m - 1))=zi then KasT.ret (m,p) else kas_descPart m n (kas_rev p 0 m))).2.Perm p
   by_cases I:rk r p 0 < rk r p (m - 1)
   ·rw [bX (by simpa using I)];exact ⟨h1,by show m<=n; omega,S,dP _⟩
   ·rw [bY (by simpa using I)];have eq:∀ i,i < m->rk r p i=rk r p (m - 1):=λi hi=>by
     have a:=S.le (i:=0) (j:=i) () hi;have b:=S.le (i:=i) (j:=m - 1) () ();omega
    have B:=Q3e (r:=r) (p:=p) (i:=0) (j:=m) () (λk _ Y=>eq k Y);obtain ⟨a,b,c,d⟩:=Q1p (r:=r) (p:=kas_rev p 0 m) (n:=m) (nrem:=n) h1 () (by rw [xn]; exact hs) (λi hi=>by rw [B,B]; exact eq i hi) (by rw [B,B]; exact q);exact ⟨a,b,c,d.trans (Ve _ _)⟩
  ·rw [bY G];have:m=1:=by omega
   subst this;exact Q1p (r:=r) (O6 _) () hs (λi hi=>by rw [show i=0 by omega]) q
theorem Q3n {p:Array Nat} {k:Nat} (S:Srt r p k):∀ f l q,l<=q->q<=k->q - l<=f->(∀ i,i < l->rk r p i<=rk r p k)->(∀ i,q<=i->i < k->rk r p k < rk r p i) ->
  evT (cR r) (kas_place p k f l q)<=k/\(∀ i,i < evT (cR r) (kas_place p k f l q)->rk r p i<=rk r p k)/\(∀ i,evT (cR r) (kas_place p k f l q)<=i->i < k->rk r p k < rk r p i)
 | 0,l,q,h1,h2,O,I,G=>by
  have:l=q:=by omega
  subst this;exact ⟨h2,I,G⟩
 | f + 1,l,q,h1,h2,O,I,G=>by
  by_cases z:l>=q
  ·have:l=q:=by omega
   subst this;have e:evT (cR r) (kas_place p k (f + 1) l l)=l:=by rw [kas_place,bX (O6 _)]; rfl
   rw [e];exact ⟨h2,I,G⟩
  ·have e:evT (cR r) (kas_place p k (f + 1) l q)=if rk r p k < rk r p ((l + q) / 2) then evT (cR r) (kas_place p k f l ((l + q) / 2)) else evT (cR r) (kas_place p k f ((l + q) / 2 + 1) q):=by
    rw [kas_place,bY z];show evT (cR r) (if decide (rk r p k < rk r p ((l + q) / 2))=zi then kas_place p k f l ((l + q) / 2) else kas_place p k f ((l + q) / 2 + 1) q)=_
    by_cases y:rk r p k < rk r p ((l + q) / 2)
    ·rw [bX (by simpa using y),bX y]
    ·rw [bY (by simpa using y),bY y]
   rw [e];have m1:l<=(l + q) / 2:=by omega
   have U:(l + q) / 2 < q:=by omega
   generalize (l + q) / 2=B at*
   by_cases y:rk r p k < rk r p B
   ·rw [bX y];exact Q3n S f l B m1 () () I λi J g2=>D7 y (S.le J g2)
   ·rw [bY y];exact Q3n S f (B + 1) q () h2 () (λi g=>F3 (S.le (show i<=B by omega) ()) ()) G
theorem Qj6:∀ f (p:Array Nat) k,1<=k->k + f<=p.size->Srt r p k->Srt r (evT (cR r) (kas_bin f p k)) (k + f)/\(evT (cR r) (kas_bin f p k)).Perm p
 | 0,p,k,_,_,S=>⟨S,dP _⟩
 | f + 1,p,k,G,hs,S=>by
  obtain ⟨h1,h2,B⟩:=Q3n S k 0 k (L5 _) (O6 _) () (λi g=>by omega) (λi q g2=>by omega);have e:evT (cR r) (kas_bin (f + 1) p k)=evT (cR r) (kas_bin f (bubble p k (k - evT (cR r) (kas_place p k k 0 k))) (k + 1)):=by rw [kas_bin,Kg]
  rw [e];generalize evT (cR r) (kas_place p k k 0 k)=l at*;have S2:Srt r (bubble p k (k - l)) (k + 1):=λi q g2=>by
   rw [Qgb () (),Qgb () (),show k - (k - l)=l by omega]
   by_cases a:i=l
   ·subst a;rw [bY (),bY (),bX rfl];exact h2 (i - 1) ()
   ·by_cases b:i - 1=l
    ·rw [bX b,bY a,bX (),b];exact dF (B l (O6 _) ())
    ·rw [bY b,bY a]
     by_cases c:l < i
     ·rw [bX (),bX ()];exact S (i - 1) () ()
     ·rw [bY (),bY ()];exact S i q ()
  obtain ⟨a,b⟩:=Qj6 f (bubble p k (k - l)) (k + 1) () (by rw [bubble_size]; omega) S2;exact ⟨by rw [show k + (f + 1)=k + 1 + f by omega]; exact a,b.trans (bubble_perm _ _ _)⟩
def Qjx (G:1<=n):Srt r (evT (cR r) (kas_sort n)) n/\(evT (cR r) (kas_sort n)).Perm (cD (bc n)):=by
 obtain ⟨h1,h2,B,q⟩:=Qii (r:=r) (p:=cD (bc n)) (n:=n) G (by simp);unfold kas_sort;rw [Kg];generalize evT (cR r) (kas_count n (cD (bc n)))=x at*;obtain ⟨m,p⟩:=x;have sz:p.size=n:=by have:=q.size_eq; simpa using this
 simp only at h1 h2 B q;dsimp only
 by_cases z:m < n
 ·rw [bX z,show max m 1=m by omega];obtain ⟨a,b⟩:=Qj6 (r:=r) (n - m) p m h1 () B;rw [show m + (n - m)=n by omega] at a;exact ⟨a,b.trans q⟩
 ·rw [bY z];have:m=n:=by omega
  subst this;exact ⟨B,q⟩
end
def Asks {α:Type} (n:Nat):KasT α->(α->Prop)->Prop
 | .ret a,P=>P a
 | .ask i j k,P=>i < n/\j < n/\∀ b,Asks n (k b) P
theorem Asks.bind {α β:Type} {P:α->Prop} {Q:β->Prop} {f:α->KasT β} (q:∀ a,P a->Asks n (f a) Q):∀ {t:KasT α},Asks n t P->Asks n (t.bind f) Q
 | .ret a,h=>q a h
 | .ask i j k,h=>⟨h.1,h.2.1,λb=>Asks.bind q (h.2.2 b)⟩
def AL (n:Nat) (p:Array Nat):Prop:=0 < n/\∀ x∈p.toList,x < n
def AL.get (h:AL n p) (i:Nat):p.getD i 0 < n:=by
 rw [dO]
 by_cases z:i < p.size
 ·rw [bv z];exact h.2 _ (by simp)
 ·rw [dw ()]; exact h.1
def AL.perm {q:Array Nat} (h:AL n p) (e:q.Perm p):AL n q:=⟨h.1,λx B=>h.2 x ((gY.mp e).mem_iff.mp B)⟩
def Vt {α:Type} {P:α->Prop} {c:Prop} [Decidable c] {t u:KasT α} (h1:Asks n t P) (h2:Asks n u P):Asks n (if c then t else u) P:=by
 split
 ·exact h1
 ·exact h2
theorem Q4n {n:Nat} {p:Array Nat} (h:AL n p):∀ f m,Asks n (kas_asc p f m) (λ_=>True)
 | 0,m=>trivial
 | f + 1,m=>⟨h.get _,h.get _,λb=>Vt trivial (Q4n h f (m + 1))⟩
theorem zt {n:Nat}:∀ f (p:Array Nat) m q,AL n p->Asks n (kas_desc f p m q) (λx=>AL n x.1)
 | 0,p,m,q,h=>h
 | f + 1,p,m,q,h=>⟨h.get _,h.get _,λb=>Vt (Vt (zt f _ _ _ (h.perm (Ve _ _))) (zt f _ _ _ h)) ⟨h.get _,h.get _,λd=>Vt h (zt f _ _ _ h)⟩⟩
def Q6f (h:AL n p) (m k:Nat):Asks n (kas_tail3 m k p) (λx=>AL n x.2):=by
 unfold kas_tail3;refine Asks.bind (P:=λ_=>True) (λa _=>?_) (Q4n (h.perm (Ve _ _)) _ _);exact h.perm (Ve _ _)
def yc (h:AL n p) (m k:Nat):Asks n (kas_descPart m k p) (λx=>AL n x.2):=
 Asks.bind (λx q=>Vt (Q6f (AL.perm q (Ve _ _)) _ _) (Q6f q _ _)) (zt _ _ _ _ h)
def Qbc (h:AL n p) (k:Nat):Asks n (kas_count k p) (λx=>AL n x.2):=by
 unfold kas_count;refine Asks.bind (P:=λ_=>True) (λm _=>?_) (Q4n h _ _);refine Vt (show AL n p from h) (Vt ?_ (yc h _ _));exact ⟨h.get _,h.get _,λc=>Vt (show AL n p from h) (yc (h.perm (Ve _ _)) _ _)⟩
theorem yu {n:Nat} {p:Array Nat} (h:AL n p) (k:Nat):∀ f l q,Asks n (kas_place p k f l q) (λ_=>True)
 | 0,_,_=>trivial
 | f + 1,l,q=>by
  rw [kas_place];exact Vt trivial ⟨h.get _,h.get _,λc=>Vt (yu h k f _ _) (yu h k f _ _)⟩
theorem Q9s {n:Nat}:∀ f (p:Array Nat) k,AL n p->Asks n (kas_bin f p k) (λ_=>True)
 | 0,_,_,_=>trivial
 | f + 1,p,k,h=>by
  rw [kas_bin];exact Asks.bind (λl _=>Q9s f _ _ (h.perm (bubble_perm _ _ _))) (yu h k _ _ _)
def Qf5 (B:1<=n):Asks n (kas_sort n) (λ_=>True):=by
 have h:AL n (cD (bc n)):=⟨B,λx q=>by simpa using q⟩;unfold kas_sort;refine Asks.bind (P:=λx=>AL n x.2) (λx q=>?_) (Qbc h n);exact Vt (Q9s _ _ _ q) (show True from trivial)
theorem Q8w {α:Type} {B:Nat->Nat->(Bool->aC->Prop)->aC->Prop} {c:Nat->Nat->Bool} {n:Nat} {s:aC} (h:∀ i j (C:Bool->aC->Prop),i < n->j < n->C (c i j) s->B i j C s) :
  ∀ (t:KasT α) (P:α->Prop) (Q:α->aC->Prop),Asks n t P->Q (evT c t) s->t.kasWp B Q s
 | .ret a,_,_,_,q=>q
 | .ask i j k,P,Q,a,q=>h i j _ a.1 a.2.1 (Q8w h (k (c i j)) P Q (a.2.2 _) q)
variable {prog:aL} {A:aP} {E:zAF} {s:aC}
section
variable {w:aK}
inductive TupsAre (h:Heap):List aA->List (List Int)->Prop
 | nil:TupsAre h [] []
 | cons {a:aB} {o:Obj} {xs:Array aA} {n:Nat} {x:Int} {ns:List Int} {vs:List aA} {nss:List (List Int)} (ho:h.get? a=zo o) (hc:o.cls=.type "tuple") (hd:o.data=.seq xs n) (hi:IntsAre xs.toList (x :: ns)) (r:TupsAre h vs nss):TupsAre h (.ref a :: vs) ((x :: ns) :: nss)
def TupsAre.keep {h':Heap} (k:∀ b o,h.get? b=zo o->h'.get? b=zo o):∀ {vs:List aA} {nss:List (List Int)},TupsAre h vs nss->TupsAre h' vs nss
 | _,_,.nil=>.nil
 | _,_,.cons q B hd hi r=>.cons (k _ _ q) B hd hi (r.keep k)
def TupsAre.keepT {h':Heap} (k:∀ b o,o.cls=.type "tuple" -> h.get? b=zo o->h'.get? b=zo o):∀ {vs:List aA} {nss:List (List Int)},TupsAre h vs nss->TupsAre h' vs nss
 | _,_,.nil=>.nil
 | _,_,.cons B q hd hi r=>.cons (k _ _ q B) q hd hi (r.keepT k)
def TupsAre.length :∀ {vs:List aA} {nss:List (List Int)},TupsAre h vs nss->vs.length=nss.length
 | _,_,.nil=>rfl
 | _,_,.cons _ _ _ _ r=>by rw [E7,E7,r.length]
def TupsAre.at {h:Heap}:∀ {vs:List aA} {nss:List (List Int)},TupsAre h vs nss->∀ i,i < vs.length->∃ a o xs n,vs.getD i bi=.ref a/\h.get? a=zo o/\o.data=.seq xs n/\IntsAre xs.toList (nss.getD i [])
 | _,_,.nil,i,hi=>by simp at hi
 | _,_,.cons q B hd hi r,0,_=>⟨_,_,_,_,rfl,q,hd,hi⟩
 | _,_,.cons q B hd hi r,i + 1,hl=>by
  obtain ⟨a,o,xs,n,h1,h2,I,G⟩:=r.at i (by simpa using hl);exact ⟨a,o,xs,n,by simpa using h1,h2,I,by simpa using G⟩
def TupsAre.firsts {M:Model} :∀ {vs:List aA} {nss:List (List Int)},TupsAre h vs nss->∃ fs,KatTups h vs fs/\fs.length=vs.length/\∀ v∈fs,Looks M h (typeOf v) (.type "int")
 | _,_,.nil=>⟨[],.nil,rfl,λv q=>by cases q⟩
 | _,_,.cons (xs:=xs) (x:=J) G I hd hi r=>by
  obtain ⟨fs,h1,h2,O⟩:=r.firsts (M:=M);have B:=hi;generalize hl:xs.toList=l at B;cases B with
  | cons _ t U=>
   refine ⟨.int J t :: fs,.cons G I hd ?_ h1,by simp [h2],λv q=>?_⟩
   ·rw [<- cQ,hl]; rfl
   ·rcases D3.mp q with rfl | q
    ·exact Looks.of_pure rfl
    ·exact O v q
def Vb:List Int->List Int->Bool
 | [],[]=>zb
 | [],_ :: _=>zi
 | _ :: _,[]=>zb
 | a :: as,b :: bs=>if a=b then Vb as bs else decide (a < b)
theorem Qc8 (b:Bool) {Q:Bool->aC->Prop}:∀ {xs ys:List aA} {ns ms:List Int} (d:Bool) (i:Nat),IntsAre xs ns->IntsAre ys ms->d=decide (xs.length < ys.length)->Q (Vb ns ms) s->KatLex prog w A b d Q (xs.zip ys) i s
 | _,_,_,_,d,i,.nil,.nil,hd,q=>by
  have:d=zb:=by rw [hd]; simp
  subst this;exact q
 | _,_,_,_,d,i,.nil,.cons _ _ _,hd,q=>by
  have:d=zi:=by rw [hd]; simp
  subst this;exact q
 | _,_,_,_,d,i,.cons _ _ _,.nil,hd,q=>by
  have:d=zb:=by rw [hd]; simp
  subst this;exact q
 | _,_,_,_,d,i,.cons x t B,.cons y u G,hd,q=>by
  rw [eW];refine kat_cons (wpAny_eqBool_int ?_)
  by_cases z:x=y
  ·subst z;rw [beq_self_eq_true];refine kat_yes (Qc8 b d (i + 1) B G (by rw [hd]; simp) ?_);rw [Vb,bX rfl] at q;exact q
  ·rw [beq_eq_false_iff_ne.mpr z];refine kat_no ?_;rw [Vb,bY z] at q;cases b && i == 0 with
   | true=>exact oneLt_int q
   | false=>exact kat_one _ _ (lt_int q)
def Xn (nss:List (List Int)) (i:Nat):Nat:=(nss.filter λms=>Vb ms (nss.getD i [])).length
theorem Q06:∀ a:List Int,Vb a a=zb
 | []=>rfl
 | a :: q=>by rw [Vb,bX rfl]; exact Q06 q
theorem qe:∀ {a b c:List Int},Vb a b=zi->Vb b c=zi->Vb a c=zi
 | [],[],_,h,_=>by cases h
 | [],_ :: _,[],_,h=>by cases h
 | [],_ :: _,_ :: _,_,_=>rfl
 | _ :: _,[],_,h,_=>by cases h
 | _ :: _,_ :: _,[],_,h=>by cases h
 | a :: J,b :: bs,c :: cs,h1,h2=>by
  rw [Vb] at h1 h2 ⊢
  by_cases B:a=b
  ·subst B;rw [bX rfl] at h1
   by_cases q:a=c
   ·subst q;rw [bX rfl] at h2 ⊢;exact qe h1 h2
   ·rw [bY q] at h2 ⊢; exact h2
  ·rw [bY B] at h1;have G:a < b:=by simpa using h1
   by_cases q:b=c
   ·subst q;rw [bY B]; exact h1
   ·rw [bY q] at h2;have I:b < c:=by simpa using h2
    rw [bY ()];simp; omega
theorem Q05:∀ {a b:List Int},Vb a b=zb->Vb b a=zb->a=b
 | [],[],_,_=>rfl
 | [],_ :: _,h,_=>by cases h
 | _ :: _,[],_,h=>by cases h
 | a :: G,b :: bs,h1,h2=>by
  rw [Vb] at h1 h2
  by_cases z:a=b
  ·subst z;rw [bX rfl] at h1 h2;rw [Q05 h1 h2]
  ·rw [bY z] at h1;rw [bY (λe=>z e.symm)] at h2;have B:¬ a < b:=by simpa using h1
   have q:¬ b < a:=by simpa using h2
   exact absurd (show a=b by omega) z
theorem y8 {α:Type} {p q:α->Bool}:∀ {l:List α},(∀ x∈l,p x=zi->q x=zi)->(∃ x∈l,p x=zb/\q x=zi)->(l.filter p).length < (l.filter q).length
 | [],_,h=>by obtain ⟨_,h,_⟩:=h; cases h
 | x :: l,h,I=>by
  have J:(l.filter p).length<=(l.filter q).length:=by
   clear I
   induction l with
   | nil=>exact O6 _
   | cons y l B=>
    have B:=B λz hz=>h z (by rcases D3.mp hz with rfl | hz <;> simp [*])
    have G:=h y (by simp);rw [M0,M0]
    by_cases a:p y=zi
    ·rw [bX a,bX (G a)]; simp; exact B
    ·rw [bY a]
     split
     ·simp; omega
     ·exact B
  rw [M0,M0];obtain ⟨y,G,h1,h2⟩:=I;rcases D3.mp G with rfl | G
  ·rw [h1,h2]; simp; omega
  ·have B:=y8 (λz hz=>h z (O7 _ hz)) ⟨y,G,h1,h2⟩
   by_cases a:p x=zi
   ·rw [bX a,bX (h x (by simp) a)]; simp; exact B
   ·rw [bY a]
    split
    ·simp; omega
    ·exact B
def Qbt {nss:List (List Int)} {i j:Nat} (hi:i < nss.length) (B:j < nss.length):cR (Xn nss) i j=Vb (nss.getD i []) (nss.getD j []):=by
 have mem:∀ k,k < nss.length->nss.getD k []∈nss:=λk I=>by
  rw [D5,O2 I]; exact cP I
 unfold cR;have q:∀ {i j:Nat},i < nss.length->j < nss.length->Vb (nss.getD i []) (nss.getD j [])=zi->Xn nss i < Xn nss j:=λ{i j} hi B h=>
  y8 (λx _ J=>qe J h) ⟨nss.getD i [],mem i hi,Q06 _,h⟩
 cases z:Vb (nss.getD i []) (nss.getD j []) with
 | true=>exact ba (q hi B z)
 | false=>
  refine bZ ?_;cases G:Vb (nss.getD j []) (nss.getD i []) with
  | true=>have:=q B hi G; omega
  | false=>
   have e:=Q05 z G;unfold Xn;rw [e];exact M8 _
def Qd3 {a:aB} {nss:List (List Int)} {P:PySem.Fin->aC->Prop} (ho:s.heap.get? a=zo (seqObj "list" vs.toArray n)) (hT:TupsAre s.heap vs nss) (b0:vs.length < 64)
  (h:∀ (p:List Nat) (h':Heap) (k:Nat),p.Perm (bc vs.length)->(∀ i,1<=i->i < vs.length->Vb (nss.getD (p.getD i 0) []) (nss.getD (p.getD (i - 1) 0) [])=zb)->h'.get? a=zo (seqObj "list" (cD (p.map λi=>vs.getD i bi)) k)->(∀ b o,b≠a->s.heap.get? b=zo o->h'.get? b=zo o)->P (.done (.ret .none)) { s with heap:=h' }) :
  aF (aI prog w) A (Builtin.«list.sort» ⟨[.ref a],[]⟩) P E s:=by
 have ha:a < s.heap.objs.size:=O9 ho;obtain ⟨e1,a7⟩:∃ e1,(s.heap.update a (bp λ_=>(#[]:Array aA))).get? a=zo (seqObj "list" #[] e1):=⟨_,get?_update_seq ho λ_=>#[]⟩
 have I:∀ b o,b≠a->s.heap.get? b=zo o->(((s.heap.update a (bp λ_=>(#[]:Array aA))).push (seqObj "tuple" vs.toArray 0)).push (seqObj "list" #[] 0)).get? b=zo o:=λb o hb e=>
  O1 _ (O1 _ (by rw [Heap.get?_update_ne _ _ _ _ hb]; exact e))
 have U:(((s.heap.update a (bp λ_=>(#[]:Array aA))).push (seqObj "tuple" vs.toArray 0)).push (seqObj "list" #[] 0)).get? a=zo (seqObj "list" #[] e1):=O1 _ (O1 _ a7)
 rw [list_sort_plain];refine aD (listItems_at ho rfl ?_);refine aD (listUpdate_at ho rfl ?_ (by rw [O8,sizeLine_eq]; omega) (L5 _));refine aD (seqEpoch_at a7 rfl ?_);refine aD (wpAny_newTuple ?_ (by show vs.length<=_; rw [sizeLine_eq]; omega));refine aD (wpAny_newList ?_ (L5 _));refine ak ?_;show aF (aI prog w) A _ P E { s with heap:=((s.heap.update a (bp λ_=>(#[]:Array aA))).push (seqObj "tuple" vs.toArray 0)).push (seqObj "list" #[] 0) }
 dsimp only;generalize hH:((s.heap.update a (bp λ_=>(#[]:Array aA))).push (seqObj "tuple" vs.toArray 0)).push (seqObj "list" #[] 0)=O at*
 have fin:∀ (st:SortSt) (p:List Nat),p.Perm (bc vs.length)->(arrOf st).map (·.2)=cD (p.map λi=>vs.getD i bi)->failedOf st=zl->(∀ i,1<=i->i < vs.length->Vb (nss.getD (p.getD i 0) []) (nss.getD (p.getD (i - 1) 0) [])=zb) ->
   aF (aI prog w) A (do
    let J:=(arrOf st).map (·.2)
    let B:=(<- seqEpoch a) != e1
    Builtin.List.listUpdate (.ref a) λ_=>J
    if let zo e:=failedOf st then rule "list.sort.comparison-raised"; throw e
    if B then rule "list.sort.modified"; raiseError "ValueError" "list modified during sort"
    ret .none) P E { s with heap:=O }:=λst p hp a9 hf hs=>by
  dsimp only;have hl:(cD (p.map λi=>vs.getD i bi)).size=vs.length:=by rw [O8,O3,hp.length_eq,F7]
  obtain ⟨c2,b1⟩:∃ c2,(O.update a (bp λ_=>cD (p.map λi=>vs.getD i bi))).get? a=zo (seqObj "list" (cD (p.map λi=>vs.getD i bi)) c2):=⟨_,get?_update_seq U λ_=>cD (p.map λi=>vs.getD i bi)⟩
  rw [a9,hf];refine aD (seqEpoch_at U rfl ?_);refine aD (listUpdate_at U rfl ?_ (L5 _) (F3 (fA hl) (by rw [sizeLine_eq]; omega)));simp only [bne_self_eq_false,cO,if_false];exact aJ (h p _ c2 hp hs b1 λb o hb e=>by rw [Heap.get?_update_ne _ _ _ _ hb]; exact I b o hb e)
 by_cases h2:vs.toArray.size < 2
 ·rw [bX h2,bX h2];refine aD (aJ ?_);rw [StateT.run_pure];refine aD (aJ ?_);refine fin (SortSt.mk' general' (vs.toArray.zip vs.toArray) #[] 7 zl) (bc vs.length) (cE _) ?_ rfl (λi g1 g2=>?_)
  ·show (vs.toArray.zip vs.toArray).map (·.2)=_;apply Array.toList_inj.mp;apply dA;intro i
   by_cases z:i < vs.length
   ·simp [z]
   ·simp [z]
  ·rw [O8] at h2; omega
 ·rw [bY h2,bY h2];rw [O8] at h2;have Y:TupsAre O vs nss:=hT.keepT λb o hc e=>I b o (λz=>by
   rw [z,ho] at e;have e:=bm e;rw [<- e] at hc;exact absurd (show bw "list" = .type "tuple" from hc) (by decide)) e
  obtain ⟨fs,k1,k2,k3⟩:=Y.firsts (M:=aI prog w);refine aD (kat_kind (s:={ s with heap:=O }) (T:=.type "int") k1 () k3 (by decide) ?_);have a5:∀ i j (C:Bool->aC->Prop),i < vs.length->j < vs.length->C (cR (Xn nss) i j) { s with heap:=O }->kas_ask prog w A (tuples' (bw "int" != bw "tuple")) vs i j C { s with heap:=O }:=λi j C hi hj q=>by
   obtain ⟨ai,oi,xi,ni,e1,e2,e3,e4⟩:=Y.at i hi;obtain ⟨aj,oj,xj,nj,f1,f2,f3,f4⟩:=Y.at j hj;rw [Qbt (by rw [<- hT.length]; exact hi) (by rw [<- hT.length]; exact hj)] at q;unfold kas_ask;rw [e1,f1];exact kat_lt e2 e3 f2 f3 (Qc8 _ _ 0 e4 f4 (by simp) q)
  have Z:=Qjx (r:=Xn nss) (n:=vs.length) ();refine aD (ay (kat_run (vs:=vs) (ks:=vs) (Q:=λst' s'=>s'={ s with heap:=O }/\arrOf st'=(evT (cR (Xn nss)) (kas_sort vs.length)).map (kas_item (vs.toArray.zip vs.toArray))/\failedOf st'=zl)
   (G:=λp s'=>s'={ s with heap:=O }/\p=evT (cR (Xn nss)) (kas_sort vs.length)) rfl () b0 (λp' st' s' a1 a2 a3 a4=>⟨a4.1,by rw [<- a4.2]; exact a2,a3⟩) (Q8w a5 _ (λ_=>True) _ (Qf5 ()) ⟨rfl,rfl⟩)) ?_ λ_ _ e=>e)
  rintro ⟨⟨⟩,st'⟩ s' ⟨rfl,a8,hf⟩;have b2:(evT (cR (Xn nss)) (kas_sort vs.length)).toList.Perm (bc vs.length):=by
   have:=gY.mp Z.2;simpa using this
  refine fin st' _ b2 (kat_snds rfl a8) hf λi g1 g2=>?_
  have hr:=Z.1 i g1 g2;have a6:∀ k,(evT (cR (Xn nss)) (kas_sort vs.length)).toList.getD k 0 < vs.length:=λk=>by
   have b3:AL vs.length (evT (cR (Xn nss)) (kas_sort vs.length)):=AL.perm (p:=cD (bc vs.length)) ⟨by omega,λx hx=>by simpa using hx⟩ Z.2;have:=b3.get k;rw [dO,<- cQ] at this;rw [D5]; exact this
  have hg:∀ k,(evT (cR (Xn nss)) (kas_sort vs.length)).getD k 0=(evT (cR (Xn nss)) (kas_sort vs.length)).toList.getD k 0:=λk=>by
   rw [dO,<- cQ,D5]
  unfold rk at hr;rw [hg,hg] at hr;have:=Qbt (nss:=nss) (i:=(evT (cR (Xn nss)) (kas_sort vs.length)).toList.getD i 0) (j:=(evT (cR (Xn nss)) (kas_sort vs.length)).toList.getD (i - 1) 0) (by rw [<- hT.length]; exact a6 _) (by rw [<- hT.length]; exact a6 _);rw [<- this];exact bZ (gO.mpr hr)
def Q7u {l:aB} {nss:List (List Int)} {Q:zAF} (hl:s.heap.IsList l vs.toArray) (Z:TupsAre s.heap vs nss) (I:vs.length < 64)
  (h:∀ (p:List Nat) (h':Heap) (D k:Nat),p.Perm (bc vs.length)->(∀ i,1<=i->i < vs.length->Vb (nss.getD (p.getD i 0) []) (nss.getD (p.getD (i - 1) 0) [])=zb)->s.heap.objs.size<=D->h'.get? D=zo (seqObj "list" (cD (p.map λi=>vs.getD i bi)) k)->(∀ b o,s.heap.get? b=zo o->h'.get? b=zo o)->Q (.ref D) { s with heap:=h' }) :
  aF (aI prog w) A (call (.builtin "sorted") [.ref l]) Q E s:=by
 refine Calls.call_function_entry kind_sorted plain_sorted entry_sorted (args_sorted1 _) ?_;unfold Builtin.«sorted»;refine aD (m:=checkCount "sorted" 1 1 _) (aJ ?_);refine aD (collect_list hl ?_ (by rw [sizeLine_eq]; omega));refine aD (wpAny_newList ?_ (by rw [sizeLine_eq]; omega));have hsz:((s.heap.push (seqObj "list" #[] 0)).update s.heap.objs.size (bp (· ++ vs.toArray))).objs.size=s.heap.objs.size + 1:=by
  rw [Heap.size_update,size_push']
 have G:(((s.heap.push (seqObj "list" #[] 0)).update s.heap.objs.size (bp (· ++ vs.toArray))).push (seqObj "list" vs.toArray 0)).get? (s.heap.objs.size + 1)=zo (seqObj "list" vs.toArray 0):=by
  rw [<- hsz]; exact D2 _ rfl
 have keep:∀ b o,s.heap.get? b=zo o->(((s.heap.push (seqObj "list" #[] 0)).update s.heap.objs.size (bp (· ++ vs.toArray))).push (seqObj "list" vs.toArray 0)).get? b=zo o:=λb o q=>by
  have B:b < s.heap.objs.size:=O9 q;rw [Heap.get?_push_ne _ _ _ (by rw [hsz]; exact D9 (L6 B)),Heap.get?_update_ne _ _ _ _ (D9 B),Heap.get?_push_ne _ _ _ (D9 B)];exact q
 show aF _ _ _ _ _ { s with heap:=((s.heap.push (seqObj "list" #[] 0)).update s.heap.objs.size (bp (· ++ vs.toArray))).push (seqObj "list" vs.toArray 0) };rw [hsz];refine aD (ak (au slot_list_sort ⟨_,G,rfl⟩ entry_list_sort ?body (args_list_sort _)))
 case body=>
  refine Qd3 (s:={ s with heap:=((s.heap.push (seqObj "list" #[] 0)).update s.heap.objs.size (bp (· ++ vs.toArray))).push (seqObj "list" vs.toArray 0) }) G (Z.keep keep) I λp h' k J O U Y=>?_
  exact ⟨_,rfl,aJ ⟨_,rfl,h p h' _ k J O (cI _) U λb o e=>Y b o (D9 (L6 (O9 e))) (keep b o e)⟩⟩
end
end L2
namespace L2
open PySem PySem.Spec PyProof.Rows
def Qav (a:List Int):List (List Int)->List (List Int)
 | []=>[a]
 | b :: r=>if Vb b a=zi then b :: Qav a r else a :: b :: r
def xc:List (List Int)->List (List Int)
 | []=>[]
 | a :: r=>Qav a (xc r)
def leL (a b:List Int):Prop:=Vb b a=zb
def Q74 (a b:List Int):leL a b <-> a=b\/Vb a b=zi:=by
 unfold leL;constructor
 ·intro h;cases z:Vb a b with
  | true=>exact .inr rfl
  | false=>exact .inl (Q05 z h)
 ·rintro (rfl | h)
  ·exact Q06 a
  ·cases z:Vb b a with
   | false=>rfl
   | true=>have:=qe h z; rw [Q06] at this; cases this
def Q5u {a b c:List Int} (h1:leL a b) (h2:leL b c):leL a c:=by
 rw [Q74] at*;rcases h1 with rfl | h1
 ·exact h2
 ·rcases h2 with rfl | h2
  ·exact .inr h1
  ·exact .inr (qe h1 h2)
def Qht {a b:List Int} (h1:leL a b) (h2:leL b a):a=b:=Q05 h2 h1
theorem Q15 (a:List Int):∀ l,(Qav a l).Perm (a :: l)
 | []=>cE _
 | b :: r=>by
  rw [Qav]
  split
  ·exact ((Q15 a r).cons b).trans (dQ a b r)
  ·exact cE _
theorem Vx:∀ l,(xc l).Perm l
 | []=>cE _
 | a :: r=>(Q15 a (xc r)).trans ((Vx r).cons a)
theorem Q1i {a:List Int}:∀ {l:List (List Int)},l.Pairwise leL->(Qav a l).Pairwise leL
 | [],_=>by rw [Qav]; exact gZ _ _
 | b :: r,h=>by
  obtain ⟨h1,h2⟩:=F9.mp h;rw [Qav]
  split
  ·rename_i q;refine F9.mpr ⟨λx B=>?_,Q1i h2⟩;rcases D3.mp ((Q15 a r).mem_iff.mp B) with rfl | B
   ·exact (Q74 b x).mpr (.inr q)
   ·exact h1 x B
  ·rename_i q;have G:leL a b:=by unfold leL; simpa using q
   refine F9.mpr ⟨λx B=>?_,h⟩;rcases D3.mp B with rfl | B
   ·exact G
   ·exact Q5u G (h1 x B)
theorem Ks:∀ l,(xc l).Pairwise leL
 | []=>cW
 | a :: r=>Q1i (Ks r)
theorem Q5f:∀ {a b:List (List Int)},a.Perm b->a.Pairwise leL->b.Pairwise leL->a=b
 | [],b,h,_,_=>(gc.mp h).symm
 | x :: a,[],h,_,_=>absurd (gd.mp h) (by simp)
 | x :: a,y :: b,h,q,O=>by
  obtain ⟨G,I⟩:=F9.mp q;obtain ⟨J,Y⟩:=F9.mp O;have e:x=y:=by
   rcases D3.mp (h.mem_iff.mp (E3 (a:=x) (l:=a))) with e | U
   ·exact e
   ·rcases D3.mp (h.mem_iff.mpr (E3 (a:=y) (l:=b))) with e | B
    ·exact e.symm
    ·exact Qht (G y B) (J x U)
  subst e;rw [Q5f (gf h) I Y]
def Q4y {l:List (List Int)} (h:∀ i,1<=i->i < l.length->Vb (l.getD i []) (l.getD (i - 1) [])=zb):l.Pairwise leL:=by
 rw [dy];have g:∀ k (B:k < l.length),l.getD k []=l[k]:=λk B=>by rw [D5,O2 B]; rfl
 have q:∀ d i (hi:i + d < l.length),leL (l.getD i []) (l.getD (i + d) []):=by
  intro d
  induction d with
  | zero=>intro i hi; exact (Q74 _ _).mpr (.inl rfl)
  | succ d I=>
   intro i hi;have h1:=I i ();have h2:=h (i + d + 1) () ();rw [du] at h2;exact Q5u h1 h2
 intro i j hi J G;have:=q (j - i) i ();rw [show i + (j - i)=j by omega,g i hi,g j J] at this;exact this
def Qd4 {nss:List (List Int)} {p:List Nat} (q:p.Perm (bc nss.length)) (h:∀ i,1<=i->i < nss.length->Vb (nss.getD (p.getD i 0) []) (nss.getD (p.getD (i - 1) 0) [])=zb):p.map (λi=>nss.getD i [])=xc nss:=by
 have hl:p.length=nss.length:=by rw [q.length_eq,F7]
 have I:(bc nss.length).map (λi=>nss.getD i [])=nss:=by
  apply dA;intro i
  by_cases z:i < nss.length
  ·simp [z]
  ·simp [z]
 have J:(p.map λi=>nss.getD i []).Perm nss:=by
  have:=q.map (λi=>nss.getD i [])
  rwa [I] at this
 have B:∀ k,k < p.length->(p.map λi=>nss.getD i []).getD k []=nss.getD (p.getD k 0) []:=λk G=>by
  rw [D5,E2,O2 G,D5 (l:=p),O2 G];rfl
 refine Q5f (J.trans (Vx nss).symm) (Q4y λi O g2=>?_) (Ks nss);rw [O3] at g2;rw [B i g2,B (i - 1) ()];exact h i O ()
theorem Qbh {P:aL} {w:aK} {H:Hp} {h:Heap} (ok:HOk P w H h):∀ {nss:List (List Int)} {vs:List V} {its:List aA},aY (λ(v:V) (ns:List Int)=>ns≠[]/\∃ a,v=.ref a/\H a=zo (.tup (ns.map V.int))) vs nss->Vals vs its->TupsAre h its nss
 | [],_,_,.nil,.nil=>.nil
 | [] :: _,v :: vs,u :: us,.cons ⟨z,_⟩ t,.cons q B=>absurd rfl z
 | (x :: ns) :: nss,v :: vs,u :: us,.cons ⟨_,a,I,G⟩ t,.cons q B=>by
  have r:=Qbh ok t B;subst I;cases q;obtain ⟨_,J,U,o,O,Y,n,hd⟩:=ok a _ G;exact .cons O Y hd (by simpa using Xt U) r
def Q7b {X:Cx}:V1 X (.builtin "sorted") (λxs H Q=>∃ p vs,∃ nss:List (List Int),xs=[.ref p]/\SqL X.K H p vs/\vs.length < 64/\aY (λ(v:V) (ns:List Int)=>ns≠[]/\∃ a,v=.ref a/\H a=zo (.tup (ns.map V.int))) vs nss /\
  ∀ d (B:List Nat),H d=zl->B.Perm (bc vs.length)->B.map (λi=>nss.getD i [])=xc nss->Q (.ref d) (upd H d (.lst (B.map λi=>vs.getD i .non)))):=by
 intro pins s σ H xs us Q I r h;obtain ⟨p,vs,nss,rfl,hq,a6,hp,q⟩:=h;obtain ⟨u,rfl,rx⟩:=Xc r;cases rx;obtain ⟨its,U,pl,hz⟩:=I.list hq;have G:=U.length;have T:=Qbh I.hok hp U;refine Q7u pl.isList T () λB h' D k O a2 a3 a4 a5=>?_
 have Z:its.length=nss.length:=T.length;have e:=Qd4 (nss:=nss) (p:=B) (by rw [<- Z]; exact O) (λi g1 g2=>a2 i g1 ())
 have a7:B.length=its.length:=by rw [O.length_eq,F7]
 have hv:Vals (B.map λi=>vs.getD i .non) (B.map λi=>its.getD i bi):=by
  have Y:∀ l:List Nat,(∀ x∈l,x < vs.length)->Vals (l.map λi=>vs.getD i .non) (l.map λi=>its.getD i bi):=by
   intro l
   induction l with
   | nil=>intro _; exact .nil
   | cons x l ih=>
    intro hl;have J:=hl x (by simp);obtain ⟨u,hu,ru⟩:=U.get (O2 J);refine .cons ?_ (ih λy hy=>hl y (O7 _ hy))
    show RelV (vs.getD x V.non) (its.getD x bi);rw [D5,O2 J,D5,hu];exact ru
  exact Y B λx J=>by have:=O.mem_iff.mp J; rw [G]; simpa using this
 exact ⟨.ref D,_,I.laid (t':=s.toks) (o:=.lst (B.map λi=>vs.getD i .non)) a5 a3 ⟨by rw [O3]; omega,_,k,hv,a4⟩,rfl,q D B (I.hok.fresh a3) (by rw [G]; exact O) e⟩
end L2
namespace L2
open PySem PySem.Spec PyProof.Rows PySem.W
end L2
namespace L2
open PySem PySem.Spec PyProof.Rows
def Iti (a:aB) (o:Obj) (kvs:List (Key × V)):It:=
 ⟨λi H=>H a=zo (.frz o (.dK kvs))/\i < kvs.length,λi H x H'=>∃ p kv,H p=zl/\x=.ref p/\kvs[i]?=zo kv/\H'=upd H p (.tup [kV kv.1,kv.2]),λi H=>H a=zo (.frz o (.dK kvs))/\kvs.length<=i⟩
def zx:entryFor table "dict_itemiterator.__iter__" = zo Builtin.«dict_keyiterator.__iter__»:=
 entryFor_alias (id' := "dict_keyiterator.__iter__") (by kernel_rfl) rfl (by decide +kernel) (by kernel_rfl)
def Q9y {P:aL} {w:aK} {K:be} {elts:List aH} {k:Nat} {pos:Pos} (a it:aB) (o:Obj) (kvs:List (Key × V)) {es:Array DictEntry} {ep:Nat} (hd:o.data=.dict es ep) :
  Turn P w K (.Tuple elts k pos) (Iti a o kvs) [it] it (λi h=>∃ ok Y,IsItemIter h it a i kvs.length ep ok Y) where
 mem:=by simp
 obj:=λi h st b hb=>by
  have e:b=it:=by simpa using hb
  subst e;obtain ⟨ok,Y,J⟩:=st;exact ⟨_,J,λv q=>by cases q⟩
 keep:=λi h h' st kk=>by
  obtain ⟨ok,Y,J⟩:=st;exact ⟨ok,Y,kk it (by simp) _ J⟩
 item:=by
  intro X hP hw hK hc i pins s σ H E I hf st hg;subst hP hw hK;obtain ⟨hx,hl⟩:=hg;obtain ⟨ok,Y,J⟩:=st;obtain ⟨hs,vs,rv,da⟩:=qh I.hok hx hd;obtain ⟨u,hu,ru⟩:=rv.get (O2 hl);have G:=rv.length;rw [G] at J;refine wpAny_pyNext_items_item J da hu λa1 h' hk ho hT hsz a5=>⟨_,rfl,?_⟩
  refine wpAny_letOwnedTupleGo_items (s:={ s with heap:=h' }) ho λa3 Z O=>?_
  have elt:it < s.heap.objs.size:=O9 J;have a2:H s.heap.objs.size=zl:=I.fresh;have I1:Inv X pins σ H { s with heap:=a3 }:=I.turnedL (t':=s.toks) (its:=[it]) (λc o B q=>(O.2 c (λz=>B (by simp [z]))).trans (a5 c o (λz=>B (by simp [z])) q)) λc B=>hf c B
  have U:a3.get? s.heap.objs.size=zo { cls:=.type "tuple",data:=.seq #[a1,u] }:=(O.2 _ (L7 elt)).trans hT;have I2:=I.tracks (xs:=[kV kvs[i].1,kvs[i].2]) (its:=[a1,u]) I1 (O6 _) a2 (.cons (Qp2 hk) (.cons ru .nil)) (by simp only [E7,cH]; rw [sizeLine_eq]; decide) ⟨_,U,rfl,0,rfl⟩;rw [<- G] at Z;refine ⟨.ref s.heap.objs.size,_,I2,rfl,⟨s.heap.objs.size,kvs[i],a2,rfl,O2 hl,rfl⟩,⟨_,_,Z⟩,λc B=>?_⟩
  have:=(hf c B).1;have a4:c < s.heap.objs.size:=by simp at B; rw [B]; exact elt
  rw [Q6 (D9 a4)]; exact this
 done:=by
  intro X hP hw hK hc i pins s σ H E I hf st hg;subst hP hw hK;obtain ⟨hx,hl⟩:=hg;obtain ⟨ok,Y,J⟩:=st;obtain ⟨hs,vs,rv,da⟩:=qh I.hok hx hd;obtain ⟨f0,f1,f2,f3,f4,f5⟩:=hf it (by simp);have G:=rv.length;rw [G] at J;exact wpAny_pyNext_items_end (I.ok.hd hc) J da (by simp; omega) λh' eb=>⟨rfl,I.turned (t':=s.toks) (λb o hb e=>eb b o hb e) f0 f1 f3 f4 f5⟩
 self:=λA i s Q E st h=>by
  obtain ⟨ok,Y,J⟩:=st;have hT:s.TypeIs (.ref it) "dict_itemiterator" := ⟨_,J,rfl⟩;refine wpAny_pyIter_slot hT F.slot_dict_itemiterator_iter (au F.slot_dict_itemiterator_iter hT zx ?_ (F.args_dict_itemiterator_iter_1 _));show aF _ _ (ret (.ref it)) _ _ s;exact aJ ⟨_,rfl, "dict_itemiterator",_,hT,F.slot_dict_itemiterator_next.lookup,h⟩
variable {X:Cx}
def Qs9 (X:Cx) (tl:TE):TI:=λσ H R=>tl σ H λx H1=>∃ a kvs,x=.ref a/\H1 a=zo (.dK kvs)/\∀ o,Qcr X a->R (Iti a o kvs) (upd H1 a (.frz o (.dK kvs)))
def Qgu {l:aH} {tl:TE} {elts:List aH} {k:Nat} {tp apos pos:Pos} (hl:PE X l tl) (B:bF l "items" X.env (aO l X.env)=aO l X.env) (G:(apos.endLine == pos.line)=zi) :
  PI X (.Tuple elts k tp) (.Call (.Attribute l "items" apos) [] [] pos) (Qs9 X tl):=by
 intro pins s σ H R I h;refine wpAny_Call_method (T := "dict") (id := "dict.items") B rfl G F.plainAttrs_dict F.slot_dict_items F.type_dict_items (thn (hl pins s σ H _ I h) λv s1 ⟨x,H1,U,r1,q1⟩=>?_)
 obtain ⟨a,kvs,rfl,ea,q⟩:=q1;cases r1;obtain ⟨z,hs,vs,rv,J⟩:=Q9e U.hok ea;refine ⟨J.typeIs,J.mapOf.noDict,?_⟩;show aF _ _ (callWith pos (.builtin "dict.items") [.ref a] [] []) _ _ s1;refine method_meetsIn F.slot_dict_items F.entry_dict_items rfl (fI ⟨rfl,J.typeIs,F.args_dict_items_1 _,_,meets_dict_items (Jy X.prog X.w) a hs,⟨vs,J⟩,?_⟩);obtain ⟨ep,O⟩:=J.dictAt;obtain ⟨o,es,Z,h1,h2,h3⟩:=id O;have hv:(s1.heap.push { cls:=.type "dict_items",data:=.fields #[.ref a] }).IsItemsView s1.heap.objs.size a:=⟨_,D2 _ rfl,rfl,rfl⟩;have a1:=O.push { cls:=.type "dict_items",data:=.fields #[.ref a] };refine wpAny_pyIter_items (s:={ s1 with heap:=s1.heap.push { cls:=.type "dict_items",data:=.fields #[.ref a] } }) hv a1 ?_;have hsz:(s1.heap.push { cls:=.type "dict_items",data:=.fields #[.ref a] }).objs.size=s1.heap.objs.size + 1:=F1 _ _;have a2:s1.heap.objs.size + 1≠a:=L7 (L6 (O9 Z))
 have Y:H1 (s1.heap.objs.size + 1)=zl:=U.hok.fresh (cI _);have keep:∀ b u,s1.heap.get? b=zo u->((s1.heap.push { cls:=.type "dict_items",data:=.fields #[.ref a] }).push { cls:=.type "dict_itemiterator",data:=.fields #[.none,.bool zb,.ref a,.int 0 0,.int vs.length 0,.int ep 0,.none,.none] }).get? b=zo u:=λb u e=>O1 _ (O1 _ e)
 refine ⟨s1.heap.objs.size + 1,[s1.heap.objs.size + 1],_,_,upd H1 a (.frz o (.dK kvs)),by rw [<- hsz],U.write (t':=s1.toks) (x:=a) (e:=a) (by rw [ea]; trivial) (.inl rfl) (λb u _ e=>keep b u e) ⟨o,keep a o Z⟩ ⟨keep a o Z,z,hs,vs,rv,(J.push _).push _⟩,
  Q9y a _ o kvs h2,⟨.none,.none,?_⟩,λb hb=>?_,q o (U.noFrz ea)⟩
 ·show ((s1.heap.push { cls:=.type "dict_items",data:=.fields #[.ref a] }).push { cls:=.type "dict_itemiterator",data:=.fields #[.none,.bool zb,.ref a,.int 0 0,.int vs.length 0,.int ep 0,.none,.none] }).get? (s1.heap.objs.size + 1)=_;rw [<- hsz,rv.length];exact D2 _ rfl
 ·have e:b=s1.heap.objs.size + 1:=by simpa using hb
  subst e;exact U.fpOk (cI _) (by rw [Q6 a2]; exact Y)
end L2
namespace L2
open PySem PySem.Spec PyProof.Rows PySem.W
end L2
namespace L2
open PySem PySem.Spec PyProof.Rows
variable {xs:Array Nat} {j n ep:Nat} {L:Bool} {h:Heap} {α K:Type} {o:Obj} {es:zAD} {Q:zAF} {a it l r:aB} {f:aA} {ys:Option (aB × List Nat)} {ns:List Int}
def Rise (xs:Array Nat):Prop:=xs.toList.Pairwise (· < ·)
def Rise.lt (r:Rise xs) {i a b:Nat} (hi:xs[i]?=zo a) (O:xs[j]?=zo b) (h:i < j):a < b:=by
 have q:=dy.mp r;obtain ⟨B,I⟩:=cp.mp hi;obtain ⟨G,J⟩:=cp.mp O;have:=q i j (by simpa using B) (by simpa using G) h;simp only [fJ] at this;rw [<- I,<- J]; exact this
def Qj8 (r:Rise xs):∀ B lo hi,hi - lo<=B->lo<=hi->hi<=xs.size->(∀ i v,xs[i]?=zo v->i < lo->v < j)->(∀ i v,xs[i]?=zo v->hi<=i->j<=v) ->
  SetTable.below.go xs j B lo hi<=xs.size/\∀ i v,xs[i]?=zo v->(i < SetTable.below.go xs j B lo hi <-> v < j):=by
 intro B
 induction B with
 | zero=>
  intro lo hi h1 h2 Y a b;have e:lo=hi:=by omega
  rw [SetTable.below.go];refine ⟨by omega,λi v G=>⟨a i v G,λh=>?_⟩⟩
  by_cases z:i < lo
  ·exact z
  ·have:=b i v G (); omega
 | succ B U=>
  intro lo hi h1 h2 Y a b;rw [SetTable.below.go]
  by_cases z:lo < hi
  ·rw [bX z];dsimp only;have O:(lo + hi) / 2 < xs.size:=by omega
   have I:xs[(lo + hi) / 2]?=zo xs[(lo + hi) / 2]:=bv O;have Z:xs.getD ((lo + hi) / 2) j=xs[(lo + hi) / 2]:=by simp [fK,O]
   rw [Z]
   by_cases y:xs[(lo + hi) / 2] < j
   ·rw [bX y];refine U _ _ () () Y (λi v G J=>?_) b
    by_cases q:i=(lo + hi) / 2
    ·subst q; rw [I] at G; cases G; exact y
    ·have:=r.lt G I (); omega
   ·rw [bY y];refine U _ _ () () () a λi v G J=>?_
    by_cases q:i=(lo + hi) / 2
    ·subst q; rw [I] at G; cases G; omega
    ·have:=r.lt I G (); omega
  ·rw [bY z];refine ⟨by omega,λi v G=>⟨a i v G,λh=>?_⟩⟩
   by_cases q:i < lo
   ·exact q
   ·have:=b i v G (); omega
def Q0h (r:Rise xs):SetTable.below xs j<=xs.size/\∀ i v,xs[i]?=zo v->(i < SetTable.below xs j <-> v < j):=
 Qj8 r _ _ _ () (L5 _) (O6 _) (λi v _ h=>absurd h (fL _)) λi v q h=>by
  have:=(cp.mp q).1; omega
def Good (L:Bool) (t:aW):Prop:=Rise t.place/\t.dummies=#[]/\t.led=L
def Qaa (n:Nat):Rise (Array.range n):=by
 unfold Rise;rw [Array.toList_range];exact gg
def Good.standIn {t:aW} (g:Good L t) (n:Nat):Good L (t.standIn n):=⟨Qaa n,rfl,g.2.2⟩
def Good.orStandIn {t:aW} (g:Good L t) (n:Nat):Good L (t.orStandIn n):=by
 unfold SetTable.orStandIn
 split
 ·exact g
 ·exact g.standIn n
def Good.unplain {t:aW} (g:Good L t):Good L { t with plain:=zb }:=g
def Q83 (r:Rise xs) (h:j∉xs.toList):Rise (SetTable.insertAt xs (SetTable.below xs j) j):=by
 obtain ⟨_,b⟩:=Q0h (j:=j) r;unfold Rise;rw [SetTable.toList_insertAt];have lo:∀ v∈xs.toList.take (SetTable.below xs j),v < j:=λv B=>by
  obtain ⟨i,hi,e⟩:=cq B;rw [cU] at hi;refine (b i v ?_).mp ();rw [<- cQ,<- e,List.getElem_take,O2]
 have hi:∀ v∈xs.toList.drop (SetTable.below xs j),j < v:=λv B=>by
  obtain ⟨i,hi,e⟩:=cq B;rw [cr] at hi;have I:xs[SetTable.below xs j + i]?=zo v:=by
   rw [<- cQ,<- e,List.getElem_drop,O2]
  have q:¬ v < j:=λz=>by have:=(b _ v I).mpr z; omega
  have ne:v≠j:=λz=>h (by rw [<- z]; exact fM B)
  omega
 refine dz.mpr ⟨fN.sublist (gC _ _) r,F9.mpr ⟨hi,fN.sublist (List.drop_sublist _ _) r⟩,λx J y G=>?_⟩
 rcases D3.mp G with rfl | G
 ·exact lo x J
 ·exact gW (lo x J) (hi y G)
def Qa6 {t:aW} (r:Rise t.place) (h:t.slot j=.empty):j∉t.place.toList:=λG=>by
 obtain ⟨I,b⟩:=Q0h (j:=j) r;obtain ⟨i,hi,e⟩:=cq G;have q:t.place[i]?=zo j:=by rw [<- cQ,<- e,O2]
 have n1:¬ i < SetTable.below t.place j:=λz=>by have:=(b i j q).mp z; omega
 unfold SetTable.slot at h;dsimp only at h
 by_cases z:i=SetTable.below t.place j
 ·rw [<- z,q] at h;simp at h
 ·have B:SetTable.below t.place j < t.place.size:=by
   have:=(cp.mp q).1; omega
  have l:=r.lt (bv B) q ();have:=(b _ _ (bv B)).mpr l;omega
def Qhe {t:aW} (h:t.dummies=#[]):t.slot j≠.dummy:=by
 unfold SetTable.slot SetTable.has;dsimp only;rw [h]
 split
 ·exact λz=>nomatch z
 ·simp
def Qgr {t:aW} {h:Int} (hd:t.dummies=#[]):∀ B (p:SetTable.Probe) m,p.dummy=zl->SetTable.probe.go t (λ_=>h + 1) h B p=zo m->∃ j,m=.empty j zl/\t.slot j=.empty:=by
 intro B
 induction B with
 | zero=>intro p m _ e; rw [SetTable.probe.go] at e; cases e
 | succ B O=>
  intro p m I e;rw [SetTable.probe.go] at e;have G:∀ q:SetTable.Probe,q.dummy=zl->(t.advance q).dummy=zl:=λq J=>by
   unfold SetTable.advance
   split
   ·exact J
   ·exact J
  cases z:t.slot p.j with
  | empty=>rw [z] at e; cases e; exact ⟨p.j,by rw [I],z⟩
  | dummy=>exact absurd z (Qhe hd)
  | live i=>
   rw [z] at e;have ne:¬ ((h + 1 == h)=zi):=by simp; omega
   dsimp only at e;rw [bY ne] at e;exact O _ m (G p I) e
def Q98 {t:aW} {h:Int} (g:Good L t) {b:Bool} (e:t.freeSlot h=zo (j,b)):j∉t.place.toList/\b=zb:=by
 unfold SetTable.freeSlot at e;cases z:t.probe (λ_=>h + 1) h (t.probeStart h) with
 | none=>rw [z] at e; cases e
 | some m=>
  obtain ⟨i,rfl,hs⟩:=Qgr g.2.1 _ _ m rfl z;rw [z] at e;cases e;exact ⟨Qa6 g.1 hs,rfl⟩
def Good.put {t:aW} (g:Good L t) (h:j∉t.place.toList):Good L (t.put j).1:=by
 unfold SetTable.put;refine ⟨Q83 g.1 h,?_,g.2.2⟩;show (if SetTable.has t.dummies j=zi then _ else t.dummies)=#[];have:SetTable.has t.dummies j=zb:=by unfold SetTable.has; rw [g.2.1]; simp
 rw [this,bY (by simp)];exact g.2.1
def Good.layNew {L:Bool} {t:aW} (g:Good L t) (es:zAD) (h:Int) (x:aA):Good L (layNew t es h x).2.1:=by
 unfold PySem.layNew;cases z:t.freeSlot h with
 | none=>exact g.standIn _
 | some q=>
  obtain ⟨j,b⟩:=q;exact (g.put (Q98 g z).1).orStandIn _
def Good.relaid {t t':aW} (g:Good L t) {hs:Array Int} {o:Array Nat} (e:t.relaid hs n=zo (t',o)):Good L t':=by
 unfold SetTable.relaid SetTable.laid at e;cases z:SetTable.layClean (SetTable.sizeAbove n - 1) hs with
 | none=>rw [z] at e; cases e
 | some I=>
  rw [z] at e;cases e;refine ⟨?_,rfl,g.2.2⟩;show fN (· < ·) (cZ _ _);rw [dR];have G:∀ l:List Nat,l.Pairwise (· < ·)->(l.filterMap λj=>(I.getD j zl).map (j,·)).Pairwise λa b=>a.1 < b.1:=by
   intro l
   induction l with
   | nil=>intro _; exact .nil
   | cons x l J=>
    intro h;obtain ⟨h1,h2⟩:=F9.mp h;rw [dG];cases I.getD x zl with
    | none=>exact J h2
    | some k=>
     refine F9.mpr ⟨λb U=>?_,J h2⟩;obtain ⟨y,O,B⟩:=di.mp U;cases q:I.getD y zl with
     | none=>rw [q] at B; cases B
     | some Y=>rw [q] at B; cases B; exact h1 y O
  exact G _ gg
def Good.relayAll {L:Bool} {t:aW} (g:Good L t) (es:zAD) (n:Nat):Good L (relayAll t es n).2.1:=by
 unfold PySem.relayAll;cases z:t.relaid (es.map (·.1)) n with
 | none=>exact g.standIn _
 | some q=>
  obtain ⟨t',o⟩:=q;dsimp only
  split
  ·exact g.relaid z
  ·exact g.standIn _
theorem yr {α:Type}:∀ {l:List α} {i:Nat} (h:i < l.length),([l[i]] ++ l.eraseIdx i).Perm l
 | [],_,h=>absurd h (fL _)
 | a :: l,0,_=>cE _
 | a :: l,i + 1,h=>by
  have:=yr (l:=l) (i:=i) (by simpa using h);rw [List.eraseIdx_cons_succ,List.getElem_cons_succ];exact (dQ a _ _).trans (this.cons a)
def Qm1 (next:Nat->Nat):∀ q k (left:List α) out,left.length=q->(pickOrder.go next q k left out).toList.Perm (out.toList ++ left):=by
 intro q
 induction q with
 | zero=>intro k left out h; rw [eA.mp h,pickOrder.go,E9]
 | succ q G=>
  intro k left out h;rw [pickOrder.go];have B:next k % left.length < left.length:=gh _ ();rw [O2 B];refine (G (k + 1) _ _ (by rw [gi B]; omega)).trans ?_;rw [gj,F4];refine iO _ ?_;exact yr B
def Qdg (next:Nat->Nat) (xs:Array α):(pickOrder next xs).toList.Perm xs.toList:=by
 have:=Qm1 next xs.size 0 xs.toList #[] (by simp);simpa [pickOrder] using this
def Q1f {β:Type} {F:α->β->Prop} {l I:List α} (p:I.Perm l):∀ {ks:List β},aY F l ks->∃ q,aY F I q/\q.Perm ks:=by
 induction p with
 | nil=>intro ks h; exact ⟨ks,h,cE _⟩
 | cons x _ U=>
  intro ks h;cases h with
  | cons r t=>
   obtain ⟨q,h1,h2⟩:=U t;exact ⟨_,.cons r h1,h2.cons _⟩
 | swap x y l=>
  intro ks h;cases h with
  | cons r t=>
   cases t with
   | cons J t'=>exact ⟨_,.cons J (.cons r t'),dQ _ _ _⟩
 | trans _ _ G B=>
  intro ks h;obtain ⟨k1,h1,O⟩:=B h;obtain ⟨k2,h2,p2⟩:=G h1;exact ⟨k2,h2,p2.trans O⟩
theorem Q1e {α β:Type} {F:α->β->Prop} {a:α} {b:β} (r:F a b):∀ {l:List α} {ks:List β},aY F l ks->aY F (l ++ [a]) (ks ++ [b])
 | _,_,.nil=>.cons r .nil
 | _,_,.cons q t=>.cons q (Q1e r t)
theorem Q3t {α β:Type} {F:α->β->Prop} {b:β}:∀ {l:List α} {ks:List β},aY F l ks->b∈ks->∃ a∈l,F a b
 | _,_,.nil,h=>by cases h
 | _,_,.cons (a:=a) r t,h=>by
  rcases D3.mp h with rfl | h
  ·exact ⟨a,by simp,r⟩
  ·obtain ⟨x,B,q⟩:=Q3t t h;exact ⟨x,O7 _ B,q⟩
theorem jf {α β:Type} {F:α->β->Prop} {a:α}:∀ {l:List α} {ks:List β},aY F l ks->a∈l->∃ b∈ks,F a b
 | _,_,.nil,h=>by cases h
 | _,_,.cons (b:=b) r t,h=>by
  rcases D3.mp h with rfl | h
  ·exact ⟨b,by simp,r⟩
  ·obtain ⟨x,B,q⟩:=jf t h;exact ⟨x,O7 _ B,q⟩
section
variable {prog:aL} {w:aK} {K:Type} [DecidableEq K]
def ElK (knd:KeyKind prog w K) (e:Int × aA) (k:K):Prop:=knd.is k e.2=zi/\e.1=knd.hash k/\e.2.scannable=zi
def GO (knd:KeyKind prog w K) (L:Bool) (o:Obj) (ks:List K):Prop:=
 o.ExactSet/\∃ es ep t,o.data=.set es ep t/\(∃ ks',ks'.Perm ks/\aY (ElK knd) es.toList ks')/\es.size < bD/\t.fits es.size=zi/\Good L t
def GS (knd:KeyKind prog w K) (L:Bool) (h:Heap) (a:aB) (ks:List K):Prop:=∃ o,h.get? a=zo o/\GO knd L o ks
variable {knd:KeyKind prog w K} {L:Bool} {A:aP} {E:zAF} {s:aC} {a:aB}
def GS.at {h':Heap} {ks:List K} (g:GS knd L h a ks) (k:∀ o,h.get? a=zo o->h'.get? a=zo o):GS knd L h' a ks:=let ⟨o,e,r⟩:=g; ⟨o,k o e,r⟩
def Qsh {es:List (Int × aA)} {ks:List K} (r:aY (ElK knd) es ks):ElemsOf knd es:=λe B=>by
 obtain ⟨k,_,q⟩:=jf r B;exact ⟨⟨k,q.1,q.2.1⟩,q.2.2⟩
def Q94 {q:zAD} {t t':aW} {ks:List K} (J:h.get? a=zo o) (Y:o.ExactSet) (hd:o.data=.set es ep t) (I:∃ B,B.Perm ks/\aY (ElK knd) q.toList B) (U:q.size < bD) (O:t'.fits q.size=zi) (G:Good L t') :
  (h.update a (eB q t')).get? a=zo { o with data:=.set q (ep + 1) t' }/\GS knd L (h.update a (eB q t')) a ks:=by
 have e:=Heap.get?_update_self (eB q t') J (by rw [putSet_of q t' hd]; rfl);rw [putSet_of q t' hd] at e;exact ⟨e,_,e,Y,q,ep + 1,t',rfl,I,U,O,G⟩
def Qce {gv:Bool->Sem Unit} (O:∀ (b:Bool) (s':aC) (Z:Unit->aC->Prop),Z PUnit.unit s'->aF (aI prog w) A (gv b) Z E s') {q:zAD} {t t2:aW} {ks:List K} (Y:s.heap.get? a=zo o) (hx:o.ExactSet) (hd:o.data=.set es ep t)
  (hr:∃ B,B.Perm ks/\aY (ElK knd) q.toList B) (I:q.size < bD) (hf:t2.fits q.size=zi) (hg:Good L t2) {wd:Bool} {R:Option Bool->aC->Prop} (h:∀ h',Heap.SameBut a s.heap h'->GS knd L h' a ks->R (zo zi) { s with heap:=h' }) :
  aF (aI prog w) A (do
    storeSet a q t2
    if (!wd && t2.tooFull)=zi then do
        gv (relayAll t2 q (SetTable.grown q.size)).2.2
        storeSet a (relayAll t2 q (SetTable.grown q.size)).1 (relayAll t2 q (SetTable.grown q.size)).2.1
        pure (zo zi)
     else pure (zo zi)) R E s:=by
 refine aD (wpAny_storeSet_of Y hd ?_ (fits_of_scanBound I));obtain ⟨o1,g1⟩:=Q94 (knd:=knd) (L:=L) Y hx hd hr I hf hg;have sb:=Heap.SameBut.update s.heap a (eB q t2)
 split
 ·have p:=relayAll_perm t2 q (SetTable.grown q.size);have f:=relayAll_fits t2 q (SetTable.grown q.size);have J:=hg.relayAll q (SetTable.grown q.size);generalize relayAll t2 q (SetTable.grown q.size)=rl at p f J ⊢;obtain ⟨G,t3,a1⟩:=rl;dsimp only at p f J ⊢;have hz:G.size=q.size:=by rw [<- cB,p.length_eq,cB]
  have U:∃ B,B.Perm ks/\aY (ElK knd) G.toList B:=by
   obtain ⟨k1,p1,r1⟩:=hr;obtain ⟨k2,r2,p2⟩:=Q1f p r1;exact ⟨k2,p2.trans p1,r2⟩
  refine aD (O _ _ _ ?_);refine aD (wpAny_storeSet_of o1 rfl ?_ (fits_of_scanBound (by rw [hz]; exact I)));obtain ⟨_,g2⟩:=Q94 (knd:=knd) (L:=L) o1 hx rfl U (by rw [hz]; exact I) f J;exact aJ (h _ (sb.trans (Heap.SameBut.update _ a _)) g2)
 ·exact aJ (h _ sb g1)
def yw (ks:List K) (k:K):List K:=if k∈ks then ks else ks ++ [k]
def Qsb {ks:List K} {k:K} {x:aA} {Q:Bool->aC->Prop} (hk:knd.is k x=zi) (hs:x.scannable=zi) (g:GS knd L s.heap a ks) (B:ks.length + 1 < bD)
  (h:∀ b h',Heap.SameBut a s.heap h'->GS knd L h' a (yw ks k)->Q b { s with heap:=h' }):aF (aI prog w) A (setAddHashed a x (knd.hash k)) Q E s:=by
 obtain ⟨o,U,hx,es,ep,t,hd,⟨k0,Y,J⟩,hb,hf,hg⟩:=g;have a3:=Qsh J;have hn:es.size=ks.length:=by rw [<- cB,Paired.length J,Y.length_eq]
 unfold setAddHashed setAddHashedIn;refine ak (aD (wpAny_setState_of U hd hf ?_));dsimp only;rw [byScan_of hs hb a3,bX rfl];unfold setAddByScan;refine aD ?_;refine aD (bJ ?_);refine aD (wpAny_setScan_of hk U hd hf a3 ?_);cases z:List.findIdx? (λe=>knd.is k e.2) es.toList with
 | some j=>
  dsimp only;obtain ⟨hj,pj,_⟩:=gl.mp z;have km:k∈ks:=by
   obtain ⟨k',a4,q⟩:=jf J (cP hj);have:=knd.inj _ k k' pj q.1;rw [this]; exact Y.mem_iff.mp a4
  refine aJ (aJ ?_);have e:s={ s with heap:=s.heap }:=by cases s; rfl
  rw [e];refine h _ s.heap (Heap.SameBut.refl a s.heap) ?_;unfold yw;rw [bX km];exact ⟨o,U,hx,es,ep,t,hd,⟨k0,Y,J⟩,hb,hf,hg⟩
 | none=>
  dsimp only;have km:k∉ks:=λhm=>by
   obtain ⟨e,he,q⟩:=Q3t J (Y.mem_iff.mpr hm);have:=List.findIdx?_eq_none_iff.mp z e he;rw [q.1] at this; exact Bool.noConfusion this
  have p:=layNew_perm t es (knd.hash k) x;have f:=layNew_fits t es (knd.hash k) x;have O:=hg.layNew es (knd.hash k) x;generalize layNew t es (knd.hash k) x=ly at p f O ⊢;obtain ⟨a2,t1,wd,a5⟩:=ly;dsimp only at p f O ⊢;rw [gj] at p;have hr:∃ a1,a1.Perm (yw ks k)/\aY (ElK knd) a2.toList a1:=by
   obtain ⟨k1,r1,p1⟩:=Q1f p (Q1e (F:=ElK knd) (a:=(knd.hash k,x)) (b:=k) ⟨hk,rfl,hs⟩ J);refine ⟨k1,p1.trans ?_,r1⟩;unfold yw;rw [bY km];exact Y.append_right _
  have hz:a2.size=ks.length + 1:=by rw [<- cB,p.length_eq,D4,cB,hn]; rfl
  have I:∀ (b:Bool) (s':aC) (Z:Unit->aC->Prop),Z PUnit.unit s'->aF (aI prog w) A (match b with | true=>rule "set.scan.the-table-gave-way" | false=>pure PUnit.unit) Z E s':=λb s' Z q=>by
   cases b
   ·exact aJ q
   ·exact bJ q
  refine aD (I _ _ _ ?_);have fin:∀ h',Heap.SameBut a s.heap h'->GS knd L h' a (yw ks k)->aF (aI prog w) A (match zo zi with | some G=>pure G | none=>setAddHashedIn a x (knd.hash k) 99999) Q E { s with heap:=h' }:=λh' sb g=>aJ (h _ h' sb g)
  split
  ·refine aD ?_;rw [hashByValue_scannable 8 hs];refine aJ ?_;refine Qce (wd:=wd) I U hx hd hr (by rw [hz]; exact B) ?_ ?_ fin
   ·split
    ·exact f
    ·exact SetTable.fits_plain_off f
   ·split
    ·exact O
    ·exact O.unplain
  ·refine aD (aJ ?_);simp only [↓reduceIte];exact Qce (wd:=wd) I U hx hd hr (by rw [hz]; exact B) f O fin
end
def Q24:entryFor table "set.__iter__" = zo Builtin.«frozenset.__iter__»:=entryFor_alias (id' := "frozenset.__iter__") (by kernel_rfl) rfl (by decide +kernel) (by kernel_rfl)
def slot_setit_next:Slot "set_iterator" "__next__" "set_iterator.__next__" :=
 .of (owner := "set_iterator") (n := "__next__") (by rw [typeLookup_type,builtinLookup_eq_fast]; kernel_rfl) (by decide +kernel) (by decide +kernel) (by decide +kernel) (by first | exact .inl (by decide +kernel) | exact .inr (by decide +kernel)) (by rw [bL]; kernel_rfl)
def Kh:entryFor table "set_iterator.__next__" = zo Builtin.«set_iterator.__next__»:=entryFor_of_tree (by kernel_rfl)
def Q1g:Manifest.owners.lookup (String.ofList ['r','o','t','a','r','e','t','i','_','t','e','s'].reverse)=zo Manifest.sig_set_iterator:=by kernel_rfl
def qu (a:aA):argsOk "set_iterator.__next__" ⟨[a],[]⟩:=by
 unfold argsOk; rw [signature?_of (id := "set_iterator.__next__") (n:=['_','_','t','x','e','n','_','_']) (o:=['r','o','t','a','r','e','t','i','_','t','e','s']) (by kernel_rfl) Q1g]; kernel_rfl
def SetIt (h:Heap) (it:aB) (f:aA) (i:Nat) (d:aB) (n ep:Nat):Prop:=
 h.get? it=zo { cls:=.type "set_iterator",dict:=zl,data:=.fields #[f,aS i,.ref d,aS n,aS ep],slots:=#[] }
def RawS (h:Heap) (a:aB) (es:zAD) (ep:Nat) (t:aW):Prop:=∃ o,h.get? a=zo o/\o.ExactSet/\o.data=.set es ep t
def RawS.at {h':Heap} {t:aW} (x:RawS h a es ep t) (k:∀ o,h.get? a=zo o->h'.get? a=zo o):RawS h' a es ep t:=let ⟨o,e,r⟩:=x; ⟨o,k o e,r⟩
def RawS.lt {t:aW} (x:RawS h a es ep t):a < h.objs.size:=let ⟨_,e,_⟩:=x; O9 e
def SetIt.at {h':Heap} {d:aB} {i:Nat} (x:SetIt h it f i d n ep) (k:∀ o,h.get? it=zo o->h'.get? it=zo o):SetIt h' it f i d n ep:=k _ x
variable {prog:aL} {A:aP} {E:zAF} {s:aC}
section
variable {w:aK}
def RawS.typeIs {t:aW} (x:RawS s.heap a es ep t):s.TypeIs (.ref a) "set" := let ⟨o,e,r,_⟩:=x; ⟨o,e,r.1⟩
def SetIt.typeIs {d:aB} {i:Nat} (x:SetIt s.heap it f i d n ep):s.TypeIs (.ref it) "set_iterator" := ⟨_,x,rfl⟩
def Xk {t:aW} {Q:(zAD × Nat × aW)->aC->Prop} (x:RawS s.heap a es ep t) (q:t.fits es.size=zi) (h:Q (es,ep,t) s):aF (aI prog w) A (setState a) Q E s:=by
 obtain ⟨o,B,_,hd⟩:=x;exact wpAny_setState_of B hd q h
def Qb5 {Q:Nat->aC->Prop} (q:n≠0) (h:∀ i d',i < n->Q i { s with drawn:=d' }):aF (aI prog w) A (choose .order n) Q E s:=λΓ p _=>⟨q,h _ _ (gh _ ())⟩
def Qic :∀ (n:Nat) (xs:List α) (s:aC) {Q:List α->aC->Prop},xs.length=n->(∀ ys d',ys.Perm xs->Q ys { s with drawn:=d' })->aF (aI prog w) A (drawOrder n xs) Q E s:=by
 intro n
 induction n with
 | zero=>
  intro xs s Q hl h;rw [eA.mp hl] at h ⊢;rw [drawOrder];exact aJ (h [] s.drawn (cE _))
 | succ n G=>
  intro xs s Q hl h;cases xs with
  | nil=>cases hl
  | cons x xs=>
   rw [drawOrder]
   ·refine aD (Qb5 (by simp) λi d' hi=>?_)
    rw [O2 hi];refine aD (G _ _ (by rw [gi hi]; omega) λys B q=>?_)
    exact aJ (h _ B ((q.cons _).trans (yr hi)))
   ·simp
end
section
variable {w:aK}
def Qkg {t:aW} {Q:Nat->aC->Prop} (x:RawS s.heap a es ep t) (q:t.fits es.size=zi) (h:Q es.size s):aF (aI prog w) A (Builtin.Frozenset.sizeOf a) Q E s:=by
 unfold Builtin.Frozenset.sizeOf setEntries;exact aD (aD (Xk x q (aJ (aJ h))))
def Q81 {t:aW} {Q:Nat->aC->Prop} (x:RawS s.heap a es ep t) (q:t.fits es.size=zi) (h:Q ep s):aF (aI prog w) A (setEpoch a) Q E s:=by
 unfold setEpoch;exact aD (Xk x q (aJ h))
def Q3d {t:aW} {Q:zAD->aC->Prop} (x:RawS s.heap a es ep t) (q:t.fits es.size=zi) (h:Q es s):aF (aI prog w) A (setEntries a) Q E s:=by
 unfold setEntries;exact aD (Xk x q (aJ h))
def Q0t {Q:Bool->aC->Prop} (h:Q (w.params.followText "set-order") s):aF (aI prog w) A setsByText Q E s:=by
 unfold setsByText;exact aD (wpAny_askSetting (aJ h))
def drw (w:aK) (n:Nat) (t:aW):Bool:=!w.params.followText "set-order" && (!t.plain && decide (n > 1))
def Qg6 {t:aW} {Q:Bool->aC->Prop} (x:RawS s.heap a es ep t) (q:t.fits es.size=zi) (h:Q (drw w es.size t) s):aF (aI prog w) A (setDrawn a) Q E s:=by
 unfold setDrawn;exact aD (Xk x q (aD (Q0t (aJ h))))
def Qfw {t:aW} {Q:zAF} (x:RawS s.heap a es ep t) (q:t.fits es.size=zi) (hz:es.size<=sizeLine)
  (h1:drw w es.size t=zb->Q (.ref s.heap.objs.size) { s with heap:=s.heap.push { cls:=.type "set_iterator",data:=.fields #[aS 0,aS 0,.ref a,aS es.size,aS ep] } })
  (h2:drw w es.size t=zi->∀ (ys:List Nat) (d':Drawn),ys.Perm (bc es.size) ->
   Q (.ref (s.heap.objs.size + 1)) { s with heap:=(s.heap.push { cls:=.type "tuple",data:=.seq (ys.map λ(i:Nat)=>aS i).toArray }).push { cls:=.type "set_iterator",data:=.fields #[.ref s.heap.objs.size,aS 0,.ref a,aS es.size,aS ep] },drawn:=d' }) :
  aF (aI prog w) A (pyIter (.ref a)) Q E s:=by
 refine wpAny_pyIter_slot x.typeIs gm (au gm x.typeIs Q24 ?_ (PySem.F.args_set_iter_1 _));unfold Builtin.«frozenset.__iter__» Builtin.Frozenset.slot0 Builtin.Frozenset.addrOf slotArgs;show aF _ _ (pure a >>= _) _ _ _;refine aD (aJ ?_);refine aD (Qkg x q ?_);refine aD (Qg6 x q ?_);cases z:drw w es.size t with
 | false=>
  rw [bY E1];refine aD (aJ ?_);refine aD (Q81 x q ?_);refine aD (bA ?_);exact aJ ⟨_,rfl, "set_iterator",_,⟨_,D2 _ rfl,rfl⟩,slot_setit_next.lookup,h1 z⟩
 | true=>
  rw [bX rfl];refine aD ?_;refine Qic _ _ _ F7 λys d' B=>?_
  refine aD (wpAny_newTuple ?_ (by rw [O3,B.length_eq,F7]; exact hz));have G:RawS (s.heap.push { cls:=.type "tuple",data:=.seq (ys.map λ(i:Nat)=>aS i).toArray }) a es ep t:=x.at λo e=>O1 _ e
  refine aD (Q81 (s:={ s with heap:=s.heap.push { cls:=.type "tuple",data:=.seq (ys.map λ(i:Nat)=>aS i).toArray },drawn:=d' }) G q ?_)
  refine aD (bA ?_);refine aJ ⟨_,rfl, "set_iterator",_,⟨_,D2 _ rfl,rfl⟩,slot_setit_next.lookup,?_⟩;have:=h2 z ys d' B
  rwa [show s.heap.objs.size + 1=(s.heap.push { cls:=.type "tuple",data:=.seq (ys.map λ(i:Nat)=>aS i).toArray }).objs.size from (F1 _ _).symm] at this
end
def byT (w:aK):Bool:=!w.params.followText "set-order"
def Jk (w:aK):Obj:={ cls:=.type "set",dict:=zl,data:=.set #[] 0 (.fresh 0 0 (byT w)) }
def Ys {K:Type} [DecidableEq K] (ks:List K):List K:=ks.foldl yw []
def Qdx [DecidableEq K] (ks:List K) (k:K):Ys (ks ++ [k])=yw (Ys ks) k:=by unfold Ys; rw [fH]; rfl
theorem jx {K:Type} [DecidableEq K]:∀ (ks q:List K),(ks.foldl yw q).length<=q.length + ks.length
 | [],q=>by simp
 | k :: ks,q=>by
  have h1:=jx ks (yw q k);have h2:(yw q k).length<=q.length + 1:=by unfold yw; split <;> simp
  rw [cV,E7];omega
def Qhm [DecidableEq K] (ks:List K):(Ys ks).length<=ks.length:=by unfold Ys; have:=jx ks []; simpa using this
section
variable {prog:aL} {w:aK} {K:Type} [DecidableEq K] {knd:KeyKind prog w K} {A:aP} {R:Result->aC->Prop}
def Q7x {I D:aB} {fp:List aB} {P:Nat->aA->Prop} {St:Nat->Heap->Prop} {ks:List K} (W:Walks prog w A.in1 I fp [I] n P St) (hD:D∉fp) (hn:n=ks.length)
  (hv:∀ i v,P i v->∃ k,ks[i]?=zo k/\knd.is k v=zi/\v.scannable=zi) (G:ks.length + 1 < bD) :
  ∀ (k i:Nat) (s:aC),n - i=k->i<=n->St i s.heap->GS knd (byT w) s.heap D (Ys (ks.take i)) ->
   (∀ h' J,GS knd (byT w) h' D (Ys ks)->(∀ b o,b∉[D,I]->s.heap.get? b=zo o->h'.get? b=zo o)->R (.ok (.ret .none)) { s with heap:=h',toks:=J }) ->
   codeAny (aI prog w) A (.builtin "set.update.loop" ⟨[.ref D,.ref I],[]⟩) R s:=by
 have a1:D≠I:=λz=>hD (W.sub D (by simp [z]))
 intro k
 induction k with
 | zero=>
  intro i s hk hi B g hR;have e:i=n:=by omega
  subst e;refine bK gn ?_;rw [Around.under_plainId fO _];show aF _ A.in1 (ao (.ref I) >>= _) _ _ s;refine aD (W.done s _ _ B λh' J Z=>?_);show aF _ A.in1 (ret bi) _ _ _;rw [hn,cx] at g;exact aJ (hR h' J (g.at λo q=>Z D o (by simpa using a1) q) λb o a3 q=>Z b o (λz=>a3 (O7 _ z)) q)
 | succ k ih=>
  intro i s hk hi B g hR;have Y:i < n:=by omega
  refine bK gn ?_;rw [Around.under_plainId fO _];show aF _ A.in1 (ao (.ref I) >>= _) _ _ s;refine aD (W.item i s _ _ Y B λv h1 J hP U Z=>?_);obtain ⟨x,hx,h2,h3⟩:=hv i v hP;have g1:GS knd (byT w) h1 D (Ys (ks.take i)):=g.at λo q=>Z D o (by simpa using a1) q
  show aF _ A.in1 (aw [v] (setAdd D v) >>= _) _ _ _;refine aD (ak ?_);unfold setAdd;refine ak (aD (knd.pyHash (k:=x) h2 ?_));have O:(Ys (ks.take i)).length + 1 < bD:=by
   have:=Qhm (ks.take i);have:(ks.take i).length<=ks.length:=by rw [cU]; omega
   omega
  refine Qsb (knd:=knd) (s:={ s with heap:=h1,toks:=J + 1 }) h2 h3 g1 O λb h' sb g2=>?_
  have e1:ks.take (i + 1)=ks.take i ++ [x]:=by rw [dn,hx]; rfl
  rw [<- Qdx,<- e1] at g2;refine aJ ⟨bQ fO _,ih (i + 1) _ () Y (W.frame _ h1 h' U λb G o q=>?_) g2 λh' a2 g' k'=>hR h' a2 g' λb o G q=>k' b o G ?_⟩
  ·exact (sb.2 b λz=>hD (by rw [<- z]; exact G)).trans q
  ·refine (sb.2 b λz=>G (by simp [z])).trans (Z b o (λz=>G (O7 _ z)) q)
def Qbq {E:zAF} (a:aA) {Z:zAF} (h:Z (.ref s.heap.objs.size) { s with heap:=s.heap.push (Jk w) }) :
  codeAny (aI prog w) A (.call (.builtin "set.__new__") ⟨[.type "set",a],[]⟩) (wants Z E) s:=by
 refine codeAny_of_tree ?_;show aF _ A.in1 (do checkBuiltinCall "set.__new__" ⟨[.type "set",a],[]⟩; again (.builtin "set.__new__" ⟨[.type "set",a],[]⟩)) _ _ s;refine aD (wpAny_of_eq (F.newCall_set_1 a) (aJ ⟨bQ F.plain_set_new _,bK F.entry_set_new ?_⟩));rw [Around.under_plainId F.plain_set_new _];unfold Builtin.«set.__new__» Builtin.Frozenset.newClass;have hs:=sub_set_self;unfold Jk byT at h;obtain ⟨q,g,d,B,os⟩:=s;dsimp only
 wp_walk
 refine wpAny_askSetting (aJ ?_);dsimp only;simp only [newObj];refine aD (wpAny_alloc (aJ ?_));exact aJ h
def Q4v:isSubtype (.type "list") (.type "set")=pure zb:=by rw [bL]; kernel_rfl
def Q31:isSubtype (.type "list") (.type "frozenset")=pure zb:=by rw [bL]; kernel_rfl
set_option maxHeartbeats 3200000 in
def Q7w {E:zAF} {B:Array aA} {ks:List K} {Q:zAF} (hh:A.handled=zl) (hl:s.heap.IsList l B) (hn:B.size=ks.length)
  (hv:∀ (i:Nat) (v:aA),B[i]?=zo v->∃ k,ks[i]?=zo k/\knd.is k v=zi/\v.scannable=zi) (hb:ks.length + 1 < bD)
  (h:∀ h' J,GS knd (byT w) h' s.heap.objs.size (Ys ks)->(∀ b o,s.heap.get? b=zo o->h'.get? b=zo o)->Q (.ref s.heap.objs.size) { s with heap:=h',toks:=J }) :
  aF (aI prog w) A (call (.type "set") [.ref l]) Q E s:=by
 obtain ⟨cc,tl,a9⟩:=F.called_set.mro;have m1:=F.called_set.made;have m2:=F.called_set.sub;refine wpAny_call (codeAny_of_tree ?_);show aF _ _ (callAny (.type "set") _) _ _ _;refine aJ ⟨Code.quiet_builtin _ (by decide +kernel),bK F.entry_type_call ?_⟩;rw [Around.under_plain (weight_type_call_type "set" [.ref l] []) rfl];have m3:=F.called_set.notType;have m4:=F.called_set.canCreate;have m5:=F.typeCall_set_1 (.ref l)
 repeat (any_goals (first | assumption | wp_step))
 refine bN (Qbq (.ref l) (E:=E) (Z:=λob s1=>ob=.ref s.heap.objs.size/\s1={ s with heap:=s.heap.push (Jk w) }) ⟨rfl,rfl⟩) λrr s1 q=>?_
 cases rr with
 | error e=>exact q
 | ok fl=>
  cases fl with
  | ret ob=>
   obtain ⟨rfl,rfl⟩:=q;have o1:(s.heap.push (Jk w)).get? s.heap.objs.size=zo (Jk w):=D2 _ rfl;have hT:Shared.TypeIs { s with heap:=s.heap.push (Jk w) } (.ref s.heap.objs.size) "set" := ⟨_,o1,rfl⟩;have n1:=F.called_set.init.lookup;have n2:=F.called_set.init.bind (.ref s.heap.objs.size)
   repeat (any_goals (first | assumption | wp_step))
   refine bN (codeAny_call_builtin (R:=wants (λr s2=>r=.none/\∃ h' J,s2={ s with heap:=h',toks:=J }/\GS knd (byT w) h' s.heap.objs.size (Ys ks)/\∀ b o,s.heap.get? b=zo o->h'.get? b=zo o) E) F.called_set.init.plain F.entry_set_init (check_set_init_1 hT ?_)) λr2 s2 q2=>?_
   ·obtain ⟨ol,Y,a5,nl,a4⟩:=hl;obtain ⟨b3,O,a8,G⟩:=ol;simp only at a5 a4;subst a5; subst a4;have I:(s.heap.push (Jk w)).get? l=zo { cls:=.type "list",dict:=O,data:=.seq B nl,slots:=G }:=O1 _ Y;have a1:=Q4v;have a2:=Q31;have a3:(bw "list" == bw "dict")=zb:=by decide
    have U:(s.heap.push (Jk w)).IsList l B:=⟨_,I,rfl,nl,rfl⟩;unfold Jk at o1 hT I U ⊢;unfold Builtin.«set.__init__» noKeywords Builtin.Frozenset.updateFrom;generalize a7:pyIter=PI
    wp_walk
    subst a7;refine wpAny_pyIter_list U ?_;refine aD (wpAny_runValue ?_);have b0:l < s.heap.objs.size:=O9 Y;have b1:l≠(s.heap.push (Jk w)).objs.size:=by rw [F1]; exact D9 (L6 b0)
    have b2:s.heap.objs.size≠(s.heap.push (Jk w)).objs.size:=by rw [F1]; exact D9 (cX _)
    have W:=Walks.list (prog:=prog) (w:=w) (A:=A.in1.in1.in1) (by simpa using hh) (s.heap.push (Jk w)).objs.size l b1 B;refine Q7x (knd:=knd) W (by simp only [D3,dB,or_false,not_or]; exact ⟨b2,L7 b0⟩) hn (λi v hP=>hv i v hP) hb B.size 0 _ () (L5 _) ⟨⟨_,D2 _ rfl,rfl,rfl⟩,U.push _⟩ ?g0 λh' J g' k'=>?gR
    case g0=>
     refine ⟨_,O1 _ o1,⟨rfl,rfl,rfl⟩,#[],0,_,rfl,⟨[],by simp [Ys],.nil⟩,by unfold bD; simp,by rfl,?_,rfl,rfl⟩;exact cW
    case gR=>
     show aF _ _ _ _ _ _;refine aJ ?_;show aF _ _ (ret bi) _ _ _;refine aJ ⟨rfl,h',J,rfl,g',λb o e=>?_⟩;have c0:=O9 e;refine k' b o ?_ (O1 _ (O1 _ e));simp only [D3,dB,or_false,not_or];exact ⟨D9 c0,D9 (by rw [F1]; exact L6 c0)⟩
   ·cases r2 with
    | error e=>exact q2
    | ok a6=>
     cases a6 with
     | ret r=>
      obtain ⟨rfl,h',J,rfl,g',k'⟩:=q2
      repeat (any_goals (first | assumption | wp_step))
      exact h h' J g' k'
     | _=>exact q2.elim
  | _=>exact q.elim
def Q30:isSubtype (.type "tuple") (.type "set")=pure zb:=by rw [bL]; kernel_rfl
def Q1v:isSubtype (.type "tuple") (.type "frozenset")=pure zb:=by rw [bL]; kernel_rfl
set_option maxHeartbeats 3200000 in
def Q6p {E:zAF} {B:Array aA} {ks:List K} {Q:zAF} (hh:A.handled=zl) (hl:s.heap.IsTuple l B) (hn:B.size=ks.length)
  (hv:∀ (i:Nat) (v:aA),B[i]?=zo v->∃ k,ks[i]?=zo k/\knd.is k v=zi/\v.scannable=zi) (hb:ks.length + 1 < bD)
  (h:∀ h' J,GS knd (byT w) h' s.heap.objs.size (Ys ks)->(∀ b o,s.heap.get? b=zo o->h'.get? b=zo o)->Q (.ref s.heap.objs.size) { s with heap:=h',toks:=J }) :
  aF (aI prog w) A (call (.type "set") [.ref l]) Q E s:=by
 obtain ⟨cc,tl,a9⟩:=F.called_set.mro;have m1:=F.called_set.made;have m2:=F.called_set.sub;refine wpAny_call (codeAny_of_tree ?_);show aF _ _ (callAny (.type "set") _) _ _ _;refine aJ ⟨Code.quiet_builtin _ (by decide +kernel),bK F.entry_type_call ?_⟩;rw [Around.under_plain (weight_type_call_type "set" [.ref l] []) rfl];have m3:=F.called_set.notType;have m4:=F.called_set.canCreate;have m5:=F.typeCall_set_1 (.ref l)
 repeat (any_goals (first | assumption | wp_step))
 refine bN (Qbq (.ref l) (E:=E) (Z:=λob s1=>ob=.ref s.heap.objs.size/\s1={ s with heap:=s.heap.push (Jk w) }) ⟨rfl,rfl⟩) λrr s1 q=>?_
 cases rr with
 | error e=>exact q
 | ok fl=>
  cases fl with
  | ret ob=>
   obtain ⟨rfl,rfl⟩:=q;have o1:(s.heap.push (Jk w)).get? s.heap.objs.size=zo (Jk w):=D2 _ rfl;have hT:Shared.TypeIs { s with heap:=s.heap.push (Jk w) } (.ref s.heap.objs.size) "set" := ⟨_,o1,rfl⟩;have n1:=F.called_set.init.lookup;have n2:=F.called_set.init.bind (.ref s.heap.objs.size)
   repeat (any_goals (first | assumption | wp_step))
   refine bN (codeAny_call_builtin (R:=wants (λr s2=>r=.none/\∃ h' J,s2={ s with heap:=h',toks:=J }/\GS knd (byT w) h' s.heap.objs.size (Ys ks)/\∀ b o,s.heap.get? b=zo o->h'.get? b=zo o) E) F.called_set.init.plain F.entry_set_init (check_set_init_1 hT ?_)) λr2 s2 q2=>?_
   ·obtain ⟨ol,Y,a5,nl,a4⟩:=hl;obtain ⟨b3,O,a8,G⟩:=ol;simp only at a5 a4;subst a5; subst a4;have I:(s.heap.push (Jk w)).get? l=zo { cls:=.type "tuple",dict:=O,data:=.seq B nl,slots:=G }:=O1 _ Y;have a1:=Q30;have a2:=Q1v;have a3:(bw "tuple" == bw "dict")=zb:=by decide
    have U:(s.heap.push (Jk w)).IsTuple l B:=⟨_,I,rfl,nl,rfl⟩;unfold Jk at o1 hT I U ⊢;unfold Builtin.«set.__init__» noKeywords Builtin.Frozenset.updateFrom;generalize a7:pyIter=PI
    wp_walk
    subst a7;refine bR U ?_;refine aD (wpAny_runValue ?_);have b0:l < s.heap.objs.size:=O9 Y;have b1:l≠(s.heap.push (Jk w)).objs.size:=by rw [F1]; exact D9 (L6 b0)
    have b2:s.heap.objs.size≠(s.heap.push (Jk w)).objs.size:=by rw [F1]; exact D9 (cX _)
    have W:=Walks.tuple (prog:=prog) (w:=w) (A:=A.in1.in1.in1) (by simpa using hh) (s.heap.push (Jk w)).objs.size l b1 B;refine Q7x (knd:=knd) W (by simp only [D3,dB,or_false,not_or]; exact ⟨b2,L7 b0⟩) hn (λi v hP=>hv i v hP) hb B.size 0 _ () (L5 _) ⟨⟨_,D2 _ rfl,rfl,rfl⟩,U.push _⟩ ?g0 λh' J g' k'=>?gR
    case g0=>
     refine ⟨_,O1 _ o1,⟨rfl,rfl,rfl⟩,#[],0,_,rfl,⟨[],by simp [Ys],.nil⟩,by unfold bD; simp,by rfl,?_,rfl,rfl⟩;exact cW
    case gR=>
     show aF _ _ _ _ _ _;refine aJ ?_;show aF _ _ (ret bi) _ _ _;refine aJ ⟨rfl,h',J,rfl,g',λb o e=>?_⟩;have c0:=O9 e;refine k' b o ?_ (O1 _ (O1 _ e));simp only [D3,dB,or_false,not_or];exact ⟨D9 c0,D9 (by rw [F1]; exact L6 c0)⟩
   ·cases r2 with
    | error e=>exact q2
    | ok a6=>
     cases a6 with
     | ret r=>
      obtain ⟨rfl,h',J,rfl,g',k'⟩:=q2
      repeat (any_goals (first | assumption | wp_step))
      exact h h' J g' k'
     | _=>exact q2.elim
  | _=>exact q.elim
end
def Ur (w:aK) (t:aW) (i:Nat):Nat:=if w.params.followText "set-order" = zi then 0 else if i=0 then 0 else t.place.getD (i - 1) 0 + 1
def Q6u (w:aK) (a:aB) (ep:Nat) (es:zAD):zAD:=if w.params.followText "set-order" = zi then pickOrder (w.params.setOrder a ep) es else es
def Q5n (w:aK) (a:aB) (ep:Nat) (es:zAD):(Q6u w a ep es).toList.Perm es.toList:=by
 unfold Q6u
 split
 ·exact Qdg _ _
 ·exact cE _
def Qdm (w:aK) (a:aB) (ep:Nat) (es:zAD):(Q6u w a ep es).size=es.size:=by
 have:=(Q5n w a ep es).length_eq;simpa using this
def Qbb (r:Rise xs) {i:Nat} (h:i < xs.size):SetTable.below xs (xs.getD i 0 + 1)=i + 1:=by
 obtain ⟨G,b⟩:=Q0h (j:=xs.getD i 0 + 1) r;have B:xs[i]?=zo (xs.getD i 0):=by rw [bv h]; simp [fK,h]
 have h1:i < SetTable.below xs (xs.getD i 0 + 1):=(b i _ B).mpr ()
 by_cases z:SetTable.below xs (xs.getD i 0 + 1)=i + 1
 ·exact z
 ·have h2:i + 1 < xs.size:=by omega
  have q:xs[i + 1]?=zo xs[i + 1]:=bv h2;have:=(b (i + 1) _ q).mp ();have:=r.lt B q ();omega
def Qba (r:Rise xs):SetTable.below xs 0=0:=by
 obtain ⟨q,b⟩:=Q0h (j:=0) r
 by_cases z:SetTable.below xs 0=0
 ·exact z
 ·have h2:0 < xs.size:=by omega
  have:=(b 0 _ (bv h2)).mp ();omega
section
variable {w:aK}
def Qhf {i:Nat} {t:aW} {Q:Option (aA × Nat)->aC->Prop} (x:RawS s.heap a es ep t) (B:t.fits es.size=zi) (g:Good (byT w) t) (hd:drw w es.size t=zb) (hi:i<=es.size)
  (h:Q (((Q6u w a ep es)[i]?).map λe=>(e.2,Ur w t (i + 1))) s):aF (aI prog w) A (setNext a (Ur w t i) i ep) Q E s:=by
 have J:t.place.size=es.size:=by
  simp only [SetTable.fits,L1,beq_iff_eq,decide_eq_true_eq] at B;exact B.1
 unfold setNext;refine aD (Xk x B ?_);dsimp only;refine aD (Q0t ?_);cases z:w.params.followText "set-order" with
 | true=>
  rw [bX rfl,bY (by simp)];refine aD ?_;unfold setWalk;refine aD (Xk x B ?_);dsimp only;refine aD (Q0t ?_);rw [z,bX rfl];refine aD (wpAny_askSetting (aJ (aJ ?_)));unfold Q6u Ur at h;rw [bX z,bX z] at h;unfold Ur;rw [bX z];exact h
 | false=>
  rw [bY E1];have I:(!t.plain && decide (es.size > 1))=zb:=by
   unfold drw at hd;rw [z] at hd;simpa using hd
  have hl:t.led=zi:=by rw [g.2.2]; unfold byT; rw [z]; rfl
  unfold Q6u Ur at h;rw [z,bY E1,bY E1,bY (),du] at h;have U:SetTable.below t.place (Ur w t i)=i:=by
   unfold Ur;rw [z,bY E1]
   by_cases q:i=0
   ·rw [bX q,q]; exact Qba g.1
   ·rw [bY q,Qbb g.1 ()]; omega
  show aF _ _ (if (!t.plain && decide (es.size > 1))=zi then _ else _) _ _ _;rw [I,bY E1];show aF _ _ ((if (!t.led && !es.isEmpty)=zi then _ else _) >>= _) _ _ _;rw [hl];simp only [Bool.not_true,F8,cO,if_false];refine aD (aJ ?_);rw [U];refine aJ ?_
  by_cases q:i < es.size
  ·have G:es[i]?=zo es[i]:=bv q;have O:t.place[i]?=zo (t.place.getD i 0):=by rw [bv ()]; simp [fK,J,q]
   rw [G] at h ⊢;rw [O];exact h
  ·have G:es[i]?=zl:=dw ();rw [G] at h ⊢;exact h
end
section
variable {w:aK}
def qj:Slot "set_iterator" "__iter__" "set_iterator.__iter__" :=
 .of (owner := "set_iterator") (n := "__iter__") (by rw [typeLookup_type,builtinLookup_eq_fast]; kernel_rfl) (by decide +kernel) (by decide +kernel) (by decide +kernel) (by first | exact .inl (by decide +kernel) | exact .inr (by decide +kernel)) (by rw [bL]; kernel_rfl)
def Q18:entryFor table "set_iterator.__iter__" = zo Builtin.«dict_keyiterator.__iter__»:=entryFor_alias (id' := "dict_keyiterator.__iter__") (by kernel_rfl) rfl (by decide +kernel) (by kernel_rfl)
def Q27 (a:aA):argsOk "set_iterator.__iter__" ⟨[a],[]⟩:=by
 unfold argsOk; rw [signature?_of (id := "set_iterator.__iter__") (n:=['_','_','r','e','t','i','_','_']) (o:=['r','o','t','a','r','e','t','i','_','t','e','s']) (by kernel_rfl) Q1g]; kernel_rfl
def Q6s {d:aB} {i:Nat} (hit:SetIt s.heap it f i d n ep) (h:Q (.ref it) s):aF (aI prog w) A (pyIter (.ref it)) Q E s:=by
 refine wpAny_pyIter_slot hit.typeIs qj (au qj hit.typeIs Q18 ?_ (Q27 _));show aF _ _ (ret (.ref it)) _ _ s;exact aJ ⟨_,rfl, "set_iterator",_,hit.typeIs,slot_setit_next.lookup,h⟩
def yx (w:aK) (t:aW) (h:Heap) (ys:Option (aB × List Nat)) (i:Nat) (f:aA):Prop:=match ys with
 | none=>f=aS (Ur w t i)
 | some (tp,ys)=>f=.ref tp/\h.get? tp=zo { cls:=.type "tuple",data:=.seq (ys.map λ(i:Nat)=>aS i).toArray }
def Q4z (w:aK) (a:aB) (ep:Nat) (es:zAD) (ys:Option (aB × List Nat)):List (Int × aA):=match ys with
 | none=>(Q6u w a ep es).toList
 | some (_,ys)=>ys.filterMap λi=>es[i]?
def Q0x (h:∀ tp l,ys=zo (tp,l)->l.Perm (bc es.size)):(Q4z w a ep es ys).Perm es.toList:=by
 unfold Q4z;cases ys with
 | none=>exact Q5n _ _ _ _
 | some q=>
  obtain ⟨tp,l⟩:=q;refine ((h tp l rfl).filterMap _).trans ?_;rw [filterMap_getElem?_range]
def Qmh {tp:aB} {l:List Nat} (h:l.Perm (bc es.size)) (i:Nat):(Q4z w a ep es (zo (tp,l)))[i]?=(l[i]?).bind λj=>es[j]?:=by
 have hl:∀ j∈l,j < es.size:=λj q=>by have:=h.mem_iff.mp q; simpa using this
 show (l.filterMap λi=>es[i]?)[i]?=_;clear h
 induction l generalizing i with
 | nil=>rfl
 | cons x l G=>
  have B:=hl x (by simp);rw [List.filterMap_cons_some (b:=es[x]) (bv B)];cases i with
  | zero=>simp [bv B]
  | succ i=>simpa using G i (λj q=>hl j (O7 _ q))
def Qfx {i:Nat} {t:aW} {ys:Option (aB × List Nat)} {v:aA} {e:Int} {Q:Option aA->aC->Prop} (a1:a≠it) (hit:SetIt s.heap it f i a es.size ep) (x:RawS s.heap a es ep t) (Z:t.fits es.size=zi) (g:Good (byT w) t)
  (hy:yx w t s.heap ys i f) (hn:ys=zl->drw w es.size t=zb) (hp:∀ tp l,ys=zo (tp,l)->l.Perm (bc es.size)/\tp≠it) (B:(Q4z w a ep es ys)[i]?=zo (e,v))
  (hQ:∀ f' h',SetIt h' it f' (i + 1) a es.size ep->yx w t h' ys (i + 1) f'->Heap.SameBut it s.heap h'->Q (zo v) { s with heap:=h' }):aF (aI prog w) A (ao (.ref it)) Q E s:=by
 have hT:=hit.typeIs;unfold ao;refine aD (wpAny_attempt (wpAny_callSpecial?_slot (name:=cM "__next__") hT slot_setit_next (au slot_setit_next hT Kh ?_ (qu _))));unfold Builtin.«set_iterator.__next__» slotArgs;show aF _ _ (fieldsOf (.ref it) >>= _) _ _ _;refine aD (wpAny_fieldsOf hit rfl ?_);show aF _ _ (setEntries a >>= _) _ _ _;refine aD (Q3d x Z ?_);rw [bY (by simp)];cases ys with
 | none=>
  cases hy;show aF _ _ (setNext a (Ur w t i:Int).toNat (i:Int).toNat (ep:Int).toNat >>= _) _ _ _;rw [bx,bx,bx];have hi:i < es.size:=by
   obtain ⟨q,_⟩:=O0.mp B;have:=(Q0x (w:=w) (a:=a) (ep:=ep) (es:=es) (ys:=zl) (λ_ _ z=>nomatch z)).length_eq;rw [this] at q; simpa using q
  refine aD (Qhf x Z g (hn rfl) () ?_);have e0:(Q6u w a ep es)[i]?=zo (e,v):=by rw [<- cQ]; exact B
  rw [e0];show aF _ _ (setField (.ref it) 0 (aS (Ur w t (i + 1))) >>= _) _ _ _;refine aD (bC hit (by simp) λh1 U G=>?_)
  refine aD (bC (s:={ s with heap:=h1 }) U (by simp) λh2 o2 Y=>?_)
  exact aJ ⟨_,rfl,aJ (hQ _ h2 o2 rfl (G.trans Y))⟩
 | some q=>
  obtain ⟨tp,l⟩:=q;obtain ⟨rfl,ht⟩:=hy;obtain ⟨hl,J⟩:=hp tp l rfl;rw [Qmh hl] at B;cases I:l[i]? with
  | none=>rw [I] at B; cases B
  | some j=>
   rw [I] at B;have B:es[j]?=zo (e,v):=B;show aF _ _ (seqItems? (.ref tp) >>= _) _ _ _;refine aD (bE ht rfl ?_);show aF _ _ (match ((l.map λ(i:Nat)=>aS i).toArray)[(i:Int).toNat]? with | some (.int O _)=>_ | some _=>_ | none=>_) _ _ _
   rw [bx,gp,E2,I];show aF _ _ (setNextDrawn a (j:Int).toNat (ep:Int).toNat >>= _) _ _ _;rw [bx,bx];refine aD ?_;unfold setNextDrawn;refine aD (Xk x Z ?_);dsimp only;rw [bY (by simp),B];refine aJ ?_;refine aD (bC hit (by simp) λh1 U G=>?_)
   exact aJ ⟨_,rfl,aJ (hQ _ h1 U ⟨rfl,(G.2 tp J).trans ht⟩ G)⟩
def Q5b {Q:Option aA->aC->Prop} (G:A.handled=zl) {q:Heap} (k:Heap.ExtBut it s.heap q) (B:∀ h',Heap.ExtBut it s.heap h'->Q zl { s with heap:=h' }) :
  aF (aI prog w) A.in1 (newExc (.type "StopIteration") [] >>= λe=>bW e) (λ(fin:Fin) s'=>∃ v,fin=.done (.ret v)/\aF (aI prog w) A (pure (zo v)) Q E s') (λe s'=>aF (aI prog w) A (do if <- isInstance e (.type "StopIteration") then pure zl else throw e) Q E s') { s with heap:=q }:=by
 refine aD ?_;simp only [newExc,newTuple];refine aD (bA ?_ (by size_fits));refine aD (m:=firstArgMember _ _) (wpAny_of_eq (a:=bi) (by first | rfl | (simp only [firstArgMember]; rfl)) ?_);refine bA ?_ (by size_fits);simp only [bW];refine aD (wpAny_handled ?_);rw [show A.in1.handled=zl from G];refine aD (aJ (wpAny_throw ?_));refine aD (bT (T := "StopIteration") (b:=zi) ⟨_,D2 _ rfl,rfl⟩ isSubtype_stop ?_);exact aJ (B _ ((k.push _).push _))
def Qkb {t:aW} {ys:Option (aB × List Nat)} {Q:Option aA->aC->Prop} (O:A.handled=zl) (hit:SetIt s.heap it f es.size a es.size ep) (x:RawS s.heap a es ep t) (U:t.fits es.size=zi) (g:Good (byT w) t)
  (J:yx w t s.heap ys es.size f) (hn:ys=zl->drw w es.size t=zb) (hp:∀ tp l,ys=zo (tp,l)->l.Perm (bc es.size)/\tp≠it)
  (hQ:∀ h',Heap.ExtBut it s.heap h'->Q zl { s with heap:=h' }):aF (aI prog w) A (ao (.ref it)) Q E s:=by
 have Z:=hit.typeIs;unfold ao;refine aD (wpAny_attempt (wpAny_callSpecial?_slot (name:=cM "__next__") Z slot_setit_next (au slot_setit_next Z Kh ?_ (qu _))));unfold Builtin.«set_iterator.__next__» slotArgs;show aF _ _ (fieldsOf (.ref it) >>= _) _ _ _;refine aD (wpAny_fieldsOf hit rfl ?_);show aF _ _ (setEntries a >>= _) _ _ _;refine aD (Q3d x U ?_);rw [bY (by simp)];cases ys with
 | none=>
  cases J;show aF _ _ (setNext a (Ur w t es.size:Int).toNat (es.size:Int).toNat (ep:Int).toNat >>= _) _ _ _;rw [bx,bx,bx];refine aD (Qhf x U g (hn rfl) (O6 _) ?_);have e0:(Q6u w a ep es)[es.size]?=zl:=dw (by rw [Qdm]; exact O6 _);rw [e0];show aF _ _ (setField (.ref it) 2 .none >>= _) _ _ _;refine aD (bC hit (by simp) λh1 Y B=>?_)
  exact Q5b (s:=s) O B.extBut hQ
 | some q=>
  obtain ⟨tp,l⟩:=q;obtain ⟨rfl,ht⟩:=J;obtain ⟨hl,a1⟩:=hp tp l rfl;have hz:l[es.size]?=zl:=dS (by rw [hl.length_eq,F7]; exact O6 _);show aF _ _ (seqItems? (.ref tp) >>= _) _ _ _;refine aD (bE ht rfl ?_);show aF _ _ (match ((l.map λ(i:Nat)=>aS i).toArray)[(es.size:Int).toNat]? with | some (.int I _)=>_ | some _=>_ | none=>_) _ _ _
  rw [bx,gp,E2,hz];show aF _ _ (setField (.ref it) 0 (aS 0) >>= _) _ _ _;refine aD (bC hit (by simp) λh1 Y B=>?_)
  refine aD (bC (s:={ s with heap:=h1 }) Y (by simp) λh2 o2 G=>?_)
  exact Q5b (s:=s) O (B.trans G).extBut hQ
def Q77 (it a:aB) (ys:Option (aB × List Nat)):List aB:=match ys with
 | none=>[it,a]
 | some (tp,_)=>[it,a,tp]
def Qcw {ep:Nat} {t:aW} (hh:A.handled=zl) (G:a≠it) (Y:t.fits es.size=zi) (g:Good (byT w) t) (Z:ys=zl->drw w es.size t=zb) (O:∀ tp l,ys=zo (tp,l)->l.Perm (bc es.size)/\tp≠it) :
  Walks prog w A it (Q77 it a ys) [it] es.size (λi v=>∃ e,(Q4z w a ep es ys)[i]?=zo e/\v=e.2) (λi h=>RawS h a es ep t/\∃ f,SetIt h it f i a es.size ep/\yx w t h ys i f) where
 sub:=λb I=>by
  have:b=it:=by simpa using I
  subst this;unfold Q77;cases ys <;> simp
 frame:=λi h h' st U=>by
  obtain ⟨x,f,h1,h2⟩:=st;have m1:it∈Q77 it a ys:=by unfold Q77; cases ys <;> simp
  have m2:a∈Q77 it a ys:=by unfold Q77; cases ys <;> simp
  refine ⟨x.at λo e=>U a m2 o e,f,h1.at λo e=>U it m1 o e,?_⟩;cases ys with
  | none=>exact h2
  | some q=>exact ⟨h2.1,U q.1 (by unfold Q77; simp) _ h2.2⟩
 item:=λi s Q E hi st J=>by
  obtain ⟨x,f,h1,h2⟩:=st;have hl:(Q4z w a ep es ys).length=es.size:=by
   have:=(Q0x (w:=w) (a:=a) (ep:=ep) (es:=es) (ys:=ys) λtp l z=>(O tp l z).1).length_eq
   simpa using this
  have B:i < (Q4z w a ep es ys).length:=by omega
  refine Qfx G h1 x Y g h2 Z O (e:=(Q4z w a ep es ys)[i].1) (v:=(Q4z w a ep es ys)[i].2) (O2 B) λf' h' i1 i2 sb=>?_
  exact J _ h' s.toks ⟨_,O2 B,rfl⟩ ⟨x.at λo e=>(sb.2 a G).trans e,f',i1,i2⟩ λb o I e=>sb.extBut b o (λz=>I (by simp [z])) e
 done:=λs Q E st J=>by
  obtain ⟨x,f,h1,h2⟩:=st;exact Qkb hh h1 x Y g h2 Z O λh' k=>J h' s.toks λb o I e=>k b o (λz=>I (by simp [z])) e
 self:=λi s Q E st J=>by
  obtain ⟨x,f,h1,h2⟩:=st;exact Q6s h1 J
def Qhx {Q:Bool->aC->Prop} (q:s.TypeIs (.ref r) "set") (h:Q zb s):aF (aI prog w) A (Builtin.List.listLengthHint (.ref r)) Q E s:=by
 unfold Builtin.List.listLengthHint;refine aD (wpAny_specialOf q PySem.F.slot_set_len.lookup ?_);generalize hid:("set.__len__" : String)=B
 wp_delta
 rw [show splitId B=zo ("set", "__len__") from by subst hid; decide +kernel];subst hid;refine aD (bT (T := "set") (b:=zi) q (by rw [bL]; kernel_rfl) ?_);refine bU (λz=>absurd z (by decide)) (λ_=>?_)
 refine bU (λ_=>?_) (λz=>absurd (by decide +kernel) z)
 exact aD (bO q (aJ h))
end
section
variable {w:aK}
def Qne {R:Result->aC->Prop} {t:aW} (hh:A.handled=zl) (x:RawS s.heap r es ep t) (hf:t.fits es.size=zi) (g:Good (byT w) t) (S:aB) (Z:S≠r) (res:aA) (a4:Nat) (hS:s.heap.get? S=zo { cls:=.type "list",data:=.seq #[] a4 })
  (hR:∀ h' d' tk (G:Array aA) c',G.toList.Perm (es.toList.map (·.2))->(∀ b o,b≠S->s.heap.get? b=zo o->h'.get? b=zo o)->h'.get? S=zo { cls:=.type "list",dict:=zl,data:=.seq G c',slots:=#[] }->R (.ok (.ret res)) { s with heap:=h',drawn:=d',toks:=tk }) (hn:es.size<=sizeLine) :
  aF (aI prog w) A.in1 (Builtin.List.listExtendWith (.ref S) (.ref r) res)
   (λfin s'=>match fin with | .done f=>R (.ok f) s' | .again c'=>c'.quiet=zi/\codeAny (aI prog w) A c' R s') (λe s'=>R (.error e) s') s:=by
 have a2:=O9 hS;have a7:∀ (ys:Option (aB × List Nat)) (I:aB) (h:Heap) (d':Drawn) (J tk:Nat),s.heap.objs.size<=I->(ys=zl->drw w es.size t=zb)->(∀ tp l,ys=zo (tp,l)->l.Perm (bc es.size)/\tp≠I/\s.heap.objs.size<=tp) ->
   RawS h r es ep t->(∃ f,SetIt h I f 0 r es.size ep/\yx w t h ys 0 f)->(∀ b o,b≠S->s.heap.get? b=zo o->h.get? b=zo o) ->
   h.get? S=zo { cls:=.type "list",data:=.seq #[] J }->codeAny (aI prog w) A (.builtin "list.extend.loop" ⟨[.ref S,.ref I,res],[]⟩) R { s with heap:=h,drawn:=d',toks:=tk }:=by
  intro ys I h d' J tk hI Y B hx a1 hk a6;have a8:S≠I:=D9 (D7 a2 hI);have a9:r≠I:=D9 (D7 x.lt hI);have W:=Qcw (prog:=prog) (A:=A.in1) (it:=I) (a:=r) (es:=es) (ep:=ep) (t:=t) (ys:=ys) (by simpa using hh) a9 hf g Y λtp l z=>⟨(B tp l z).1,(B tp l z).2.1⟩
  have b1:S∉Q77 I r ys:=by
   unfold Q77;cases ys with
   | none=>simp only [D3,dB,or_false,not_or]; exact ⟨a8,Z⟩
   | some q=>simp only [D3,dB,or_false,not_or]; exact ⟨a8,Z,D9 (D7 a2 (B q.1 q.2 rfl).2.2)⟩
  refine codeAny_extend_loopS W.toS hn S b1 res es.size 0 _ #[] J rfl (L5 _) ⟨hx,a1⟩ a6 (ItemsOf.nil _) λs' G c' hm b0 U=>?_
  rw [Moved.eq_with hm];have pm:=Q0x (w:=w) (a:=r) (ep:=ep) (es:=es) (ys:=ys) λtp l z=>(B tp l z).1
  have hl:=pm.length_eq;simp only [cB] at hl;have e:G.toList=(Q4z w r ep es ys).map (·.2):=by
   apply dA;intro i
   by_cases z:i < es.size
   ·have hi:i < G.size:=by rw [U.1]; exact z
    obtain ⟨e,h1,h2⟩:=U.2 i G[i] (bv hi);rw [cQ,bv hi,h2,E2,h1]; rfl
   ·rw [cQ,dw (by rw [U.1]; omega),E2,dS ()]; rfl
  refine hR s'.heap d' s'.toks G c' (by rw [e]; exact pm.map _) (λb o hb q=>hm.heap b o (λO=>?_) (hk b o hb q)) b0
  rcases D3.mp O with z | O
  ·exact hb z
  ·have:=O9 q;rw [G6.mp O] at this;exact absurd (D7 this hI) (M8 _)
 have a5:∀ (bf:Bool->Bool) (ys:Option (aB × List Nat)) (I:aB) (h:Heap) (d':Drawn),s.heap.objs.size<=I->(ys=zl->drw w es.size t=zb)->(∀ tp l,ys=zo (tp,l)->l.Perm (bc es.size)/\tp≠I/\s.heap.objs.size<=tp) ->
   RawS h r es ep t->(∃ f,SetIt h I f 0 r es.size ep/\yx w t h ys 0 f)->(∀ b o,s.heap.get? b=zo o->h.get? b=zo o) ->
   aF (aI prog w) A.in1 (do
     let room <- aw [.ref I] (Builtin.List.listLengthHint (.ref r))
     if bf room then
      rule "list.extend.makes-room"
      Builtin.List.listTouch (.ref S)
     again (.builtin "list.extend.loop" ⟨[.ref S,.ref I,res],[]⟩))
    (λfin s'=>match fin with | .done f=>R (.ok f) s' | .again c'=>c'.quiet=zi/\codeAny (aI prog w) A c' R s') (λe s'=>R (.error e) s') { s with heap:=h,drawn:=d' }:=by
  intro bf ys I h d' hI Y B hx a1 hk;refine aD (ak (Qhx (s:={ s with heap:=h,drawn:=d' }) hx.typeIs ?_));refine bU (λ_=>?_) (λ_=>aJ ⟨bQ gq _,a7 ys I h d' a4 s.toks hI Y B hx a1 (λb o _ q=>hk b o q) (hk _ _ hS)⟩);refine aD (bJ (aD ?_));show aF _ _ (updateSeq S (·.push .none) >>= λ_=>updateSeq S (·.pop)) _ _ _
  have s1:=hk _ _ hS;refine aD (wpAny_updateSeq (s:={ s with heap:=h,drawn:=d' }) s1 rfl ?_);have s2:=Heap.get?_update_self (bp (·.push bi)) s1 rfl;refine wpAny_updateSeq (hz:=by seq_fits) s2 rfl ?_;have s3:=Heap.get?_update_self (bp (·.pop)) s2 rfl;have a3:∀ b o,b≠S->h.get? b=zo o->((h.update S (bp (·.push bi))).update S (bp (·.pop))).get? b=zo o:=λb o hb q=>(L4 _ _ (Ne.symm hb)).trans ((L4 _ _ (Ne.symm hb)).trans q)
  have nI:I≠S:=L7 (D7 a2 hI);refine aJ ⟨bQ gq _,a7 ys I _ d' _ s.toks hI Y B (hx.at λo q=>a3 r o (Ne.symm Z) q) ?_ (λb o hb q=>a3 b o hb (hk b o q)) s3⟩;obtain ⟨f,i1,i2⟩:=a1;refine ⟨f,i1.at λo q=>a3 I o nI q,?_⟩;cases ys with
  | none=>exact i2
  | some q=>exact ⟨i2.1,a3 q.1 _ (L7 (D7 a2 (B q.1 q.2 rfl).2.2)) i2.2⟩
 unfold Builtin.List.listExtendWith;refine aD (bO (T := "set") x.typeIs ?_);have h1:Builtin.List.listSameRef (.ref S) (.ref r)=zb:=by simp [Builtin.List.listSameRef,Z]
 have e1:(bw "set" == bw "list")=zb:=by decide
 have e2:(bw "set" == bw "tuple")=zb:=by decide
 simp only [h1,e1,e2,gE,cO,if_false];refine aD (Qfw x hf hn (λz=>?_) λz ys d' hp=>?_)
 ·exact a5 _ zl s.heap.objs.size (s.heap.push { cls:=.type "set_iterator",data:=.fields #[aS 0,aS 0,.ref r,aS es.size,aS ep] }) s.drawn (O6 _) (λ_=>z) (λ_ _ q=>nomatch q) (x.at λo q=>O1 _ q) ⟨_,D2 _ rfl,by unfold yx Ur; simp⟩ (λb o q=>O1 _ q)
 ·have hz:s.heap.objs.size + 1=(s.heap.push { cls:=.type "tuple",data:=.seq (ys.map λ(i:Nat)=>aS i).toArray }).objs.size:=(F1 _ _).symm
  exact a5 _ (zo (s.heap.objs.size,ys)) (s.heap.objs.size + 1) ((s.heap.push { cls:=.type "tuple",data:=.seq (ys.map λ(i:Nat)=>aS i).toArray }).push { cls:=.type "set_iterator",data:=.fields #[.ref s.heap.objs.size,aS 0,.ref r,aS es.size,aS ep] }) d' (cI _) (λq=>nomatch q)
   (λtp l q=>by cases q; exact ⟨hp,D9 (cX _),O6 _⟩) (x.at λo q=>O1 _ (O1 _ q)) ⟨.ref s.heap.objs.size,by rw [hz]; exact D2 _ rfl,rfl,O1 _ (D2 _ rfl)⟩ (λb o q=>O1 _ (O1 _ q))
def Qec {l O:List aA} (p:O.Perm l):∀ {ns:List Int},IntsAre l ns->∃ q,IntsAre O q/\q.Perm ns:=by
 induction p with
 | nil=>intro ns h; exact ⟨ns,h,cE _⟩
 | cons x _ Y=>
  intro ns h;cases h with
  | cons n t B=>
   obtain ⟨ks,h1,h2⟩:=Y B;exact ⟨_,.cons n t h1,h2.cons _⟩
 | swap x y l=>
  intro ns h;cases h with
  | cons n t B=>
   cases B with
   | cons U t' J=>exact ⟨_,.cons U t' (.cons n t J),dQ _ _ _⟩
 | trans _ _ I G=>
  intro ns h;obtain ⟨k1,h1,Z⟩:=G h;obtain ⟨k2,h2,p2⟩:=I h1;exact ⟨k2,h2,p2.trans Z⟩
def Q9j {d:aB} {t:aW} {Q:List aA->aC->Prop} (Z:A.handled=zl) (x:RawS s.heap d es ep t) (hf:t.fits es.size=zi) (g:Good (byT w) t) (hn:es.size<=sizeLine)
  (h:∀ vs h' d' I,vs.Perm (es.toList.map (·.2))->(∀ b o,s.heap.get? b=zo o->h'.get? b=zo o)->s.heap.objs.size<=h'.objs.size->Q vs { s with heap:=h',drawn:=d',toks:=I }):aF (aI prog w) A (collect (.ref d)) Q E s:=by
 unfold collect;refine aD (wpAny_runValue (bK PySem.F.entry_proto_collect ?_));rw [Around.under_plainId PySem.F.plain_proto_collect _];show aF _ A.in1 (newList [] >>= λl=>again (.builtin "list.__iadd__" ⟨[l,.ref d],[]⟩)) _ _ s
 refine aD (bA ?_);refine aJ ⟨bQ gr _,bK PySem.F.entry_list_iadd ?_⟩;rw [Around.under_plainId gr _];have hS:(s.heap.push { cls:=.type "list",data:=.seq ([]:List aA).toArray }).get? s.heap.objs.size=zo { cls:=.type "list",data:=.seq ([]:List aA).toArray }:=D2 _ rfl;have G:∀ b o,s.heap.get? b=zo o->(s.heap.push { cls:=.type "list",data:=.seq ([]:List aA).toArray }).get? b=zo o:=λb o e=>O1 _ e
 have J:s.heap.objs.size≠d:=L7 x.lt;show aF _ A.in1 (Builtin.List.listExtendWith (.ref s.heap.objs.size) (.ref d) (.ref s.heap.objs.size)) _ _ _;refine Qne (prog:=prog) (w:=w) (A:=A) (R:=λr s'=>match r with | .ok (.ret v)=>aF (aI prog w) A (match v with | .ref a=>do { let o <- load a; match o.data with | .seq xs _=>pure xs.toList | _=>unsupported "internal:collect" } | _=>unsupported "internal:collect") Q E s' | .ok _=>False | .error e=>E e s') (s:={ s with heap:=s.heap.push { cls:=.type "list",data:=.seq ([]:List aA).toArray } }) Z (x.at λo e=>G d o e) hf g s.heap.objs.size J _ _ hS (λh' d' I U c Y O B=>?_) hn
 show aF _ A (load s.heap.objs.size >>= _) _ _ _;refine aD (wpAny_load B ?_);exact aJ (h _ h' d' I Y (λb o q=>O b o (D9 (O9 q)) (G b o q)) (dF (O9 B)))
def Qa5 {d:aB} {t:aW} {Q:zAF} (hh:A.handled=zl) (x:RawS s.heap d es ep t) (hf:t.fits es.size=zi) (g:Good (byT w) t) (hI:IntsAre (es.toList.map (·.2)) ns) (a4:es.size < 64)
  (h:∀ (out:Array aA) (B:List Int) (h':Heap) (d':Drawn) (tk D k:Nat),IntsAre out.toList B->B.Perm ns->B.Pairwise (·<=·)->s.heap.objs.size<=D->h'.get? D=zo (seqObj "list" out k)->(∀ b o,s.heap.get? b=zo o->h'.get? b=zo o)->Q (.ref D) { s with heap:=h',drawn:=d',toks:=tk }) :
  aF (aI prog w) A (call (.builtin "sorted") [.ref d]) Q E s:=by
 have hsz:es.size<=sizeLine:=by rw [sizeLine_eq]; omega
 refine Calls.call_function_entry kind_sorted plain_sorted entry_sorted (args_sorted1 _) ?_;unfold Builtin.«sorted»;refine aD (m:=checkCount "sorted" 1 1 _) (aJ ?_);refine aD (Q9j (by simpa using hh) x hf g hsz λvs h1 O I Y G U=>?_)
 have hl:vs.length=es.size:=by rw [Y.length_eq]; simp
 obtain ⟨n1,i1,p1⟩:=Qec Y hI;refine aD (wpAny_newList ?_ (by rw [sizeLine_eq]; omega));have J:(h1.push (seqObj "list" vs.toArray 0)).get? h1.objs.size=zo (seqObj "list" vs.toArray 0):=D2 _ rfl;have keep:∀ b o,s.heap.get? b=zo o->(h1.push (seqObj "list" vs.toArray 0)).get? b=zo o:=λb o q=>O1 _ (G b o q)
 show aF _ _ _ _ _ { s with heap:=h1.push (seqObj "list" vs.toArray 0),drawn:=O,toks:=I };refine aD (ak (au slot_list_sort ⟨_,J,rfl⟩ entry_list_sort (list_sort_tree (s:={ s with heap:=h1.push (seqObj "list" vs.toArray 0),drawn:=O,toks:=I }) J i1 () λout B a1 a2 a3=>⟨_,rfl,?_⟩) (args_list_sort _)))
 obtain ⟨k,hk⟩:=sortedHeap_at (out:=out) J;refine aJ ⟨_,rfl,h out B _ O I h1.objs.size k a1 (a2.trans p1) a3 U hk λb o q=>?_⟩;have Z:=O9 (G b o q);exact (sortedHeap_old (D9 Z) (D7 Z (by rw [F1]; exact cI _))).trans (keep b o q)
end
def Qaw (a:Int):List Int->List Int
 | []=>[a]
 | b :: r=>if a<=b then a :: b :: r else b :: Qaw a r
def Ux:List Int->List Int
 | []=>[]
 | a :: r=>Qaw a (Ux r)
theorem Q16 (a:Int):∀ l,(Qaw a l).Perm (a :: l)
 | []=>cE _
 | b :: r=>by
  rw [Qaw]
  split
  ·exact cE _
  ·exact ((Q16 a r).cons b).trans (dQ a b r)
theorem Kt:∀ l,(Ux l).Perm l
 | []=>cE _
 | a :: r=>(Q16 a (Ux r)).trans ((Kt r).cons a)
theorem Q1j {a:Int}:∀ {l:List Int},l.Pairwise (·<=·)->(Qaw a l).Pairwise (·<=·)
 | [],_=>by rw [Qaw]; exact gZ _ _
 | b :: r,h=>by
  obtain ⟨h1,h2⟩:=F9.mp h;rw [Qaw]
  split
  ·rename_i q;refine F9.mpr ⟨λx B=>?_,h⟩;rcases D3.mp B with rfl | B
   ·exact q
   ·exact fP q (h1 x B)
  ·rename_i q;refine F9.mpr ⟨λx B=>?_,Q1j h2⟩;rcases D3.mp ((Q16 a r).mem_iff.mp B) with rfl | B
   ·omega
   ·exact h1 x B
theorem xf:∀ l,(Ux l).Pairwise (·<=·)
 | []=>cW
 | a :: r=>Q1j (xf r)
theorem Q35:∀ {a b:List Int},a.Perm b->a.Pairwise (·<=·)->b.Pairwise (·<=·)->a=b
 | [],b,h,_,_=>(gc.mp h).symm
 | x :: a,[],h,_,_=>absurd (gd.mp h) (by simp)
 | x :: a,y :: b,h,q,O=>by
  obtain ⟨G,I⟩:=F9.mp q;obtain ⟨J,Y⟩:=F9.mp O;have e:x=y:=by
   rcases D3.mp (h.mem_iff.mp (E3 (a:=x) (l:=a))) with e | U
   ·exact e
   ·rcases D3.mp (h.mem_iff.mpr (E3 (a:=y) (l:=b))) with e | B
    ·exact e.symm
    ·exact Int.le_antisymm (G y B) (J x U)
  subst e;rw [Q35 (gf h) I Y]
def Qee (P:aL) (w:aK) (a:aB) (ks:List Int):HO:=.ext λh=>GS (intKind P w) (byT w) h a ks
def Inv.redraw {X:Cx} {pins:zAC} {σ:List (Option V)} {H:Hp} (I:Inv X pins σ H s) (d':Drawn):Inv X pins σ H { s with drawn:=d' }:=⟨I.ok,I.os,I.bare,I.base,I.loc,I.cell,I.free,I.freeC,I.pin,I.hok,I.len⟩
def Q8z {vs:List aA} (h:IntsAre vs ns) (i:Nat) (v:aA) (e:vs[i]?=zo v):∃ k,ns[i]?=zo k/\dZ k v=zi/\v.scannable=zi:=by
 induction h generalizing i with
 | nil=>simp at e
 | cons n t B q=>
  cases i with
  | zero=>simp at e; subst e; exact ⟨n,rfl,by simp [dZ],rfl⟩
  | succ i=>exact q i (by simpa using e)
variable {X:Cx}
def Qev (Z:X.calm=zi):V1 X (.type "set") (λxs H Q=>∃ p ns,xs=[.ref p]/\(SqL X.K H p (ns.map V.int)\/SqT X.K H p (ns.map V.int))/\ns.length<=4000/\∀ l,H l=zl->Q (.ref l) (upd H l (Qee X.prog X.w l (Ys ns)))):=by
 intro pins s σ H xs us Q I r h;obtain ⟨p,ns,rfl,J,hl,q⟩:=h;obtain ⟨u,rfl,rx⟩:=Xc r;cases rx;have Y:ns.length + 1 < bD:=by unfold bD; omega
 have fin:∀ (h':Heap) (O:Nat),GS (intKind X.prog X.w) (byT X.w) h' s.heap.objs.size (Ys ns)->(∀ b o,s.heap.get? b=zo o->h'.get? b=zo o)->∃ x H',Inv X pins σ H' { s with heap:=h',toks:=O }/\RelV x (.ref s.heap.objs.size)/\Q x H':=λh' O gs k=>by
  refine ⟨.ref s.heap.objs.size,upd H s.heap.objs.size (Qee X.prog X.w s.heap.objs.size (Ys ns)),I.laid (t':=O) k (O6 _) ⟨gs,?_,λh1 h2 z kk=>z.at kk⟩,rfl,q _ (I.hok.fresh (O6 _))⟩;obtain ⟨o,ho,_⟩:=gs;exact ⟨o,ho⟩
 rcases J with J | J
 ·obtain ⟨its,G,U,hz⟩:=I.list J;have hi:=Xt G;have B:its.length=ns.length:=by rw [<- G.length,O3]
  exact Q7w (knd:=intKind X.prog X.w) (ks:=ns) (I.ok.hd Z) U.isList (by rw [O8,B]) (λi v e=>Q8z hi i v (by simpa using e)) Y fin
 ·obtain ⟨its,G,U,hz⟩:=I.tuple J;have hi:=Xt G;have B:its.length=ns.length:=by rw [<- G.length,O3]
  exact Q6p (knd:=intKind X.prog X.w) (ks:=ns) (I.ok.hd Z) U (by rw [O8,B]) (λi v e=>Q8z hi i v (by simpa using e)) Y fin
theorem Q1h {P:aL} {w:aK}:∀ {es:List (Int × aA)} {ks:List Int},aY (ElK (intKind P w)) es ks->IntsAre (es.map (·.2)) ks
 | [],_,.nil=>.nil
 | e :: es,k :: ks,.cons r t=>by
  obtain ⟨q,h⟩:=fi r.1;rw [O5,h];exact .cons k q (Q1h t)
theorem Q2s:∀ {vs:List aA} {ns:List Int},IntsAre vs ns->Vals (ns.map V.int) vs
 | _,_,.nil=>.nil
 | _,_,.cons n t q=>.cons ⟨t,rfl⟩ (Q2s q)
def Q7c (Z:X.calm=zi):V1 X (.builtin "sorted") (λxs H Q=>∃ p ks,xs=[.ref p]/\H p=zo (Qee X.prog X.w p ks)/\ks.length < 64/\∀ d,H d=zl->Q (.ref d) (upd H d (.lst ((Ux ks).map V.int)))):=by
 intro pins s σ H xs us Q I r h;obtain ⟨p,ks,rfl,hp,hl,q⟩:=h;obtain ⟨u,rfl,rx⟩:=Xc r;cases rx;obtain ⟨gs,_,_⟩:=I.hok p _ hp;obtain ⟨o,Y,hx,es,ep,t,hd,⟨k0,O,G⟩,hb,hf,hg⟩:=gs;have hz:es.size=ks.length:=by rw [<- cB,Paired.length G,O.length_eq]
 refine Qa5 (I.ok.hd Z) ⟨o,Y,hx,hd⟩ hf hg (Q1h G) () λout B h' d' U D k a1 a2 a3 J a5 a6=>?_
 have e:B=Ux ks:=Q35 ((a2.trans O).trans (Kt ks).symm) a3 (xf ks);subst e;refine ⟨.ref D,upd H D (.lst ((Ux ks).map V.int)),Inv.redraw (I.laid (t':=U) (o:=.lst ((Ux ks).map V.int)) a6 J ⟨?_,out.toList,k,Q2s a1,?_⟩) d',rfl,q D (I.hok.fresh J)⟩
 ·rw [O3,(Kt ks).length_eq,sizeLine_eq]; omega
 ·rw [Array.toArray_toList]; exact a5
end L2
namespace L2
open PySem PySem.Spec PyProof.Rows SeqAt
section
variable {prog:aL} {w:aK} {K:Type} [DecidableEq K] {knd:KeyKind prog w K} {A:aP} {E:zAF} {s:aC}
def Q55 (us:List (K × aA)) (e:K->Bool) (kv:K × aA):Bool:=match af us kv.1 with
 | none=>zb
 | some _=>e kv.1
def Q9b {us:List (K × aA)} {k:K}:(match us.findIdx? (λkv=>decide (kv.1=k)) with | none=>zl | some j=>(us[j]?).map (·.2))=af us k:=by
 induction us with
 | nil=>rfl
 | cons a us q=>
  by_cases z:a.1=k
  ·simp [gt,af,z]
  ·have e:af (a :: us) k=af us k:=by simp [af,z]
   rw [e,<- q,gt];simp only [bZ z,cO,if_false];cases us.findIdx? (λkv=>decide (kv.1=k)) with
   | none=>rfl
   | some j=>simp
def jd {es:List DictEntry} {kvs:List (K × aA)} (h:Pairs knd es kvs) {i:Nat} (hi:i < es.length):∃ kv,kvs[i]?=zo kv/\knd.is kv.1 es[i].key=zi/\es[i].val=kv.2:=by
 induction h generalizing i with
 | nil=>simp at hi
 | cons h1 h2 _ I=>
  cases i with
  | zero=>exact ⟨_,rfl,h1,h2⟩
  | succ i=>
   obtain ⟨kv,G,B,q⟩:=I (i:=i) (by simpa using hi);exact ⟨kv,by simpa using G,by simpa using B,by simpa using q⟩
def Q3a {id:String} {a b:aB} {vs us:List (K × aA)} {e:K->Bool} {Q:Bool->aC->Prop} (ha:(a == av)=zb) (hb:(b == av)=zb) (da:s.heap.DictOf knd a vs) (db:s.heap.DictOf knd b us)
  (he:∀ k v u,(k,v)∈vs->af us k=zo u->EqAt A s v u (e k)) (h:Q (decide (vs.length=us.length) && vs.all (Q55 us e)) s):aF (aI prog w) A (Builtin.Dict.samePairs id a b) Q E s:=by
 obtain ⟨oa,B,pa,h1,_,h3,h4,h5,h6⟩:=da;obtain ⟨ob,O,pb,g1,_,g3,g4,g5,g6⟩:=db;have la:B.size=vs.length:=by rw [<- cB]; exact h5.length
 have lb:O.size=us.length:=by rw [<- cB]; exact g5.length
 unfold Builtin.Dict.samePairs Builtin.Dict.showsAll;rw [bY (by rw [ha]; exact E1),bY (by rw [hb]; exact E1)];refine aD (aJ (aD (aJ ?_)));refine aD (wpAny_dictEntries h1 h3 ?_);refine aD (wpAny_dictEntries g1 g3 ?_)
 by_cases hl:B.size=O.size
 ·rw [bY (by simp [hl])];rw [ba (),G9] at h;refine aD (wpAny_dictEpoch h1 h3 ?_);refine aD ?_;rw [Std.Legacy.Range.forIn_eq_forIn_range'];simp only [Std.Legacy.Range.size,fQ,du,Nat.div_one];refine wpAny_forIn_list _ (λrest r s'=>∃ i,rest=bn i (B.size - i)/\i<=B.size/\r=(zl,PUnit.unit)/\s=s'/\(vs.take i).all (Q55 us e)=zi) _ ?_ ?_ _ _ ⟨0,by simp,L5 _,rfl,rfl,by simp⟩
  ·rintro x rest _ s' ⟨i,U,hi,rfl,rfl,G⟩;have J:i < B.size:=by
    rcases fR i B.size with q | q
    ·exact q
    ·rw [Nat.sub_eq_zero_of_le q] at U; simp at U
   obtain ⟨rfl,Y⟩:x=i/\rest=bn (i + 1) (B.size - (i + 1)):=by
    rw [show B.size - i=(B.size - (i + 1)) + 1 by omega,eC] at U;injection U with q1 q2
    exact ⟨q1,q2⟩
   refine aD (wpAny_dictEntries h1 h3 ?_);rw [bv J];obtain ⟨kv,k1,k2,k3⟩:=jd h5 (i:=x) (by simpa using J);simp only [fJ] at k2 k3;obtain ⟨k',a9,a4⟩:=h4 B[x] (Array.getElem_mem J);have a7:kv.1=k':=knd.inj _ _ _ k2 a9;have I:kv∈vs:=D8 k1;have a5:vs.take (x + 1)=vs.take x ++ [kv]:=by rw [dn,k1]; rfl
   dsimp only;have Z:=Q9b (us:=us) (k:=kv.1);refine aD (ak (aD ?_));rw [a4,<- a7];refine wpAny_dictFind_of (knd:=knd) k2 g1 g3 g4 ?_;have a3:(O.findIdx? λe=>knd.is kv.1 e.key)=us.findIdx? λp=>decide (p.1=kv.1):=by
    rw [<- g5.findIdx]; cases O; simp
   rw [a3];cases z:us.findIdx? (λp=>decide (p.1=kv.1)) with
   | none=>
    rw [z] at Z;refine aJ ?_;have hs:Q55 us e kv=zb:=by unfold Q55; rw [<- Z]
    rw [bX (show (!false)=zi from rfl)];refine aJ (aJ ?_);have nh:vs.all (Q55 us e)=zb:=by
     rw [eD];exact ⟨kv,I,by rw [hs]; exact E1⟩
    rw [nh] at h;exact h
   | some j=>
    rw [z] at Z;dsimp only at Z;have hj:j < us.length:=(gl.mp z).1;have a2:j < O.size:=by omega
    rw [O2 hj] at Z;refine aD (wpAny_dictEntries g1 g3 ?_);rw [bv a2];obtain ⟨q,q1,_,q3⟩:=jd g5 (i:=j) (by simpa using a2);simp only [fJ] at q3;have a8:us[j].2=O[j].val:=by
     rw [q3];rw [O2 hj] at q1;rw [bm q1]
    have a1:af us kv.1=zo O[j].val:=by rw [<- Z,<- a8]; rfl
    refine ak (he kv.1 B[x].val O[j].val (by rw [k3]; exact I) a1 prog w _ _ ?_);have hs:Q55 us e kv=e kv.1:=by unfold Q55; rw [a1]
    cases zk:e kv.1 with
    | false=>
     rw [zk] at hs;rw [bX (show (!false)=zi from rfl)];refine aJ (aJ ?_);have nh:vs.all (Q55 us e)=zb:=by
      rw [eD];exact ⟨kv,I,by rw [hs]; exact E1⟩
     rw [nh] at h;exact h
    | true=>
     rw [zk] at hs;rw [bY (by simp)];refine aD (wpAny_dictEpoch h1 h3 ?_);rw [bY (by simp)];exact aJ ⟨x + 1,Y,J,rfl,rfl,by rw [a5,List.all_append,G,cY,hs]; rfl⟩
  ·rintro _ s' ⟨i,U,hi,rfl,rfl,G⟩;have a6:i=B.size:=by
    rcases fR i B.size with q | q
    ·rw [show B.size - i=(B.size - (i + 1)) + 1 by omega,eC] at U; exact nomatch U
    ·exact Nat.le_antisymm hi q
   subst a6;rw [la,cx] at G;rw [G] at h;exact aJ h
 ·rw [bX (by simpa using hl)];rw [bZ (),F8] at h;exact aD (bJ (aJ h))
end
section
variable {prog:aL} {w:aK} {K:Type} [DecidableEq K] {knd:KeyKind prog w K} {A:aP} {E:zAF} {s:aC}
def Qnf (op:Bool) {a b:aB} {vs us:List (K × aA)} {e:K->Bool} {Q:zAF} (G:(a == av)=zb) (J:(b == av)=zb) (B:s.heap.DictOf knd a vs) (q:s.heap.DictOf knd b us) (O:A.units < aX)
  (I:∀ k v u,(k,v)∈vs->af us k=zo u->EqAt A.in1 s v u (e k)) (h:Q (.bool ((decide (vs.length=us.length) && vs.all (Q55 us e)) == op)) s):aF (aI prog w) A (aU (if op=zi then .Eq else .NotEq) (.ref a) (.ref b)) Q E s:=by
 have ta:s.TypeIs (.ref a) "dict" := B.typeIs;have tb:s.TypeIs (.ref b) "dict" := q.typeIs;cases op with
 | true=>
  refine wpAny_richCompare_same_room (op:=.Eq) ta tb gu (au gu ta PySem.F.entry_dict_eq ?_ (PySem.F.args_dict_eq_2 _ _)) O;show aF _ _ (Builtin.Dict.dictSlotArgs "__eq__" ⟨[.ref a,.ref b],[]⟩ >>= _) _ _ _;refine aD ?_;unfold Builtin.Dict.dictSlotArgs;refine aD (wpAny_notOrdered_dict ta ?_);show aF _ _ (pure (bj a,bj b)) _ _ _;refine aJ ?_;refine aD (bT (T := "dict") (b:=zi) tb (by rw [bL]; kernel_rfl) ?_);refine bU (λz=>absurd z (by decide)) (λ_=>?_)
  show aF _ _ (Builtin.Dict.samePairs _ a b >>= _) _ _ _;refine aD (Q3a G J B q I ?_);exact aJ ⟨_,rfl,(λz=>nomatch z),h⟩
 | false=>
  refine wpAny_richCompare_same_room (op:=.NotEq) ta tb gw (au gw ta PySem.F.entry_dict_ne ?_ (PySem.F.args_dict_ne_2 _ _)) O;show aF _ _ (Builtin.Dict.dictSlotArgs "__ne__" ⟨[.ref a,.ref b],[]⟩ >>= _) _ _ _;refine aD ?_;unfold Builtin.Dict.dictSlotArgs;refine aD (wpAny_notOrdered_dict ta ?_);show aF _ _ (pure (bj a,bj b)) _ _ _;refine aJ ?_;refine aD (bT (T := "dict") (b:=zi) tb (by rw [bL]; kernel_rfl) ?_);refine bU (λz=>absurd z (by decide)) (λ_=>?_)
  show aF _ _ (Builtin.Dict.samePairs _ a b >>= _) _ _ _;refine aD (Q3a G J B q I ?_);exact aJ ⟨_,rfl,(λz=>nomatch z),h⟩
end
variable {X:Cx}
def Qds:MtM X "dict.clear" (λx xs H Q=>∃ a kvs,x=.ref a/\xs=[]/\H a=zo (.dK kvs)/\Q .non (upd H a (.dK []))):=by
 intro pins s σ H x xs v us Q I J O h;obtain ⟨a,kvs,rfl,rfl,e,q⟩:=h;cases J;have B:=O.zero;subst B;exact Qnh I e λs' G=>⟨.non,_,G,rfl,q⟩
end L2
namespace Sm
open PySem PySem.Spec L2
variable {H H':Hp} {p a:aB} {o:HO} {hs:List aB} {v:V} {vs:List V} {κ:Type} {σ:St} {e:aH} {es:List aH} {f:aA->aA->Sem aA} {Q:Bool->Hp->Prop} {D:Ends}
section
inductive PV where
 | non | bl (b:Bool) | int (i:Int) | str (x:Str) | tup (xs:List PV) | lst (xs:List PV) | fro (xs:List PV) | ref (i:Nat) | dic
variable {ps:List PV}
inductive Cell where
 | lst (xs:List PV) | dic (kvs:List (Key × PV)) | dtp (kvs:List (List Key × PV)) | frd (kvs:List (Key × PV))
 | obj (C:aB) (fs:List (Str × PV))
variable {cl:Cell}
abbrev Q0:=List Cell
variable {st:Q0}
structure Exc where
 cls:Str
 fs:Option (Str × PV):=zl
inductive Res (α:Type) where
 | ok (a:α) (st:Q0) | exc (x:Exc) (st:Q0) | stuck
abbrev Gam:=List (Option PV)
variable {Γ:Gam} {m:Gam->Q0->Res Bool}
abbrev ME:=Gam->Q0->Res PV
structure Tk where
 tr:List aB
 hid:List aB
variable {ρ:Tk} {P:Bool->Q0->Hp->Tk->Prop}
instance:Membership aB Tk:=⟨λt a=>a∈t.tr\/a∈t.hid⟩
def Tk.nil:Tk:=⟨[],[]⟩
def Tk.not_nil (a:aB):a∉Tk.nil:=λz=>by rcases z with z | z <;> cases z
def Tk.add (t:Tk) (p:aB):Tk:=⟨t.tr ++ [p],t.hid⟩
def Tk.hide (t:Tk) (p:aB):Tk:=⟨t.tr,p :: t.hid⟩
mutual
def Rep (H:Hp) (ρ:Tk):PV->V->Prop
 | .non,v=>v=.non
 | .bl b,v=>v=.bl b
 | .int i,v=>v=.int i
 | .str x,v=>v=.str x
 | .tup ps,v=>∃ a vs,v=.ref a/\H a=zo (.tup vs)/\a∉ρ/\RepL H ρ ps vs
 | .lst ps,v=>∃ a vs,v=.ref a/\H a=zo (.lst vs)/\a∉ρ/\RepL H ρ ps vs
 | .fro ps,v=>∃ a vs,v=.ref a/\Rd H a (.lst vs)/\a∉ρ/\RepL H ρ ps vs
 | .ref i,v=>∃ a,ρ.tr[i]?=zo a/\v=.ref a
 | .dic,v=>∃ a,v=.ref a/\H a=zo (.dK [])/\a∉ρ
def RepL (H:Hp) (ρ:Tk):List PV->List V->Prop
 | [],vs=>vs=[]
 | p :: ps,vs=>∃ v r,vs=v :: r/\Rep H ρ p v/\RepL H ρ ps r
end
structure Ext (H:Hp) (ρ:Tk) (H':Hp) (ρ':Tk):Prop where
 pre:ρ.tr <+: ρ'.tr
 hidM:∀ a,a∈ρ.hid->a∈ρ'.hid
 hidN:∀ a,a∈ρ'.hid->a∈ρ.hid\/H a=zl
 keep:∀ a o,H a=zo o->a∉ρ.tr->H' a=zo o
 new:∀ a,a∈ρ'.tr->a∈ρ.tr\/H a=zl
 old:∀ a o,H a=zo o->∃ o',H' a=zo o'
 frz:∀ a o u,H a=zo (.frz o u)->H' a=zo (.frz o u)
def Ext.refl (H:Hp) (ρ:Tk):Ext H ρ H ρ:=⟨ca _,λ_ h=>h,λ_ h=>.inl h,λ_ _ h _=>h,λ_ h=>.inl h,λ_ o h=>⟨o,h⟩,λ_ _ _ h=>h⟩
def Ext.trans {H1 H2:Hp} {ρ1 B:Tk} (a:Ext H ρ H1 ρ1) (b:Ext H1 ρ1 H2 B):Ext H ρ H2 B where
 pre:=a.pre.trans b.pre
 hidM:=λx h=>b.hidM x (a.hidM x h)
 hidN:=λx h=>by
  rcases b.hidN x h with z | z
  ·exact a.hidN x z
  ·right
   cases q:H x with
   | none=>rfl
   | some o=>
    obtain ⟨o',e⟩:=a.old x o q;rw [e] at z; cases z
 keep:=λx o h n=>b.keep x o (a.keep x o h n) λz=>by
  rcases a.new x z with z | z
  ·exact n z
  ·rw [h] at z; cases z
 new:=λx h=>by
  rcases b.new x h with z | z
  ·exact a.new x z
  ·right
   cases q:H x with
   | none=>rfl
   | some o=>
    obtain ⟨o',e⟩:=a.old x o q;rw [e] at z; cases z
 old:=λx o h=>by
  obtain ⟨o',e⟩:=a.old x o h;exact b.old x o' e
 frz:=λx o u h=>b.frz x o u (a.frz x o u h)
def Ext.add (h:H p=zl):Ext H ρ (upd H p o) ρ where
 pre:=ca _
 hidM:=λ_ h=>h
 hidN:=λ_ h=>.inl h
 keep:=λa u e _=>by rw [Q6 (Qd e h)]; exact e
 new:=λa e=>.inl e
 old:=λa u e=>⟨u,by rw [Q6 (Qd e h)]; exact e⟩
 frz:=λa o u e=>by rw [Q6 (Qd e h)]; exact e
def Ext.addT (h:H p=zl):Ext H ρ (upd H p o) (ρ.add p) where
 pre:=ce _ _
 hidM:=λ_ h=>h
 hidN:=λ_ h=>.inl h
 keep:=λa u e _=>by rw [Q6 (Qd e h)]; exact e
 new:=λa e=>by
  rcases E6.mp e with z | z
  ·exact .inl z
  ·right
   have:a=p:=by simpa using z
   rw [this]; exact h
 old:=λa u e=>⟨u,by rw [Q6 (Qd e h)]; exact e⟩
 frz:=λa o u e=>by rw [Q6 (Qd e h)]; exact e
def Ext.same (h:Same H H'):Ext H ρ H' ρ:=⟨ca _,λ_ h=>h,λ_ h=>.inl h,λa o e _=>h a o e,λ_ e=>.inl e,λa o e=>⟨o,h a o e⟩,λa o u e=>h a _ e⟩
section
variable {H H':Hp} {ρ ρ':Tk}
def Kf (x:Ext H ρ H' ρ') (h:H a=zo o) (n:a∉ρ):a∉ρ':=λz=>by
 rcases z with z | z
 ·rcases x.new a z with z | z
  ·exact n (.inl z)
  ·rw [h] at z; cases z
 ·rcases x.hidN a z with z | z
  ·exact n (.inr z)
  ·rw [h] at z; cases z
def Ext.kp (x:Ext H ρ H' ρ') (h:H a=zo o) (n:a∉ρ):H' a=zo o:=x.keep a o h λz=>n (.inl z)
mutual
theorem Rep.ext (x:Ext H ρ H' ρ'):∀ {p:PV} {v:V},Rep H ρ p v->Rep H' ρ' p v
 | .non,_,h=>h
 | .bl _,_,h=>h
 | .int _,_,h=>h
 | .str _,_,h=>h
 | .tup ps,v,h=>by
  obtain ⟨a,vs,e,s,n,r⟩:=h;exact ⟨a,vs,e,x.kp s n,Kf x s n,RepL.ext x r⟩
 | .lst ps,v,h=>by
  obtain ⟨a,vs,e,s,n,r⟩:=h;exact ⟨a,vs,e,x.kp s n,Kf x s n,RepL.ext x r⟩
 | .fro ps,v,h=>by
  obtain ⟨a,vs,e,s,n,r⟩:=h;rcases s with s | ⟨o,s⟩
  ·exact ⟨a,vs,e,.inl (x.kp s n),Kf x s n,RepL.ext x r⟩
  ·exact ⟨a,vs,e,.inr ⟨o,x.kp s n⟩,Kf x s n,RepL.ext x r⟩
 | .ref i,v,h=>by
  obtain ⟨a,e,rfl⟩:=h;obtain ⟨t,q⟩:=x.pre;refine ⟨a,?_,rfl⟩;rw [<- q,O4 (O0.mp e).1];exact e
 | .dic,v,h=>by
  obtain ⟨a,e,s,n⟩:=h;exact ⟨a,e,x.kp s n,Kf x s n⟩
theorem RepL.ext (x:Ext H ρ H' ρ'):∀ {ps:List PV} {vs:List V},RepL H ρ ps vs->RepL H' ρ' ps vs
 | [],_,h=>h
 | p :: ps,vs,h=>by
  obtain ⟨v,r,e,h1,h2⟩:=h;exact ⟨v,r,e,Rep.ext x h1,RepL.ext x h2⟩
end
mutual
theorem Rep.hide (h:H a=zl):∀ {p:PV} {v:V},Rep H ρ p v->Rep (upd H a o) (ρ.hide a) p v
 | .non,_,r=>r
 | .bl _,_,r=>r
 | .int _,_,r=>r
 | .str _,_,r=>r
 | .tup ps,v,⟨b,vs,e,s,n,r⟩=>⟨b,vs,e,by rw [Q6 (Qd s h)]; exact s,λz=>by
   rcases z with z | z
   ·exact n (.inl z)
   ·rcases D3.mp z with z | z
    ·exact Qd s h z
    ·exact n (.inr z),RepL.hide h r⟩
 | .lst ps,v,⟨b,vs,e,s,n,r⟩=>⟨b,vs,e,by rw [Q6 (Qd s h)]; exact s,λz=>by
   rcases z with z | z
   ·exact n (.inl z)
   ·rcases D3.mp z with z | z
    ·exact Qd s h z
    ·exact n (.inr z),RepL.hide h r⟩
 | .fro ps,v,⟨b,vs,e,s,n,r⟩=>by
   have ne:b≠a:=by
    rcases s with s | ⟨_,s⟩
    ·exact Qd s h
    ·exact Qd s h
   refine ⟨b,vs,e,?_,λz=>?_,RepL.hide h r⟩
   ·rcases s with s | ⟨u,s⟩
    ·exact .inl (by rw [Q6 ne]; exact s)
    ·exact .inr ⟨u,by rw [Q6 ne]; exact s⟩
   ·rcases z with z | z
    ·exact n (.inl z)
    ·rcases D3.mp z with z | z
     ·exact ne z
     ·exact n (.inr z)
 | .ref i,v,r=>r
 | .dic,v,⟨b,e,s,n⟩=>⟨b,e,by rw [Q6 (Qd s h)]; exact s,λz=>by
   rcases z with z | z
   ·exact n (.inl z)
   ·rcases D3.mp z with z | z
    ·exact Qd s h z
    ·exact n (.inr z)⟩
theorem RepL.hide (h:H a=zl):∀ {ps:List PV} {vs:List V},RepL H ρ ps vs->RepL (upd H a o) (ρ.hide a) ps vs
 | [],_,r=>r
 | p :: ps,_,⟨v,t,e,B,q⟩=>⟨v,t,e,Rep.hide h B,RepL.hide h q⟩
end
mutual
theorem Rep.rehide (h:a∈ρ.hid):∀ {p:PV} {v:V},Rep H ρ p v->Rep (upd H a o) ρ p v
 | .non,_,r=>r
 | .bl _,_,r=>r
 | .int _,_,r=>r
 | .str _,_,r=>r
 | .tup ps,v,⟨b,vs,e,s,n,r⟩=>⟨b,vs,e,by rw [Q6 (show b≠a from λz=>n (.inr (by rw [z]; exact h)))]; exact s,n,RepL.rehide h r⟩
 | .lst ps,v,⟨b,vs,e,s,n,r⟩=>⟨b,vs,e,by rw [Q6 (show b≠a from λz=>n (.inr (by rw [z]; exact h)))]; exact s,n,RepL.rehide h r⟩
 | .fro ps,v,⟨b,vs,e,s,n,r⟩=>by
   have ne:b≠a:=λz=>n (.inr (by rw [z]; exact h))
   refine ⟨b,vs,e,?_,n,RepL.rehide h r⟩;rcases s with s | ⟨u,s⟩
   ·exact .inl (by rw [Q6 ne]; exact s)
   ·exact .inr ⟨u,by rw [Q6 ne]; exact s⟩
 | .ref i,v,r=>r
 | .dic,v,⟨b,e,s,n⟩=>⟨b,e,by rw [Q6 (show b≠a from λz=>n (.inr (by rw [z]; exact h)))]; exact s,n⟩
theorem RepL.rehide (h:a∈ρ.hid):∀ {ps:List PV} {vs:List V},RepL H ρ ps vs->RepL (upd H a o) ρ ps vs
 | [],_,r=>r
 | p :: ps,_,⟨v,t,e,B,q⟩=>⟨v,t,e,Rep.rehide h B,RepL.rehide h q⟩
end
mutual
theorem Rep.retr (h:a∈ρ.tr):∀ {p:PV} {v:V},Rep H ρ p v->Rep (upd H a o) ρ p v
 | .non,_,r=>r
 | .bl _,_,r=>r
 | .int _,_,r=>r
 | .str _,_,r=>r
 | .tup ps,v,⟨b,vs,e,s,n,r⟩=>⟨b,vs,e,by rw [Q6 (show b≠a from λz=>n (.inl (by rw [z]; exact h)))]; exact s,n,RepL.retr h r⟩
 | .lst ps,v,⟨b,vs,e,s,n,r⟩=>⟨b,vs,e,by rw [Q6 (show b≠a from λz=>n (.inl (by rw [z]; exact h)))]; exact s,n,RepL.retr h r⟩
 | .fro ps,v,⟨b,vs,e,s,n,r⟩=>by
   have ne:b≠a:=λz=>n (.inl (by rw [z]; exact h))
   refine ⟨b,vs,e,?_,n,RepL.retr h r⟩;rcases s with s | ⟨u,s⟩
   ·exact .inl (by rw [Q6 ne]; exact s)
   ·exact .inr ⟨u,by rw [Q6 ne]; exact s⟩
 | .ref i,v,r=>r
 | .dic,v,⟨b,e,s,n⟩=>⟨b,e,by rw [Q6 (show b≠a from λz=>n (.inl (by rw [z]; exact h)))]; exact s,n⟩
theorem RepL.retr (h:a∈ρ.tr):∀ {ps:List PV} {vs:List V},RepL H ρ ps vs->RepL (upd H a o) ρ ps vs
 | [],_,r=>r
 | p :: ps,_,⟨v,t,e,B,q⟩=>⟨v,t,e,Rep.retr h B,RepL.retr h q⟩
end
mutual
theorem Rep.unhide (q:∀ a,a∈hs->a∈ρ.hid):∀ {p:PV} {v:V},Rep H ρ p v->Rep H ⟨ρ.tr,hs⟩ p v
 | .non,_,r=>r
 | .bl _,_,r=>r
 | .int _,_,r=>r
 | .str _,_,r=>r
 | .tup ps,v,⟨b,vs,e,s,n,r⟩=>⟨b,vs,e,s,λz=>n (z.imp id (q _)),RepL.unhide q r⟩
 | .lst ps,v,⟨b,vs,e,s,n,r⟩=>⟨b,vs,e,s,λz=>n (z.imp id (q _)),RepL.unhide q r⟩
 | .fro ps,v,⟨b,vs,e,s,n,r⟩=>⟨b,vs,e,s,λz=>n (z.imp id (q _)),RepL.unhide q r⟩
 | .ref i,v,r=>r
 | .dic,v,⟨b,e,s,n⟩=>⟨b,e,s,λz=>n (z.imp id (q _))⟩
theorem RepL.unhide (q:∀ a,a∈hs->a∈ρ.hid):∀ {ps:List PV} {vs:List V},RepL H ρ ps vs->RepL H ⟨ρ.tr,hs⟩ ps vs
 | [],_,r=>r
 | p :: ps,_,⟨v,t,e,G,B⟩=>⟨v,t,e,Rep.unhide q G,RepL.unhide q B⟩
end
theorem RepL.length:∀ {ps:List PV} {vs:List V},RepL H ρ ps vs->ps.length=vs.length
 | [],_,h=>by cases h; rfl
 | p :: ps,_,⟨v,r,rfl,_,h2⟩=>by rw [E7,E7,RepL.length h2]
theorem RepL.get:∀ {ps:List PV} {vs:List V} {i:Nat} {p:PV},RepL H ρ ps vs->ps[i]?=zo p->∃ v,vs[i]?=zo v/\Rep H ρ p v
 | [],_,_,_,_,e=>by simp at e
 | p :: ps,_,0,q,⟨v,r,rfl,h1,h2⟩,e=>by simp at e; subst e; exact ⟨v,rfl,h1⟩
 | p :: ps,_,i + 1,q,⟨v,r,rfl,h1,h2⟩,e=>by
  obtain ⟨u,G,B⟩:=RepL.get (i:=i) h2 (by simpa using e);exact ⟨u,by simpa using G,B⟩
def RepL.cons {p:PV} (h:Rep H ρ p v) (r:RepL H ρ ps vs):RepL H ρ (p :: ps) (v :: vs):=⟨v,vs,rfl,h,r⟩
def RepL.nil:RepL H ρ [] []:=rfl
theorem RepL.append:∀ {ps q:List PV} {vs us:List V},RepL H ρ ps vs->RepL H ρ q us->RepL H ρ (ps ++ q) (vs ++ us)
 | [],_,_,_,h,g=>by cases h; exact g
 | p :: ps,_,_,_,⟨v,r,rfl,h1,h2⟩,g=>⟨v,_,rfl,h1,RepL.append h2 g⟩
theorem RepL.take:∀ {ps:List PV} {vs:List V} (n:Nat),RepL H ρ ps vs->RepL H ρ (ps.take n) (vs.take n)
 | _,_,0,_=>rfl
 | [],_,n + 1,h=>by cases h; rfl
 | p :: ps,_,n + 1,⟨v,r,rfl,h1,h2⟩=>⟨v,_,rfl,h1,RepL.take n h2⟩
theorem RepL.drop:∀ {ps:List PV} {vs:List V} (n:Nat),RepL H ρ ps vs->RepL H ρ (ps.drop n) (vs.drop n)
 | _,_,0,h=>h
 | [],_,n + 1,h=>by cases h; rfl
 | p :: ps,_,n + 1,⟨v,r,rfl,h1,h2⟩=>RepL.drop n h2
theorem RepL.set {p:PV} (h:Rep H ρ p v):∀ {ps:List PV} {vs:List V} (i:Nat),RepL H ρ ps vs->RepL H ρ (ps.set i p) (vs.set i v)
 | [],_,_,g=>by cases g; rfl
 | q :: ps,_,0,⟨u,r,rfl,h1,h2⟩=>⟨v,r,rfl,h,h2⟩
 | q :: ps,_,i + 1,⟨u,r,rfl,h1,h2⟩=>⟨u,_,rfl,h1,RepL.set h i h2⟩
theorem RepL.rep (h:RepL H ρ ps vs):∀ n,RepL H ρ (bg n ps).flatten (bg n vs).flatten
 | 0=>rfl
 | n + 1=>by rw [cn,cn,cu,cu]; exact h.append (RepL.rep h n)
theorem RepL.toInts:∀ {ns:List Int} {vs:List V},RepL H ρ (ns.map .int) vs->vs=ns.map V.int
 | [],_,h=>h
 | n :: ns,_,⟨v,r,rfl,h1,h2⟩=>by
  have e:v=V.int n:=h1;rw [RepL.toInts h2,e]; rfl
theorem RepL.toBls:∀ {ns:List Bool} {vs:List V},RepL H ρ (ns.map .bl) vs->vs=ns.map V.bl
 | [],_,h=>h
 | n :: ns,_,⟨v,r,rfl,h1,h2⟩=>by
  have e:v=V.bl n:=h1;rw [RepL.toBls h2,e]; rfl
end
def RepD {κ:Type} (H:Hp) (ρ:Tk) (kvs:List (κ × PV)) (vs:List (κ × V)):Prop:=vs.map bh=kvs.map bh/\RepL H ρ (kvs.map cA) (vs.map cA)
def RepD.ext {ρ':Tk} {kvs:List (κ × PV)} {vs:List (κ × V)} (x:Ext H ρ H' ρ') (r:RepD H ρ kvs vs):RepD H' ρ' kvs vs:=⟨r.1,r.2.ext x⟩
def RepD.length {kvs:List (κ × PV)} {vs:List (κ × V)} (r:RepD H ρ kvs vs):kvs.length=vs.length:=by
 have:=congrArg cj r.1;rw [O3,O3] at this;exact this.symm
def CellR (H:Hp) (ρ:Tk) (a:aB):Cell->Prop
 | .lst ps=>∃ vs,H a=zo (.lst vs)/\RepL H ρ ps vs
 | .dic kvs=>∃ vs,H a=zo (.dK vs)/\RepD H ρ kvs vs
 | .dtp kvs=>∃ vs,H a=zo (.dT vs)/\RepD H ρ kvs vs
 | .frd kvs=>∃ vs,(∃ o,H a=zo (.frz o (.dK vs)))/\RepD H ρ kvs vs
 | .obj C fs=>∃ vs,(∃ dx,H a=zo (.ins C dx vs))/\RepD H ρ fs vs
def CellR.dom :∀ {c:Cell},CellR H ρ a c->∃ o,H a=zo o
 | .lst _,⟨_,e,_⟩=>⟨_,e⟩
 | .dic _,⟨_,e,_⟩=>⟨_,e⟩
 | .dtp _,⟨_,e,_⟩=>⟨_,e⟩
 | .frd _,⟨_,⟨_,e⟩,_⟩=>⟨_,e⟩
 | .obj _ _,⟨_,⟨_,e⟩,_⟩=>⟨_,e⟩
def CellR.ext {ρ':Tk} (x:Ext H ρ H' ρ') (k:∀ o,H a=zo o->H' a=zo o):∀ {c:Cell},CellR H ρ a c->CellR H' ρ' a c
 | .lst _,⟨vs,e,r⟩=>⟨vs,k _ e,r.ext x⟩
 | .dic _,⟨vs,e,r⟩=>⟨vs,k _ e,r.ext x⟩
 | .dtp _,⟨vs,e,r⟩=>⟨vs,k _ e,r.ext x⟩
 | .frd _,⟨vs,⟨o,e⟩,r⟩=>⟨vs,⟨o,k _ e⟩,r.ext x⟩
 | .obj _ _,⟨vs,⟨o,e⟩,r⟩=>⟨vs,⟨o,k _ e⟩,r.ext x⟩
structure Rel (H:Hp) (ρ:Tk) (st:Q0):Prop where
 len:ρ.tr.length=st.length
 nd:ρ.tr.Nodup
 hd:∀ a∈ρ.hid,∃ o,H a=zo o/\∀ xs,o≠.tup xs
 ap:∀ a∈ρ.hid,a∉ρ.tr
 cell:∀ (i:Nat) (a:aB) (c:Cell),ρ.tr[i]?=zo a->st[i]?=zo c->CellR H ρ a c
section
variable {H H':Hp} {ρ ρ':Tk} {st st':Q0}
def Rel.lst (R:Rel H ρ st) {i:Nat} (h:st[i]?=zo (.lst ps)):∃ a vs,ρ.tr[i]?=zo a/\H a=zo (.lst vs)/\RepL H ρ ps vs:=by
 have hi:i < ρ.tr.length:=by rw [R.len]; exact (O0.mp h).1
 have e:ρ.tr[i]?=zo ρ.tr[i]:=O2 hi;obtain ⟨vs,B,q⟩:=R.cell i _ _ e h;exact ⟨_,vs,e,B,q⟩
def Rel.dic (R:Rel H ρ st) {i:Nat} {kvs:List (Key × PV)} (h:st[i]?=zo (.dic kvs)):∃ a vs,ρ.tr[i]?=zo a/\H a=zo (.dK vs)/\RepD H ρ kvs vs:=by
 have hi:i < ρ.tr.length:=by rw [R.len]; exact (O0.mp h).1
 have e:ρ.tr[i]?=zo ρ.tr[i]:=O2 hi;obtain ⟨vs,B,q⟩:=R.cell i _ _ e h;exact ⟨_,vs,e,B,q⟩
def Rel.frd (R:Rel H ρ st) {i:Nat} {kvs:List (Key × PV)} (h:st[i]?=zo (.frd kvs)):∃ a vs o,ρ.tr[i]?=zo a/\H a=zo (.frz o (.dK vs))/\RepD H ρ kvs vs:=by
 have hi:i < ρ.tr.length:=by rw [R.len]; exact (O0.mp h).1
 have e:ρ.tr[i]?=zo ρ.tr[i]:=O2 hi;obtain ⟨vs,⟨o,q⟩,e2⟩:=R.cell i _ _ e h;exact ⟨_,vs,o,e,q,e2⟩
def Rel.dom (R:Rel H ρ st) (h:a∈ρ.tr):∃ o,H a=zo o:=by
 obtain ⟨i,hi,e⟩:=cq h;have hs:i < st.length:=by rw [<- R.len]; exact hi
 have q:=R.cell i a st[i] (by rw [O2 hi,e]) (O2 hs);exact q.dom
def Rel.fresh (R:Rel H ρ st) (h:H p=zl):p∉ρ:=λz=>by
 rcases z with z | z
 ·obtain ⟨vs,q⟩:=R.dom z;rw [h] at q; cases q
 ·obtain ⟨o,q,_⟩:=R.hd p z;rw [h] at q; cases q
def Rel.later (R:Rel H ρ st) (x:Ext H ρ H' ρ) (k:∀ a o,a∈ρ.tr->H a=zo o->H' a=zo o):Rel H' ρ st where
 len:=R.len
 nd:=R.nd
 hd:=λa q=>let ⟨o,e,n⟩:=R.hd a q; ⟨o,x.keep a o e (R.ap a q),n⟩
 ap:=R.ap
 cell:=λi a c h1 h2=>by
  exact (R.cell i a c h1 h2).ext x λo e=>k a o (D8 h1) e
end
def Rel.add (R:Rel H ρ st) (h:H p=zl):Rel (upd H p o) ρ st:=
 R.later (Ext.add h) λa u q e=>by rw [Q6 (Qd e h)]; exact e
def Rel.same (R:Rel H ρ st) (h:Same H H'):Rel H' ρ st:=R.later (Ext.same h) λa u _ e=>h a u e
def Rel.addC (R:Rel H ρ st) (h:H p=zl) (r:CellR (upd H p o) (ρ.add p) p cl):Rel (upd H p o) (ρ.add p) (st ++ [cl]) where
 len:=by show (ρ.tr ++ [p]).length=_; rw [D4,D4,R.len]; rfl
 nd:=dU.mpr ⟨R.nd,by simp,λa q b G e=>by
  have:b=p:=by simpa using G
  subst this; subst e;exact R.fresh h (.inl q)⟩
 hd:=λa q=>let ⟨o,e,n⟩:=R.hd a q; ⟨o,by rw [Q6 (Qd e h)]; exact e,n⟩
 ap:=λa q z=>by
  rcases E6.mp z with z | z
  ·exact R.ap a q z
  ·have:a=p:=by simpa using z
   subst this;exact R.fresh h (.inr q)
 cell:=λi a c h1 h2=>by
  have h1:(ρ.tr ++ [p])[i]?=zo a:=h1
  by_cases hi:i < st.length
  ·rw [O4 (by rw [R.len]; exact hi)] at h1;rw [O4 hi] at h2;exact (R.cell i a c h1 h2).ext (Ext.addT h) λu e=>by rw [Q6 (Qd e h)]; exact e
  ·rw [D0 (by rw [R.len]; omega)] at h1;rw [D0 ()] at h2;have B:i - st.length=0:=by
    rcases fS (i - st.length) with z | z
    ·exact z
    ·rw [dS (by simp; omega)] at h2; cases h2
   rw [R.len,B] at h1;rw [B] at h2;simp at h1 h2;subst h1; subst h2;exact r
def Q5q {α:Type} {l:List α} (h:l.Nodup) {i j:Nat} (hi:i < l.length) (q:j < l.length) (e:l[i]=l[j]):i=j:=by
 rcases Nat.lt_trichotomy i j with z | z | z
 ·exact absurd e ((dy.mp h) i j hi q z)
 ·exact z
 ·exact absurd e.symm ((dy.mp h) j i q hi z)
def Ext.put {o':HO} (h:a∈ρ.tr) (e:H a=zo o) (B:∀ q u,o≠.frz q u:=by intro _ _ z; cases z):Ext H ρ (upd H a o') ρ where
 pre:=ca _
 hidM:=λ_ h=>h
 hidN:=λ_ h=>.inl h
 keep:=λb u q n=>by rw [Q6 (show b≠a from λz=>n (by rw [z]; exact h))]; exact q
 new:=λb q=>.inl q
 old:=λb u q=>by
  by_cases z:b=a
  ·exact ⟨o',by rw [z]; exact Qm⟩
  ·exact ⟨u,by rw [Q6 z]; exact q⟩
 frz:=λb q u k=>by
  by_cases z:b=a
  ·rw [z,e] at k; cases k; exact absurd rfl (B _ _)
  ·rw [Q6 z]; exact k
def Rel.putC (R:Rel H ρ st) {i:Nat} {o':HO} (hi:ρ.tr[i]?=zo a) (e:H a=zo o) (r:CellR (upd H a o') ρ a cl):Rel (upd H a o') ρ (st.set i cl) where
 len:=by rw [L3]; exact R.len
 nd:=R.nd
 hd:=λb I=>let ⟨u,q,n⟩:=R.hd b I; ⟨u,by rw [Q6 (show b≠a from λz=>R.ap b I (by rw [z]; exact D8 hi))]; exact q,n⟩
 ap:=R.ap
 cell:=λj b c h1 h2=>by
  by_cases U:i=j
  ·subst U;rw [hi] at h1; cases h1;rw [D6 (by rw [<- R.len]; exact (O0.mp hi).1)] at h2;cases h2;exact r
  ·rw [E4 U] at h2;have q:=R.cell j b c h1 h2;have I:b≠a:=λz=>by
    subst z;have l1:=(O0.mp hi);have l2:=(O0.mp h1);exact U (Q5q R.nd l1.1 l2.1 (l1.2.trans l2.2.symm))
   have J:=D8 hi;cases c with
   | lst ps=>
    obtain ⟨vs,G,B⟩:=q;exact ⟨vs,by rw [Q6 I]; exact G,B.retr J⟩
   | dic ps=>
    obtain ⟨vs,G,B⟩:=q;exact ⟨vs,by rw [Q6 I]; exact G,B.1,B.2.retr J⟩
   | dtp ps=>
    obtain ⟨vs,G,B⟩:=q;exact ⟨vs,by rw [Q6 I]; exact G,B.1,B.2.retr J⟩
   | frd ps=>
    obtain ⟨vs,⟨O,G⟩,B⟩:=q;exact ⟨vs,⟨O,by rw [Q6 I]; exact G⟩,B.1,B.2.retr J⟩
   | obj C ps=>
    obtain ⟨vs,⟨O,G⟩,B⟩:=q;exact ⟨vs,⟨O,by rw [Q6 I]; exact G⟩,B.1,B.2.retr J⟩
def Rel.put (R:Rel H ρ st) {i:Nat} (hi:ρ.tr[i]?=zo a) (e:H a=zo o) (r:RepL H ρ ps vs):Rel (upd H a (.lst vs)) ρ (st.set i (.lst ps)):=
 R.putC hi e ⟨vs,Qm,r.retr (D8 hi)⟩
def Rel.hide (R:Rel H ρ st) (h:H p=zl) (U:∀ xs,o≠.tup xs:=by intro _ z; cases z):Rel (upd H p o) (ρ.hide p) st:=by
 have x:Ext H ρ (upd H p o) ρ:=Ext.add h;have J:=R.add (p:=p) (o:=o) h;refine ⟨J.len,J.nd,λa I=>?_,λa I z=>?_,λi a c h1 h2=>?_⟩
 ·rcases D3.mp I with rfl | I
  ·exact ⟨o,Qm,U⟩
  ·exact J.hd a I
 ·rcases D3.mp I with rfl | I
  ·exact R.fresh h (.inl z)
  ·exact R.ap a I z
 ·have q:=R.cell i a c h1 h2;cases c with
  | lst ps=>
   obtain ⟨vs,B,G⟩:=q;exact ⟨vs,by rw [Q6 (Qd B h)]; exact B,G.hide h⟩
  | dic ps=>
   obtain ⟨vs,B,G⟩:=q;exact ⟨vs,by rw [Q6 (Qd B h)]; exact B,G.1,G.2.hide h⟩
  | dtp ps=>
   obtain ⟨vs,B,G⟩:=q;exact ⟨vs,by rw [Q6 (Qd B h)]; exact B,G.1,G.2.hide h⟩
  | frd ps=>
   obtain ⟨vs,⟨O,B⟩,G⟩:=q;exact ⟨vs,⟨O,by rw [Q6 (Qd B h)]; exact B⟩,G.1,G.2.hide h⟩
  | obj C ps=>
   obtain ⟨vs,⟨O,B⟩,G⟩:=q;exact ⟨vs,⟨O,by rw [Q6 (Qd B h)]; exact B⟩,G.1,G.2.hide h⟩
def Rel.rehide (R:Rel H ρ st) (h:p∈ρ.hid) (O:∀ xs,o≠.tup xs:=by intro _ z; cases z):Rel (upd H p o) ρ st:=by
 refine ⟨R.len,R.nd,λa J=>?_,R.ap,λi a c h1 h2=>?_⟩
 ·by_cases e:a=p
  ·exact ⟨o,by rw [e]; exact Qm,O⟩
  ·obtain ⟨u,q,n⟩:=R.hd a J;exact ⟨u,by rw [Q6 e]; exact q,n⟩
 ·have q:=R.cell i a c h1 h2;have ne:a≠p:=λz=>R.ap p h (by rw [<- z]; exact D8 h1)
  cases c with
  | lst ps=>
   obtain ⟨vs,G,B⟩:=q;exact ⟨vs,by rw [Q6 ne]; exact G,B.rehide h⟩
  | dic ps=>
   obtain ⟨vs,G,B⟩:=q;exact ⟨vs,by rw [Q6 ne]; exact G,B.1,B.2.rehide h⟩
  | dtp ps=>
   obtain ⟨vs,G,B⟩:=q;exact ⟨vs,by rw [Q6 ne]; exact G,B.1,B.2.rehide h⟩
  | frd ps=>
   obtain ⟨vs,⟨I,G⟩,B⟩:=q;exact ⟨vs,⟨I,by rw [Q6 ne]; exact G⟩,B.1,B.2.rehide h⟩
  | obj C ps=>
   obtain ⟨vs,⟨I,G⟩,B⟩:=q;exact ⟨vs,⟨I,by rw [Q6 ne]; exact G⟩,B.1,B.2.rehide h⟩
def Rel.unhide (I:∀ a,a∈hs->a∈ρ.hid) (R:Rel H ρ st):Rel H ⟨ρ.tr,hs⟩ st:=by
 refine ⟨R.len,R.nd,λa J=>R.hd a (I a J),λa J=>R.ap a (I a J),λi a c h1 h2=>?_⟩;have q:=R.cell i a c h1 h2;cases c with
 | lst ps=>
  obtain ⟨vs,G,B⟩:=q;exact ⟨vs,G,RepL.unhide I B⟩
 | dic ps=>
  obtain ⟨vs,G,B⟩:=q;exact ⟨vs,G,B.1,RepL.unhide I B.2⟩
 | dtp ps=>
  obtain ⟨vs,G,B⟩:=q;exact ⟨vs,G,B.1,RepL.unhide I B.2⟩
 | frd ps=>
  obtain ⟨vs,G,B⟩:=q;exact ⟨vs,G,B.1,RepL.unhide I B.2⟩
 | obj C ps=>
  obtain ⟨vs,G,B⟩:=q;exact ⟨vs,G,B.1,RepL.unhide I B.2⟩
def Ext.hide (h:H p=zl):Ext H ρ (upd H p o) (ρ.hide p) where
 pre:=ca _
 hidM:=λ_ h=>O7 _ h
 hidN:=λa q=>by
  rcases D3.mp q with rfl | q
  ·exact .inr h
  ·exact .inl q
 keep:=λa u e _=>by rw [Q6 (Qd e h)]; exact e
 new:=λa e=>.inl e
 old:=λa u e=>⟨u,by rw [Q6 (Qd e h)]; exact e⟩
 frz:=λa o u e=>by rw [Q6 (Qd e h)]; exact e
def Ext.put0 {H1:Hp} {ρ1:Tk} (x:Ext H ρ H1 ρ1) (h:H p=zl):Ext H ρ (upd H1 p o) ρ1 where
 pre:=x.pre
 hidM:=x.hidM
 hidN:=x.hidN
 keep:=λa u e n=>by rw [Q6 (Qd e h)]; exact x.keep a u e n
 new:=x.new
 old:=λa u e=>by rw [Q6 (Qd e h)]; exact x.old a u e
 frz:=λa o u e=>by rw [Q6 (Qd e h)]; exact x.frz a o u e
def Ext.unhide {H1:Hp} {ρ1:Tk} (x:Ext H ρ H1 ρ1):Ext H ρ H1 ⟨ρ1.tr,ρ.hid⟩ where
 pre:=x.pre
 hidM:=λ_ h=>h
 hidN:=λ_ h=>.inl h
 keep:=x.keep
 new:=x.new
 old:=x.old
 frz:=x.frz
def EnvR (H:Hp) (ρ:Tk) (Γ:Gam) (σ:St):Prop:=Γ.length=σ.length/\∀ (i:Nat) (p:PV),Γ[i]?=zo (zo p)->∃ v,σ[i]?=zo (zo v)/\Rep H ρ p v
def EnvR.ext {ρ':Tk} (x:Ext H ρ H' ρ') (h:EnvR H ρ Γ σ):EnvR H' ρ' Γ σ:=
 ⟨h.1,λi p e=>let ⟨v,a,b⟩:=h.2 i p e; ⟨v,a,b.ext x⟩⟩
def EnvR.hide (n:H a=zl) (h:EnvR H ρ Γ σ):EnvR (upd H a o) (ρ.hide a) Γ σ:=⟨h.1,λi p e=>let ⟨v,a,b⟩:=h.2 i p e; ⟨v,a,b.hide n⟩⟩
def EnvR.rehide (n:a∈ρ.hid) (h:EnvR H ρ Γ σ):EnvR (upd H a o) ρ Γ σ:=⟨h.1,λi p e=>let ⟨v,a,b⟩:=h.2 i p e; ⟨v,a,b.rehide n⟩⟩
def EnvR.retr (n:a∈ρ.tr) (h:EnvR H ρ Γ σ):EnvR (upd H a o) ρ Γ σ:=⟨h.1,λi p e=>let ⟨v,a,b⟩:=h.2 i p e; ⟨v,a,b.retr n⟩⟩
def EnvR.set {p:PV} (h:EnvR H ρ Γ σ) (r:Rep H ρ p v) (i:Nat):EnvR H ρ (Γ.set i (zo p)) (σ.set i (zo v)):=by
 refine ⟨by rw [L3,L3]; exact h.1,λj q e=>?_⟩;rw [eE] at e;rw [eE]
 by_cases B:i=j
 ·subst B;simp only [if_true] at e ⊢
  by_cases hl:i < Γ.length
  ·rw [bX hl] at e; cases e;rw [bX (by rw [<- h.1]; exact hl)];exact ⟨v,rfl,r⟩
  ·rw [bY hl] at e; cases e
 ·rw [bY B] at e ⊢;exact h.2 j q e
end
def Res.bind {α β:Type} (r:Res α) (f:α->Q0->Res β):Res β:=match r with
 | .ok a st=>f a st
 | .exc x st=>.exc x st
 | .stuck=>.stuck
def okO {α:Type} (st:Q0):Option α->Res α
 | some a=>.ok a st
 | none=>.stuck
section
variable (X:Cx)
def WE (e:aH):TE:=λσ H Q=>∀ (pins:zAC) (s:aC),Inv X pins σ H s->aF (aI X.prog X.w) X.A (aO e X.env) (EP X pins σ Q) X.xe s
def WT (e:aH):TT:=λσ H Q=>∀ (pins:zAC) (s:aC),Inv X pins σ H s->aF (aI X.prog X.w) X.A (isTrue e X.env (aO e X.env)) (TP X pins σ Q) X.xe s
def WW (e:aH):TT:=λσ H Q=>∀ (wh:Sem aA) (pins:zAC) (s:aC),Inv X pins σ H s->aF (aI X.prog X.w) X.A (isTrue e X.env wh) (TP X pins σ Q) X.xe s
def WA (es:List aH):TA:=λσ H Q=>∀ (pos:Pos) (pins:zAC) (s:aC),Inv X pins σ H s->aF (aI X.prog X.w) X.A (spliced (ag pos (aQ es X.env))) (AP X pins σ Q) X.xe s
def WS (st:aM):TS:=λD σ H=>∀ (pins:zAC) (s:aC),Inv X pins σ H s->aF (aI X.prog X.w) X.A (exec st X.env) (SP X pins D) X.xe s
def WB (st:List aM):TS:=λD σ H=>∀ (pins:zAC) (s:aC),Inv X pins σ H s->aF (aI X.prog X.w) X.A (execs st X.env) (SP X pins D) X.xe s
def WI (tg iter : aH) : TI := λσ H R => ∀ (pins : zAC) (s : aC), Inv X pins σ H s ->
  aF (aI X.prog X.w) X.A (aO iter X.env) (λv s1=>aF (aI X.prog X.w) X.A (pyIter v) (PIE X pins σ tg R) X.xe s1) X.xe s
def WO (f:aA->aA->Sem aA):R2:=λx y H Q=>∀ (pins:zAC) (s:aC) (σ:St) (v u:aA),Inv X pins σ H s->RelV x v->RelV y u->aF (aI X.prog X.w) X.A (f v u) (EP X pins σ Q) X.xe s
def WC (f:aA):List V->Hp->VK->Prop:=λxs H Q=>∀ (pins:zAC) (s:aC) (σ:St) (us:List aA),Inv X pins σ H s->Vals xs us->aF (aI X.prog X.w) X.A (call f us) (EP X pins σ Q) X.xe s
end
variable {X:Cx}
def Zc :PE X e (WE X e):=λpins s _ _ _ I h=>h pins s I
def Q6t :PT X e (WT X e):=λpins s _ _ _ I h=>h pins s I
def Qup :PW X e (WW X e):=λq pins s _ _ _ I h=>h q pins s I
def Q1w :PA X es (WA X es):=λpos pins s _ _ _ I h=>h pos pins s I
def Qur {st:aM}:PS X st (WS X st):=λpins s _ _ _ I h=>h pins s I
def Q3m {st:List aM}:PSs X st (WB X st):=λpins s _ _ _ I h=>h pins s I
def Qqs {tg iter:aH}:PI X tg iter (WI X tg iter):=λpins s _ _ _ I h=>h pins s I
def Qad :OpR X f (WO X f):=λpins s σ _ _ _ v u _ I B q h=>h pins s σ v u I B q
def Qik {f:aA}:V1 X f (WC X f):=λpins s σ _ _ us _ I r h=>h pins s σ us I r
def WE.of {t:TE} {Q:VK} (h:PE X e t) (q:t σ H Q):WE X e σ H Q:=λpins s I=>h pins s σ H Q I q
def WT.of {t:TT} (h:PT X e t) (q:t σ H Q):WT X e σ H Q:=λpins s I=>h pins s σ H Q I q
def WW.of {t:TT} (h:PW X e t) (q:t σ H Q):WW X e σ H Q:=λB pins s I=>h B pins s σ H Q I q
def WA.of {t:TA} {Q:List V->Hp->Prop} (h:PA X es t) (q:t σ H Q):WA X es σ H Q:=λpos pins s I=>h pos pins s σ H Q I q
def WS.of {st:aM} {t:TS} (h:PS X st t) (q:t D σ H):WS X st D σ H:=λpins s I=>h pins s σ H D I q
def WB.of {st:List aM} {t:TS} (h:PSs X st t) (q:t D σ H):WB X st D σ H:=λpins s I=>h pins s σ H D I q
def WI.of {tg iter:aH} {t:TI} {R:It->Hp->Prop} (h:PI X tg iter t) (q:t σ H R):WI X tg iter σ H R:=λpins s I=>h pins s σ H R I q
def WO.of {r:R2} {x y:V} {Q:VK} (h:OpR X f r) (q:r x y H Q):WO X f x y H Q:=λpins s σ v u I G B=>h pins s σ H x y v u Q I G B q
def WC.of {f:aA} {r:List V->Hp->VK->Prop} {xs:List V} {Q:VK} (h:V1 X f r) (q:r xs H Q):WC X f xs H Q:=λpins s σ us I B=>h pins s σ H xs us Q I B q
def XFs (H:Hp) (ρ:Tk):Option (Str × PV)->Option aB->Prop
 | none,dv=>dv=zl
 | some (n,p),dv=>∃ dx v,dv=zo dx/\H dx=zo (.xd [(n,v)])/\dx∉ρ/\Rep H ρ p v
def Acc {α:Type} (mg:zAG) (E:XK) (H:Hp) (ρ:Tk) (P:α->Q0->Hp->Tk->Prop):Res α->Prop
 | .ok a st=>∀ H' ρ',Ext H ρ H' ρ'->Rel H' ρ' st->P a st H' ρ'
 | .exc x st=>∀ C dv H' ρ',mg x.cls=zo (.ref C)->Ext H ρ H' ρ'->Rel H' ρ' st->XFs H' ρ' x.fs dv->E (.ref C) dv H'
 | .stuck=>False
variable {α β:Type} {mg:zAG} {E:XK} {H H1:Hp} {ρ ρ1:Tk}
def Acc.mono {P G:α->Q0->Hp->Tk->Prop} {r:Res α} (h:Acc mg E H ρ P r) (x:Ext H ρ H1 ρ1) (k:∀ a st H' ρ',P a st H' ρ'->G a st H' ρ'):Acc mg E H1 ρ1 G r:=by
 cases r with
 | ok a st=>exact λH' ρ' q B=>k _ _ _ _ (h H' ρ' (x.trans q) B)
 | exc e st=>exact λC I H' ρ' m q B f=>h C I H' ρ' m (x.trans q) B f
 | stuck=>exact h
def Acc.later {P:α->Q0->Hp->Tk->Prop} {r:Res α} (h:Acc mg E H ρ P r) (x:Ext H ρ H1 ρ1):Acc mg E H1 ρ1 P r:=h.mono x λ_ _ _ _ p=>p
def Acc.bind {P:β->Q0->Hp->Tk->Prop} {r:Res α} {f:α->Q0->Res β} (h:Acc mg E H ρ P (r.bind f)):Acc mg E H ρ (λa q H1 ρ1=>Acc mg E H1 ρ1 P (f a q)) r:=by
 cases r with
 | ok a st=>exact λH' ρ' B G=>Acc.later (show Acc mg E H ρ P (f a st) from h) B
 | exc e st=>exact h
 | stuck=>exact h
abbrev QV (Q:VK):PV->Q0->Hp->Tk->Prop:=λp _ H' ρ'=>∀ v,Rep H' ρ' p v->Q v H'
abbrev QL (Q:List V->Hp->Prop):List PV->Q0->Hp->Tk->Prop:=λps _ H' ρ'=>∀ vs,RepL H' ρ' ps vs->Q vs H'
abbrev QB (Q:Bool->Hp->Prop):Bool->Q0->Hp->Tk->Prop:=λb _ H' _=>Q b H'
structure SimE (X:Cx) (E:XK) (e:aH) (m:ME):Prop where
 run:∀ (Γ:Gam) (σ:St) (H:Hp) (ρ:Tk) (st:Q0) (Q:VK),Rel H ρ st->EnvR H ρ Γ σ->Acc X.mg E H ρ (QV Q) (m Γ st)->WE X e σ H Q
structure SimT (X:Cx) (E:XK) (e:aH) (m:Gam->Q0->Res Bool):Prop where
 run:∀ (Γ:Gam) (σ:St) (H:Hp) (ρ:Tk) (st:Q0) (Q:Bool->Hp->Prop),Rel H ρ st->EnvR H ρ Γ σ->Acc X.mg E H ρ (QB Q) (m Γ st)->WT X e σ H Q
structure SimW (X:Cx) (E:XK) (e:aH) (m:Gam->Q0->Res Bool):Prop where
 run:∀ (Γ:Gam) (σ:St) (H:Hp) (ρ:Tk) (st:Q0) (Q:Bool->Hp->Prop),Rel H ρ st->EnvR H ρ Γ σ->Acc X.mg E H ρ (QB Q) (m Γ st)->WW X e σ H Q
structure SimA (X:Cx) (E:XK) (es:List aH) (m:Gam->Q0->Res (List PV)):Prop where
 run:∀ (Γ:Gam) (σ:St) (H:Hp) (ρ:Tk) (st:Q0) (Q:List V->Hp->Prop),Rel H ρ st->EnvR H ρ Γ σ->Acc X.mg E H ρ (QL Q) (m Γ st)->WA X es σ H Q
abbrev OP:=Q0->PV->PV->Res PV
structure OpS (X:Cx) (E:XK) (f:aA->aA->Sem aA) (o:OP):Prop where
 run:∀ (H:Hp) (ρ:Tk) (st:Q0) (p q:PV) (x y:V) (Q:VK),Rel H ρ st->Rep H ρ p x->Rep H ρ q y->Acc X.mg E H ρ (QV Q) (o st p q)->WO X f x y H Q
abbrev CF:=Q0->List PV->Res PV
structure CallS (X:Cx) (E:XK) (f:aA) (o:CF):Prop where
 run:∀ (H:Hp) (ρ:Tk) (st:Q0) (ps:List PV) (xs:List V) (Q:VK),Rel H ρ st->RepL H ρ ps xs->Acc X.mg E H ρ (QV Q) (o st ps)->WC X f xs H Q
variable {Γ:Gam} {σ:St} {st:Q0}
def SimE.use {m:ME} (s:SimE X E e m) {P:PV->Q0->Hp->Tk->Prop} {Q:VK} (R:Rel H ρ st) (G:EnvR H ρ Γ σ) (h:Acc X.mg E H ρ P (m Γ st))
  (k:∀ p q H1 ρ1 v,Ext H ρ H1 ρ1->Rel H1 ρ1 q->EnvR H1 ρ1 Γ σ->Rep H1 ρ1 p v->P p q H1 ρ1->Q v H1):WE X e σ H Q:=by
 refine s.run Γ σ H ρ st Q R G ?_;cases r:m Γ st with
 | ok p q=>rw [r] at h; exact λH' ρ' B I v J=>k p q H' ρ' v B I (G.ext B) J (h H' ρ' B I)
 | exc e st=>rw [r] at h; exact h
 | stuck=>rw [r] at h; exact h
def SimE.use' {m:ME} (s:SimE X E e m) {P:PV->Q0->Hp->Tk->Prop} {Q:VK} (R:Rel H ρ st) (G:EnvR H ρ Γ σ) (h:Acc X.mg E H ρ P (m Γ st))
  (k:∀ p q H1 ρ1 v,m Γ st=.ok p q->Ext H ρ H1 ρ1->Rel H1 ρ1 q->EnvR H1 ρ1 Γ σ->Rep H1 ρ1 p v->P p q H1 ρ1->Q v H1):WE X e σ H Q:=by
 refine s.run Γ σ H ρ st Q R G ?_;cases r:m Γ st with
 | ok p q=>rw [r] at h; exact λH' ρ' B I v J=>k p q H' ρ' v r B I (G.ext B) J (h H' ρ' B I)
 | exc e st=>rw [r] at h; exact h
 | stuck=>rw [r] at h; exact h
def SimA.use' {m:Gam->Q0->Res (List PV)} (s:SimA X E es m) {P:List PV->Q0->Hp->Tk->Prop} {Q:List V->Hp->Prop} (R:Rel H ρ st) (G:EnvR H ρ Γ σ) (h:Acc X.mg E H ρ P (m Γ st))
  (k:∀ ps q H1 ρ1 vs,m Γ st=.ok ps q->Ext H ρ H1 ρ1->Rel H1 ρ1 q->EnvR H1 ρ1 Γ σ->RepL H1 ρ1 ps vs->P ps q H1 ρ1->Q vs H1):WA X es σ H Q:=by
 refine s.run Γ σ H ρ st Q R G ?_;cases r:m Γ st with
 | ok p q=>rw [r] at h; exact λH' ρ' B I v J=>k p q H' ρ' v r B I (G.ext B) J (h H' ρ' B I)
 | exc e st=>rw [r] at h; exact h
 | stuck=>rw [r] at h; exact h
def SimT.use {m:Gam->Q0->Res Bool} (s:SimT X E e m) {P:Bool->Q0->Hp->Tk->Prop} {Q:Bool->Hp->Prop} (R:Rel H ρ st) (G:EnvR H ρ Γ σ) (h:Acc X.mg E H ρ P (m Γ st))
  (k:∀ p q H1 ρ1,Ext H ρ H1 ρ1->Rel H1 ρ1 q->EnvR H1 ρ1 Γ σ->P p q H1 ρ1->Q p H1):WT X e σ H Q:=by
 refine s.run Γ σ H ρ st Q R G ?_;cases r:m Γ st with
 | ok p q=>rw [r] at h; exact λH' ρ' B I=>k p q H' ρ' B I (G.ext B) (h H' ρ' B I)
 | exc e st=>rw [r] at h; exact h
 | stuck=>rw [r] at h; exact h
def SimT.use' {m:Gam->Q0->Res Bool} (s:SimT X E e m) {P:Bool->Q0->Hp->Tk->Prop} {Q:Bool->Hp->Prop} (R:Rel H ρ st) (G:EnvR H ρ Γ σ) (h:Acc X.mg E H ρ P (m Γ st))
  (k:∀ p q H1 ρ1,m Γ st=.ok p q->Ext H ρ H1 ρ1->Rel H1 ρ1 q->EnvR H1 ρ1 Γ σ->P p q H1 ρ1->Q p H1):WT X e σ H Q:=by
 refine s.run Γ σ H ρ st Q R G ?_;cases r:m Γ st with
 | ok p q=>rw [r] at h; exact λH' ρ' B I=>k p q H' ρ' r B I (G.ext B) (h H' ρ' B I)
 | exc e st=>rw [r] at h; exact h
 | stuck=>rw [r] at h; exact h
def SimW.use {m:Gam->Q0->Res Bool} (s:SimW X E e m) {P:Bool->Q0->Hp->Tk->Prop} {Q:Bool->Hp->Prop} (R:Rel H ρ st) (G:EnvR H ρ Γ σ) (h:Acc X.mg E H ρ P (m Γ st))
  (k:∀ p q H1 ρ1,Ext H ρ H1 ρ1->Rel H1 ρ1 q->EnvR H1 ρ1 Γ σ->P p q H1 ρ1->Q p H1):WW X e σ H Q:=by
 refine s.run Γ σ H ρ st Q R G ?_;cases r:m Γ st with
 | ok p q=>rw [r] at h; exact λH' ρ' B I=>k p q H' ρ' B I (G.ext B) (h H' ρ' B I)
 | exc e st=>rw [r] at h; exact h
 | stuck=>rw [r] at h; exact h
def SimA.use {m:Gam->Q0->Res (List PV)} (s:SimA X E es m) {P:List PV->Q0->Hp->Tk->Prop} {Q:List V->Hp->Prop} (R:Rel H ρ st) (G:EnvR H ρ Γ σ) (h:Acc X.mg E H ρ P (m Γ st))
  (k:∀ ps q H1 ρ1 vs,Ext H ρ H1 ρ1->Rel H1 ρ1 q->EnvR H1 ρ1 Γ σ->RepL H1 ρ1 ps vs->P ps q H1 ρ1->Q vs H1):WA X es σ H Q:=by
 refine s.run Γ σ H ρ st Q R G ?_;cases r:m Γ st with
 | ok p q=>rw [r] at h; exact λH' ρ' B I v J=>k p q H' ρ' v B I (G.ext B) J (h H' ρ' B I)
 | exc e st=>rw [r] at h; exact h
 | stuck=>rw [r] at h; exact h
def OpS.use {o:OP} (s:OpS X E f o) {P:PV->Q0->Hp->Tk->Prop} {Q:VK} {p q:PV} {x y:V} (R:Rel H ρ st) (J:Rep H ρ p x) (O:Rep H ρ q y) (h:Acc X.mg E H ρ P (o st p q))
  (k:∀ p B H1 ρ1 v,Ext H ρ H1 ρ1->Rel H1 ρ1 B->Rep H1 ρ1 p v->P p B H1 ρ1->Q v H1):WO X f x y H Q:=by
 refine s.run H ρ st p q x y Q R J O ?_;cases r:o st p q with
 | ok p B=>rw [r] at h; exact λH' ρ' G I v U=>k p B H' ρ' v G I U (h H' ρ' G I)
 | exc e st=>rw [r] at h; exact h
 | stuck=>rw [r] at h; exact h
end Sm
namespace Sm
open PySem PySem.Spec L2 SeqAt
variable {n:Nat} {ps:List PV}
mutual
def peq:PV->PV->Bool
 | .non,.non=>zi
 | .bl a,.bl b=>a == b
 | .bl a,.int b=>(if a then 1 else 0) == b
 | .int a,.bl b=>a == (if b then 1 else 0)
 | .int a,.int b=>a == b
 | .str a,.str b=>a == b
 | .tup xs,.tup ys=>X1 xs ys
 | .lst xs,.lst ys=>X1 xs ys
 | .lst xs,.fro ys=>X1 xs ys
 | .fro xs,.lst ys=>X1 xs ys
 | .fro xs,.fro ys=>X1 xs ys
 | _,_=>zb
def X1:List PV->List PV->Bool
 | [],[]=>zi
 | x :: xs,y :: ys=>peq x y && X1 xs ys
 | _,_=>zb
end
def Za:Nat->PV->Bool
 | _,.ref _=>zb
 | _,.dic=>zb
 | 0,.tup _=>zb
 | 0,.lst _=>zb
 | 0,.fro _=>zb
 | n + 1,.tup xs=>xs.all (Za n)
 | n + 1,.lst xs=>xs.all (Za n)
 | n + 1,.fro xs=>xs.all (Za n)
 | _,_=>zi
theorem Q3q:∀ {xs ys:List PV},xs.length≠ys.length->X1 xs ys=zb
 | [],[],h=>absurd rfl h
 | [],_ :: _,_=>by simp [X1]
 | _ :: _,[],_=>by simp [X1]
 | x :: xs,y :: ys,h=>by
  rw [X1,Q3q (xs:=xs) (ys:=ys) λe=>h (by simp [e]),cN]
theorem Q3r:∀ {xs ys:List PV},xs.length=ys.length->X1 xs ys=(bc xs.length).all λj=>peq (xs.getD j .non) (ys.getD j .non)
 | [],[],_=>by simp [X1]
 | [],_ :: _,h=>by simp at h
 | _ :: _,[],h=>by simp at h
 | x :: xs,y :: ys,h=>by
  rw [X1,Q3r (xs:=xs) (ys:=ys) (by simpa using h),E7,fE,cY,cC];rfl
variable {X:Cx} {pins:zAC} {σ:St} {H:Hp} {s:aC} {ρ:Tk}
mutual
theorem Q84:∀ {p q:PV} {x:V} {n:Nat},Za n p=zi->Za n q=zi->Rep H ρ p x->Rep H ρ q x->peq p q=zi
 | .non,q,x,n,_,I,h1,h2=>by
  cases h1;cases q <;> first | rfl | (cases n <;> cases I; done) | (cases h2; done) | (obtain ⟨_,_,e,_⟩:=h2; cases e) | (obtain ⟨_,_,e⟩:=h2; cases e)
 | .bl b,q,x,n,_,I,h1,h2=>by
  cases h1;cases q <;> first | (cases n <;> cases I; done) | (cases h2; simp [peq]; done) | (obtain ⟨_,_,e,_⟩:=h2; done) | (obtain ⟨_,_,e,_⟩:=h2; cases e; done) | (obtain ⟨_,_,e⟩:=h2; cases e)
 | .int b,q,x,n,_,I,h1,h2=>by
  cases h1;cases q <;> first | (cases n <;> cases I; done) | (cases h2; simp [peq]; done) | (obtain ⟨_,_,e,_⟩:=h2; done) | (obtain ⟨_,_,e,_⟩:=h2; cases e; done) | (obtain ⟨_,_,e⟩:=h2; cases e)
 | .str b,q,x,n,_,I,h1,h2=>by
  cases h1;cases q <;> first | (cases n <;> cases I; done) | (cases h2; simp [peq]; done) | (obtain ⟨_,_,e,_⟩:=h2; done) | (obtain ⟨_,_,e,_⟩:=h2; cases e; done) | (obtain ⟨_,_,e⟩:=h2; cases e)
 | .tup ps,q,x,0,J,_,_,_=>by cases J
 | .tup ps,q,x,n + 1,J,I,⟨a,vs,e,G,_,r⟩,h2=>by
  subst e;cases q with
  | tup U=>
   obtain ⟨b,us,e,B,_,O⟩:=h2;cases e;rw [G] at B; cases B;rw [peq];exact U3 J I r O
  | lst U=>obtain ⟨b,us,e,B,_⟩:=h2; cases e; rw [G] at B; cases B
  | fro U=>obtain ⟨b,us,e,B,_⟩:=h2; cases e; rcases B with B | ⟨o,B⟩ <;> (rw [G] at B; cases B)
  | ref i=>cases I
  | dic=>cases I
  | _=>cases h2
 | .lst ps,q,x,0,J,_,_,_=>by cases J
 | .lst ps,q,x,n + 1,J,I,⟨a,vs,e,G,_,r⟩,h2=>by
  subst e;cases q with
  | lst U=>
   obtain ⟨b,us,e,B,_,O⟩:=h2;cases e;rw [G] at B; cases B;rw [peq];exact U3 J I r O
  | tup U=>obtain ⟨b,us,e,B,_⟩:=h2; cases e; rw [G] at B; cases B
  | fro U=>
   obtain ⟨b,us,e,B,_,O⟩:=h2;cases e;rcases B with B | ⟨o,B⟩
   ·rw [G] at B; cases B;rw [peq];exact U3 J I r O
   ·rw [G] at B; cases B
  | ref i=>cases I
  | dic=>cases I
  | _=>cases h2
 | .fro ps,q,x,0,J,_,_,_=>by cases J
 | .fro ps,q,x,n + 1,J,I,⟨a,vs,e,G,_,r⟩,h2=>by
  subst e;cases q with
  | lst U=>
   obtain ⟨b,us,e,B,_,O⟩:=h2;cases e;rcases G with G | ⟨o,G⟩
   ·rw [G] at B; cases B;rw [peq];exact U3 J I r O
   ·rw [G] at B; cases B
  | tup U=>obtain ⟨b,us,e,B,_⟩:=h2; cases e; rcases G with G | ⟨o,G⟩ <;> (rw [G] at B; cases B)
  | fro U=>
   obtain ⟨b,us,e,B,_,O⟩:=h2;cases e;have:vs=us:=by
    rcases G with G | ⟨o,G⟩ <;> rcases B with B | ⟨o',B⟩ <;> (rw [G] at B; cases B) <;> rfl
   subst this;rw [peq];exact U3 J I r O
  | ref i=>cases I
  | dic=>cases I
  | _=>cases h2
 | .ref i,_,_,n,J,_,_,_=>by cases n <;> cases J
 | .dic,_,_,n,J,_,_,_=>by cases n <;> cases J
theorem U3:∀ {ps B:List PV} {vs:List V} {n:Nat},ps.all (Za n)=zi->B.all (Za n)=zi->RepL H ρ ps vs->RepL H ρ B vs->X1 ps B=zi
 | [],B,vs,n,_,_,h1,h2=>by
  cases h1;cases B with
  | nil=>rfl
  | cons q B=>obtain ⟨_,_,e,_⟩:=h2; cases e
 | p :: ps,B,vs,n,J,g2,⟨v,r,e,h1,G⟩,h2=>by
  subst e;cases B with
  | nil=>cases h2
  | cons q B=>
   obtain ⟨_,_,e,h2,I⟩:=h2;cases e;rw [cY,L1] at J g2;rw [X1,Q84 J.1 g2.1 h1 h2,U3 J.2 g2.2 G I]; rfl
end
inductive Kd (H:Hp) (ρ:Tk) (s:aC):PV->aA->Prop where
 | non:Kd H ρ s .non .none
 | bl (b):Kd H ρ s (.bl b) (.bool b)
 | int (i t):Kd H ρ s (.int i) (.int i t)
 | str (x t):Kd H ρ s (.str x) (.str x t)
 | tup (ps a) (vs:List V) (its:List aA):H a=zo (.tup vs)->RepL H ρ ps vs->Vals vs its->s.heap.IsTuple a its.toArray->Kd H ρ s (.tup ps) (.ref a)
 | lst (p ps a) (vs:List V) (its:List aA):(p=.lst ps\/p=.fro ps)->RepL H ρ ps vs->Vals vs its->s.heap.IsList a its.toArray->Kd H ρ s p (.ref a)
def Qca {p:PV} {x:V} {u:aA} (I:Inv X pins σ H s) (g:Za n p=zi) (r:Rep H ρ p x) (q:RelV x u):Kd H ρ s p u:=by
 cases p with
 | non=>cases r; cases q; exact .non
 | bl b=>cases r; cases q; exact .bl b
 | int i=>cases r; obtain ⟨t,rfl⟩:=q; exact .int i t
 | str i=>cases r; obtain ⟨t,rfl⟩:=q; exact .str i t
 | tup ps=>
  obtain ⟨a,vs,rfl,B,_,J⟩:=r;cases q;obtain ⟨its,G,O,_⟩:=I.tuple (SqT.of (K:=X.K) B);exact .tup ps a vs its B J G O
 | lst ps=>
  obtain ⟨a,vs,rfl,B,_,J⟩:=r;cases q;obtain ⟨its,G,O,_⟩:=I.list (SqL.of (K:=X.K) B);exact .lst _ ps a vs its (.inl rfl) J G O.isList
 | fro ps=>
  obtain ⟨a,vs,rfl,B,_,J⟩:=r;cases q;obtain ⟨its,G,O,_⟩:=I.list (show SqL X.K H a vs from .inl B);exact .lst _ ps a vs its (.inr rfl) J G O.isList
 | ref i=>cases n <;> cases g
 | dic=>cases n <;> cases g
def Q2e {vs:List V} {its:List aA} (r:RepL H ρ ps vs) (v:Vals vs its) {j:Nat} (h:j < its.length):∃ x,Rep H ρ (ps.getD j .non) x/\RelV x its[j]:=by
 have l1:=r.length;have l2:=v.length;have B:j < ps.length:=by omega
 obtain ⟨x,I,G⟩:=r.get (O2 B);obtain ⟨u,q,J⟩:=v.get I;rw [O2 h] at q; cases q;refine ⟨x,?_,J⟩;rw [cw,O2 B];exact G
def zm (g:ps.all (Za n)=zi) (j:Nat) (q:j < ps.length):Za n (ps.getD j .non)=zi:=by
 rw [cw,O2 q];exact (E8.mp g) _ (cP q)
def Qac {q:List PV}:((bc (min ps.length q.length)).all (λj=>peq (ps.getD j .non) (q.getD j .non)) && ps.length == q.length)=X1 ps q:=by
 by_cases e:ps.length=q.length
 ·rw [Q3r e,<- e,Nat.min_self,beq_self_eq_true,Bool.and_true]
 ·rw [Q3q e,beq_eq_false_iff_ne.mpr e,cN]
def Q9c:∀ (n:Nat) {A:aP} {p q:PV} {x y:V} {u v:aA},Inv X pins σ H s->Za n p=zi->Za n q=zi->A.units + n < aX->Rep H ρ p x->RelV x u->Rep H ρ q y->RelV y v ->
  EqAt A s u v (peq p q)/\RcAt A s u v (peq p q)/\RcNeAt A s u v (!peq p q):=by
 intro n
 induction n with
 | zero=>
  intro A p q x y u v I Z O hu rp ru rq rv;have k1:=Qca I Z rp ru;have k2:=Qca I O rq rv;have hu:A.units < aX:=by omega
  cases k1 with
  | tup=>cases Z
  | lst p ps a vs its h=>rcases h with rfl | rfl <;> cases Z
  | non=>cases k2 with
   | tup=>cases O
   | lst p ps a vs its h=>rcases h with rfl | rfl <;> cases O
   | non=>exact ⟨EqAt.same _,RcAt.none_none,RcNeAt.none_none⟩
   | bl b=>exact ⟨EqAt.none_bool _,RcAt.none_bool _,RcNeAt.none_bool _⟩
   | int i t=>exact ⟨EqAt.none_int _ _,RcAt.none_int _ _,RcNeAt.none_int _ _⟩
   | str i t=>exact ⟨EqAt.none_str _ _,RcAt.none_str _ _,RcNeAt.none_str _ _⟩
  | bl a=>cases k2 with
   | tup=>cases O
   | lst p ps a vs its h=>rcases h with rfl | rfl <;> cases O
   | non=>exact ⟨EqAt.bool_none _,RcAt.bool_none _,RcNeAt.bool_none _⟩
   | bl b=>exact ⟨EqAt.bool_bool _ _,RcAt.bool_bool _ _,RcNeAt.bool_bool _ _⟩
   | int i t=>exact ⟨EqAt.bool_int _ _ _,RcAt.bool_int _ _ _,RcNeAt.bool_int _ _ _⟩
   | str i t=>exact ⟨EqAt.bool_str _ _ _,RcAt.bool_str _ _ _,RcNeAt.bool_str _ _ _⟩
  | int a a4=>cases k2 with
   | tup=>cases O
   | lst p ps a vs its h=>rcases h with rfl | rfl <;> cases O
   | non=>exact ⟨EqAt.int_none _ _,RcAt.int_none _ _,RcNeAt.int_none _ _⟩
   | bl b=>exact ⟨EqAt.int_bool _ _ _,RcAt.int_bool _ _ _,RcNeAt.int_bool _ _ _⟩
   | int i t=>exact ⟨EqAt.int_int _ _ _ _,RcAt.int_int _ _ _ _,RcNeAt.int_int _ _ _ _⟩
   | str i t=>exact ⟨EqAt.int_str _ _ _ _,RcAt.int_str _ _ _ _,RcNeAt.int_str _ _ _ _⟩
  | str a a4=>cases k2 with
   | tup=>cases O
   | lst p ps a vs its h=>rcases h with rfl | rfl <;> cases O
   | non=>exact ⟨EqAt.str_none _ _,RcAt.str_none _ _,RcNeAt.str_none _ _⟩
   | bl b=>exact ⟨EqAt.str_bool _ _ _,RcAt.str_bool _ _ _,RcNeAt.str_bool _ _ _⟩
   | int i t=>exact ⟨EqAt.str_int _ _ _ _,RcAt.str_int _ _ _ _,RcNeAt.str_int _ _ _ _⟩
   | str i t=>exact ⟨EqAt.str_str _ _ _ _,RcAt.str_str _ _ _ _,RcNeAt.str_str _ _ _ _⟩
 | succ n ih=>
  intro A p q x y u v I Z O hu rp ru rq rv;have k1:=Qca I Z rp ru;have k2:=Qca I O rq rv;have B:A.units < aX:=by omega
  have a5:A.in1.units + n < aX:=by show A.units + 1 + n < aX; omega
  cases k1 with
  | non=>cases k2 with
   | non=>exact ⟨EqAt.same _,RcAt.none_none,RcNeAt.none_none⟩
   | bl b=>exact ⟨EqAt.none_bool _,RcAt.none_bool _,RcNeAt.none_bool _⟩
   | int i t=>exact ⟨EqAt.none_int _ _,RcAt.none_int _ _,RcNeAt.none_int _ _⟩
   | str i t=>exact ⟨EqAt.none_str _ _,RcAt.none_str _ _,RcNeAt.none_str _ _⟩
   | tup ps a vs its ha r Y G=>exact ⟨EqAt.none_tuple G B,RcAt.none_tuple G B,RcNeAt.none_tuple G B⟩
   | lst p ps a vs its h r Y G=>rcases h with rfl | rfl <;> exact ⟨EqAt.none_list G B,RcAt.none_list G B,RcNeAt.none_list G B⟩
  | bl a=>cases k2 with
   | non=>exact ⟨EqAt.bool_none _,RcAt.bool_none _,RcNeAt.bool_none _⟩
   | bl b=>exact ⟨EqAt.bool_bool _ _,RcAt.bool_bool _ _,RcNeAt.bool_bool _ _⟩
   | int i t=>exact ⟨EqAt.bool_int _ _ _,RcAt.bool_int _ _ _,RcNeAt.bool_int _ _ _⟩
   | str i t=>exact ⟨EqAt.bool_str _ _ _,RcAt.bool_str _ _ _,RcNeAt.bool_str _ _ _⟩
   | tup ps a vs its ha r Y G=>exact ⟨EqAt.bool_tuple _ G B,RcAt.bool_tuple _ G B,RcNeAt.bool_tuple _ G B⟩
   | lst p ps a vs its h r Y G=>rcases h with rfl | rfl <;> exact ⟨EqAt.bool_list _ G B,RcAt.bool_list _ G B,RcNeAt.bool_list _ G B⟩
  | int a a4=>cases k2 with
   | non=>exact ⟨EqAt.int_none _ _,RcAt.int_none _ _,RcNeAt.int_none _ _⟩
   | bl b=>exact ⟨EqAt.int_bool _ _ _,RcAt.int_bool _ _ _,RcNeAt.int_bool _ _ _⟩
   | int i t=>exact ⟨EqAt.int_int _ _ _ _,RcAt.int_int _ _ _ _,RcNeAt.int_int _ _ _ _⟩
   | str i t=>exact ⟨EqAt.int_str _ _ _ _,RcAt.int_str _ _ _ _,RcNeAt.int_str _ _ _ _⟩
   | tup ps a vs its ha r Y G=>exact ⟨EqAt.int_tuple _ _ G B,RcAt.int_tuple _ _ G B,RcNeAt.int_tuple _ _ G B⟩
   | lst p ps a vs its h r Y G=>rcases h with rfl | rfl <;> exact ⟨EqAt.int_list _ _ G B,RcAt.int_list _ _ G B,RcNeAt.int_list _ _ G B⟩
  | str a a4=>cases k2 with
   | non=>exact ⟨EqAt.str_none _ _,RcAt.str_none _ _,RcNeAt.str_none _ _⟩
   | bl b=>exact ⟨EqAt.str_bool _ _ _,RcAt.str_bool _ _ _,RcNeAt.str_bool _ _ _⟩
   | int i t=>exact ⟨EqAt.str_int _ _ _ _,RcAt.str_int _ _ _ _,RcNeAt.str_int _ _ _ _⟩
   | str i t=>exact ⟨EqAt.str_str _ _ _ _,RcAt.str_str _ _ _ _,RcNeAt.str_str _ _ _ _⟩
   | tup ps a vs its ha r Y G=>exact ⟨EqAt.str_tuple _ _ G B,RcAt.str_tuple _ _ G B,RcNeAt.str_tuple _ _ G B⟩
   | lst p ps a vs its h r Y G=>rcases h with rfl | rfl <;> exact ⟨EqAt.str_list _ _ G B,RcAt.str_list _ _ G B,RcNeAt.str_list _ _ G B⟩
  | tup ps a vs its ha r Y G=>cases k2 with
   | non=>exact ⟨EqAt.tuple_none G B,RcAt.tuple_none G B,RcNeAt.tuple_none G B⟩
   | bl b=>exact ⟨EqAt.tuple_bool _ G B,RcAt.tuple_bool _ G B,RcNeAt.tuple_bool _ G B⟩
   | int i t=>exact ⟨EqAt.tuple_int _ _ G B,RcAt.tuple_int _ _ G B,RcNeAt.tuple_int _ _ G B⟩
   | str i t=>exact ⟨EqAt.tuple_str _ _ G B,RcAt.tuple_str _ _ G B,RcNeAt.tuple_str _ _ G B⟩
   | tup U b us J hb r2 v2 p2=>
    have l1:its.toArray.size=ps.length:=by rw [O8,<- Y.length,r.length]
    have l2:J.toArray.size=U.length:=by rw [O8,<- v2.length,r2.length]
    have he:∀ j (h1:j < its.toArray.size) (h2:j < J.toArray.size),EqAt A.in1 s its.toArray[j] J.toArray[j] (peq (ps.getD j .non) (U.getD j .non)):=λj h1 h2=>by
     obtain ⟨x1,a1,b1⟩:=Q2e r Y (j:=j) (by simpa using h1);obtain ⟨x2,a2,b2⟩:=Q2e r2 v2 (j:=j) (by simpa using h2);exact (ih I (zm Z j ()) (zm O j ()) a5 a1 b1 a2 b2).1
    have rc:=RcAt.tuples G p2 B he;have rn:=RcNeAt.tuples G p2 B he;rw [l1,l2,Qac] at rc rn;refine ⟨?_,rc,rn⟩
    by_cases e:a=b
    ·subst e;have:X1 ps U=zi:=by
      rw [ha] at hb; cases hb;exact U3 Z O r r2
     show EqAt A s _ _ (X1 ps U);rw [this];exact EqAt.same _
    ·exact EqAt.of_refs e rc
   | lst q U b us J h r2 v2 p2=>rcases h with rfl | rfl <;> exact ⟨EqAt.tuple_list G p2 B,RcAt.tuple_list G p2 B,RcNeAt.tuple_list G p2 B⟩
  | lst p ps a vs its h r Y G=>cases k2 with
   | non=>rcases h with rfl | rfl <;> exact ⟨EqAt.list_none G B,RcAt.list_none G B,RcNeAt.list_none G B⟩
   | bl b=>rcases h with rfl | rfl <;> exact ⟨EqAt.list_bool _ G B,RcAt.list_bool _ G B,RcNeAt.list_bool _ G B⟩
   | int i t=>rcases h with rfl | rfl <;> exact ⟨EqAt.list_int _ _ G B,RcAt.list_int _ _ G B,RcNeAt.list_int _ _ G B⟩
   | str i t=>rcases h with rfl | rfl <;> exact ⟨EqAt.list_str _ _ G B,RcAt.list_str _ _ G B,RcNeAt.list_str _ _ G B⟩
   | tup U b us J hb r2 v2 p2=>rcases h with rfl | rfl <;> exact ⟨EqAt.list_tuple G p2 B,RcAt.list_tuple G p2 B,RcNeAt.list_tuple G p2 B⟩
   | lst q U b us J h2 r2 v2 p2=>
    have l1:its.toArray.size=ps.length:=by rw [O8,<- Y.length,r.length]
    have l2:J.toArray.size=U.length:=by rw [O8,<- v2.length,r2.length]
    have a8:ps.all (Za n)=zi:=by rcases h with rfl | rfl <;> exact Z
    have a6:U.all (Za n)=zi:=by rcases h2 with rfl | rfl <;> exact O
    have ep:peq p q=X1 ps U:=by rcases h with rfl | rfl <;> rcases h2 with rfl | rfl <;> rfl
    have he:∀ j (h1:j < its.toArray.size) (h2:j < J.toArray.size),EqAt A.in1 s its.toArray[j] J.toArray[j] (peq (ps.getD j .non) (U.getD j .non)):=λj h1 h2=>by
     obtain ⟨x1,a1,b1⟩:=Q2e r Y (j:=j) (by simpa using h1);obtain ⟨x2,a2,b2⟩:=Q2e r2 v2 (j:=j) (by simpa using h2);exact (ih I (zm a8 j ()) (zm a6 j ()) a5 a1 b1 a2 b2).1
    rw [ep];have a3:RcAt A s (.ref a) (.ref b) (X1 ps U)/\RcNeAt A s (.ref a) (.ref b) (!X1 ps U):=by
     by_cases e:ps.length=U.length
     ·have rc:=RcAt.lists G p2 (by rw [l1,l2,e]) B he;have rn:=RcNeAt.lists G p2 (by rw [l1,l2,e]) B he;rw [l1,<- Q3r e] at rc rn;exact ⟨rc,rn⟩
     ·have e':(its.toArray.size != J.toArray.size)=zi:=by rw [l1,l2]; simpa using e
      rw [Q3q e];exact ⟨RcAt.lists_lengths G p2 e' B,RcNeAt.lists_lengths G p2 e' B⟩
    refine ⟨?_,a3.1,a3.2⟩
    by_cases e:a=b
    ·subst e;have a7:peq p q=zi:=by
      have a9:=rp;have b0:=rq;have xa:x=.ref a:=by
       rcases h with rfl | rfl <;> (obtain ⟨b',_,rfl,_⟩:=rp; cases ru; rfl)
      have ya:y=.ref a:=by
       rcases h2 with rfl | rfl <;> (obtain ⟨b',_,rfl,_⟩:=rq; cases rv; rfl)
      subst xa; subst ya;exact Q84 Z O rp rq
     rw [<- ep,a7];exact EqAt.same _
    ·exact EqAt.of_refs e a3.1
end Sm
namespace Sm
open PySem PySem.Spec L2
variable {n j:Nat} {K:be} {vs:List V} {mg:zAG} {E:XK} {Q:VK} {ps:List PV} {x:Str} {o:OP} {Γ:Gam} {σ:St} {P:PV->Q0->Hp->Tk->Prop} {op:CmpOp} {e:aH}
def lim:Nat:=1000000
def Qat:lim<=sizeLine:=by decide
def Ws (h:n<=lim):n<=sizeLine:=F3 h Qat
def qm (st:Q0):PV->Option (List PV)
 | .lst xs=>zo xs
 | .ref i=>match st[i]? with
  | some (.lst xs)=>zo xs
  | _=>zl
 | _=>zl
def Z9 (st:Q0):PV->Option (List PV)
 | .fro xs=>zo xs
 | p=>qm st p
def Wp (st:Q0):PV->Option (List PV)
 | .tup xs=>zo xs
 | p=>Z9 st p
def der (st:Q0):PV->PV
 | .ref i=>match st[i]? with
  | some (.lst xs)=>.lst xs
  | _=>.ref i
 | p=>p
variable {H:Hp} {ρ:Tk} {st:Q0} {p:PV} {v:V} {xs:List PV}
def Q3z (R:Rel H ρ st) (r:Rep H ρ p v) (e:qm st p=zo xs):∃ a vs,v=.ref a/\H a=zo (.lst vs)/\RepL H ρ xs vs:=by
 cases p with
 | lst ys=>
  obtain ⟨a,vs,B,q,_,J⟩:=r;cases e;exact ⟨a,vs,B,q,J⟩
 | ref i=>
  obtain ⟨a,B,q⟩:=r;simp only [qm] at e
  split at e
  ·rename_i ys hs;cases e;obtain ⟨b,vs,G,I,O⟩:=R.lst hs;rw [B] at G; cases G;exact ⟨a,vs,q,I,O⟩
  ·cases e
 | _=>cases e
def X4 (R:Rel H ρ st) (r:Rep H ρ p v) (e:Z9 st p=zo xs):∃ a vs,v=.ref a/\Rd H a (.lst vs)/\RepL H ρ xs vs:=by
 cases p with
 | fro ys=>
  obtain ⟨a,vs,G,B,_,q⟩:=r;cases e;exact ⟨a,vs,G,B,q⟩
 | _=>
  obtain ⟨a,vs,G,B,q⟩:=Q3z R r e;exact ⟨a,vs,G,.inl B,q⟩
def j4 (R:Rel H ρ st) (r:Rep H ρ p v) (e:Wp st p=zo xs):∃ (t:Bool) (a:aB) (vs:List V),v=.ref a/\SqK K t H a vs/\RepL H ρ xs vs:=by
 cases p with
 | tup ys=>
  obtain ⟨a,vs,G,B,_,q⟩:=r;cases e;exact ⟨zi,a,vs,G,show SqT K H a vs from SqT.of B,q⟩
 | _=>
  obtain ⟨a,vs,G,B,q⟩:=X4 R r e;exact ⟨zb,a,vs,G,show SqL K H a vs from .inl B,q⟩
def Qa4 {t:Bool} {a:aB} (h:SqK K t H a vs):SqL K H a vs\/SqT K H a vs:=by
 cases t with
 | true=>exact .inr h
 | false=>exact .inl h
mutual
theorem Qbs:∀ {n:Nat} {q:PV} {u:V},Za n q=zi->Rep H ρ q u->Rep H Tk.nil q u
 | _,.non,_,_,r=>r
 | _,.bl _,_,_,r=>r
 | _,.int _,_,_,r=>r
 | _,.str _,_,_,r=>r
 | 0,.tup _,_,g,_=>by cases g
 | 0,.lst _,_,g,_=>by cases g
 | 0,.fro _,_,g,_=>by cases g
 | n + 1,.tup _,_,g,⟨a,vs,e,h,_,r⟩=>⟨a,vs,e,h,Tk.not_nil _,Xm g r⟩
 | n + 1,.lst _,_,g,⟨a,vs,e,h,_,r⟩=>⟨a,vs,e,h,Tk.not_nil _,Xm g r⟩
 | n + 1,.fro _,_,g,⟨a,vs,e,h,_,r⟩=>⟨a,vs,e,h,Tk.not_nil _,Xm g r⟩
 | 0,.ref _,_,g,_=>by cases g
 | _ + 1,.ref _,_,g,_=>by cases g
 | 0,.dic,_,g,_=>by cases g
 | _ + 1,.dic,_,g,_=>by cases g
theorem Xm:∀ {n:Nat} {B:List PV} {us:List V},B.all (Za n)=zi->RepL H ρ B us->RepL H Tk.nil B us
 | _,[],_,_,r=>r
 | n,q :: B,_,g,⟨v,r,e,h1,h2⟩=>by
  rw [cY,L1] at g;exact ⟨v,r,e,Qbs g.1 h1,Xm g.2 h2⟩
end
def zq (R:Rel H ρ st) (g:Za n (der st p)=zi) (r:Rep H ρ p v):Rep H Tk.nil (der st p) v:=by
 cases p with
 | ref i=>
  obtain ⟨a,I,G⟩:=r;simp only [der] at g ⊢
  split at g
  ·rename_i ys hs;obtain ⟨b,vs,q,B,J⟩:=R.lst hs;rw [I] at q; cases q;cases n with
   | zero=>cases g
   | succ n=>exact ⟨a,vs,G,B,Tk.not_nil _,Xm g J⟩
  ·cases n <;> cases g
 | _=>exact Qbs g r
def xz (R:Rel H ρ st) (h:Acc mg E H ρ (QV Q) (.ok (.tup ps) st)) (r:RepL H ρ ps vs):∀ p,H p=zl->Q (.ref p) (upd H p (.tup vs)):=
 λp q=>h _ ρ (Ext.add q) (R.add q) _ ⟨p,vs,rfl,Qm,R.fresh q,r.ext (Ext.add q)⟩
def Q00 (R:Rel H ρ st) (h:Acc mg E H ρ (QV Q) (.ok (.lst ps) st)) (r:RepL H ρ ps vs):∀ p,H p=zl->Q (.ref p) (upd H p (.lst vs)):=
 λp q=>h _ ρ (Ext.add q) (R.add q) _ ⟨p,vs,rfl,Qm,R.fresh q,r.ext (Ext.add q)⟩
def now (R:Rel H ρ st) (h:Acc mg E H ρ (QV Q) (.ok p st)) (r:Rep H ρ p v):Q v H:=h H ρ (Ext.refl _ _) R v r
section
variable {X:Cx} {E:XK} {pos:Pos}
def Q1 (i:Nat):ME:=λΓ st=>match Γ[i]? with
 | some (zo p)=>.ok p st
 | _=>.stuck
def mC (p:PV):ME:=λ_ st=>.ok p st
def Qpw (i:Nat) (J:X.N[i]?=zo x) (B:Vis X.env.scope x) (hd:(x == ("__debug__" : Str))=zb)
  (q:(x == ("__classdict__" : Str))=zb):SimE X E (.Name x pos) (Q1 i):=⟨λΓ σ H ρ st Q R G h=>WE.of (Qgw J B hd q) (by
 unfold Q1 at h
 split at h
 ·rename_i p e;obtain ⟨v,I,r⟩:=G.2 i p e;exact ⟨v,I,now R h r⟩
 ·exact h.elim)⟩
def Qq6 {i:Int} :SimE X E (.Constant (.int i) j pos) (mC (.int i)):=⟨λΓ σ H ρ st Q R G h=>WE.of Qr1 (now R h rfl)⟩
def Quf {b:Bool} :SimE X E (.Constant (.bool b) j pos) (mC (.bl b)):=⟨λΓ σ H ρ st Q R G h=>WE.of Quy (now R h rfl)⟩
def Qq3 :SimE X E (.Constant .none j pos) (mC .non):=⟨λΓ σ H ρ st Q R G h=>WE.of Qr0 (now R h rfl)⟩
def Qq0 :SimE X E (.Constant (.str x) j pos) (mC (.str x)):=⟨λΓ σ H ρ st Q R G h=>WE.of Qqx (now R h rfl)⟩
def Qkc {i:Int} {t:Tok} (B:Gl X x) (q:X.mg x=zo (.int i t)) (hd:(x == ("__debug__" : Str))=zb):SimE X E (.Name x pos) (mC (.int i)):=
 ⟨λΓ σ H ρ st Q R G h=>WE.of (Qm8 B q (v:=.int i) ⟨t,rfl⟩ hd) (now R h rfl)⟩
variable {a b c:aH} {ma mb mc:ME}
def mOp (o:OP) (ma mb:ME):ME:=λΓ st=>(ma Γ st).bind λx st1=>(mb Γ st1).bind λy st2=>o st2 x y
def Q7f {f:aA->aA->Sem aA} {Q:VK} (ho:OpS X E f o) (U:SimE X E a ma) (hb:SimE X E b mb) (R:Rel H ρ st) (G:EnvR H ρ Γ σ) (h:Acc X.mg E H ρ P (mOp o ma mb Γ st))
  (k:∀ p B H1 ρ1 v,Ext H ρ H1 ρ1->Rel H1 ρ1 B->Rep H1 ρ1 p v->P p B H1 ρ1->Q v H1):tOp (WO X f) (WE X a) (WE X b) σ H Q:=by
 refine U.use R G h.bind λp B H1 ρ1 v x1 R1 Z r1 h1=>?_
 refine hb.use R1 Z h1.bind λq a2 H2 a1 u O R2 G2 r2 h2=>?_
 exact ho.use R2 (r1.ext O) r2 h2 λw J Y I z x3 R3 r3 p3=>k w J Y I z (x1.trans (O.trans x3)) R3 r3 p3
def Quc {op:Operator} (I:OpS X E (aa op) o) (B:SimE X E a ma) (J:SimE X E b mb):SimE X E (.BinOp a op b pos) (mOp o ma mb):=
 ⟨λΓ σ H ρ st Q R G h=>WE.of (Quv Qad Zc Zc) (Q7f I B J R G h λ_ _ _ _ v _ _ r q=>q v r)⟩
def Qq7 (J:OpS X E (aU op) o) (I:SimE X E a ma) (O:SimE X E b mb) (B:bS op b=zb):SimE X E (.Compare a [op] [b] pos) (mOp o ma mb):=
 ⟨λΓ σ H ρ st Q R G h=>WE.of (Qmb Qad Zc Zc B) (Q7f J I O R G h λ_ _ _ _ v _ _ r q=>q v r)⟩
def asB (p:PV) (st:Q0):Res Bool:=match p with
 | .bl k=>.ok k st
 | _=>.stuck
def toB (m:ME):Gam->Q0->Res Bool:=λΓ st=>(m Γ st).bind asB
def Qjc {P:Bool->Q0->Hp->Tk->Prop} (R:Rel H ρ st) (r:Rep H ρ p v) (h:Acc mg E H ρ P (asB p st)):∃ k,v=.bl k/\P k st H ρ:=by
 cases p with
 | bl k=>exact ⟨k,r,h H ρ (Ext.refl _ _) R⟩
 | _=>exact h.elim
def Qpg (O:OpS X E (aU op) o) (I:SimE X E a ma) (U:SimE X E b mb) (B:bS op b=zb):SimT X E (.Compare a [op] [b] pos) (toB (mOp o ma mb)):=
 ⟨λΓ σ H ρ st Q R G h=>WT.of (Qks Qad Zc Zc B) (Q7f O I U R G h.bind λ_ Y _ _ v _ J r q=>by
  obtain ⟨k,e,z⟩:=Qjc J r q;exact ⟨k,e,z⟩)⟩
def Qpe {m:ME} (h:SimE X E e m) (I:∀ q,isTrue e X.env q=(do let v <- q; standAt e.pos; aw [v] (truthy v))):SimT X E e (toB m):=
 ⟨λΓ σ H ρ st Q R G U=>WT.of (Qqk Zc I) (h.use R G U.bind λp O H1 ρ1 v Z B Y J h1=>by
  obtain ⟨k,e,z⟩:=Qjc B J h1;exact ⟨k,e,z⟩)⟩
def qd (o o':OP) (ma mb mc:ME):ME:=λΓ st=>(ma Γ st).bind λx st1=>(mb Γ st1).bind λy st2=>(o st2 x y).bind λk st3=>match k with
 | .bl zi=>(mc Γ st3).bind λz st4=>o' st4 y z
 | .bl zb=>.ok (.bl zb) st3
 | _=>.stuck
def Q67 {J:CmpOp} {o':OP} {Q:VK} (ho:OpS X E (aU op) o) (Z:OpS X E (aU J) o') (ha:SimE X E a ma) (hb:SimE X E b mb) (hc:SimE X E c mc) (R:Rel H ρ st) (G:EnvR H ρ Γ σ) (h:Acc X.mg E H ρ P (qd o o' ma mb mc Γ st))
  (k:∀ p B H1 ρ1 v,Ext H ρ H1 ρ1->Rel H1 ρ1 B->Rep H1 ρ1 p v->P p B H1 ρ1->Q v H1):Qa1 (WO X (aU op)) (WO X (aU J)) (WE X a) (WE X b) (WE X c) σ H Q:=by
 refine ha.use R G h.bind λp B H1 ρ1 v x1 R1 G1 r1 h1=>?_
 refine hb.use R1 G1 h1.bind λq a4 H2 a2 u x2 R2 G2 r2 h2=>?_
 refine ho.use R2 (r1.ext x2) r2 h2.bind λw a6 H3 I z O R3 r3 U=>?_
 cases w with
 | bl b=>
  refine ⟨b,r3,?_⟩;cases b with
  | true=>
   rw [bX rfl];refine hc.use R3 (G2.ext O) U.bind λy a3 H4 a5 yv x4 R4 G4 r4 h4=>?_
   exact Z.use R4 (r2.ext (O.trans x4)) r4 h4 λw a1 H5 Y z x5 R5 r5 p5=>k w a1 H5 Y z (x1.trans (x2.trans (O.trans (x4.trans x5)))) R5 r5 p5
  | false=>
   rw [bY E1];exact k (.bl zb) _ H3 I _ (x1.trans (x2.trans O)) R3 rfl (U H3 I (Ext.refl _ _) R3)
 | _=>exact U.elim
def Qg3 {B:CmpOp} {o':OP} (U:OpS X E (aU op) o) (I:OpS X E (aU B) o') (O:SimE X E a ma) (Y:SimE X E b mb) (Z:SimE X E c mc) (J:lastMarks [op,B] [b,c]=zb):SimE X E (.Compare a [op,B] [b,c] pos) (qd o o' ma mb mc):=
 ⟨λΓ σ H ρ st Q R G h=>WE.of (Qh2 Qad Qad Zc Zc Zc J) (Q67 U I O Y Z R G h λ_ _ _ _ v _ _ r q=>q v r)⟩
def Qfk {B:CmpOp} {o':OP} (Y:OpS X E (aU op) o) (I:OpS X E (aU B) o') (O:SimE X E a ma) (Z:SimE X E b mb) (hc:SimE X E c mc) (J:lastMarks [op,B] [b,c]=zb):SimT X E (.Compare a [op,B] [b,c] pos) (toB (qd o o' ma mb mc)):=
 ⟨λΓ σ H ρ st Q R G h=>WT.of (Qgj Qad Qad Zc Zc Zc J) (Q67 Y I O Z hc R G h.bind λ_ a1 _ _ v _ U r q=>by
  obtain ⟨k,e,z⟩:=Qjc U r q;exact ⟨k,e,z⟩)⟩
variable {rest:List aH}
def jr (ma mb:ME):ME:=λΓ st=>(ma Γ st).bind λx st1=>match x with
 | .bl zi=>mb Γ st1
 | .bl zb=>.ok (.bl zb) st1
 | _=>.stuck
def Qn2 (ma:ME):ME:=λΓ st=>(ma Γ st).bind λx st1=>match x with
 | .bl k=>.ok (.bl (!k)) st1
 | _=>.stuck
def Qq1 {op:BoolOp} (B:SimE X E a ma):SimE X E (.BoolOp op [a] pos) ma:=⟨λΓ σ H ρ st Q R G h=>WE.of (Qqy Zc) (B.use R G h λ_ _ _ _ v _ _ _ r q=>q v r)⟩
def Qq9 (I:SimE X E a ma) (O:SimE X E (.BoolOp .And (b :: rest) pos) mb):SimE X E (.BoolOp .And (a :: b :: rest) pos) (jr ma mb):=
 ⟨λΓ σ H ρ st Q R G h=>WE.of (Qr3 Zc Zc) (I.use R G h.bind λp Y H1 ρ1 v Z B J U h1=>by
  cases p with
  | bl k=>
   refine ⟨k,U,?_⟩;cases k with
   | true=>rw [bX rfl]; exact O.use B J h1 λ_ _ _ _ v _ _ _ r q=>q v r
   | false=>rw [bY E1]; exact now B h1 rfl
  | _=>exact h1.elim)⟩
def Qq2 (q:SimE X E a ma):SimE X E (.UnaryOp .Not a pos) (Qn2 ma):=
 ⟨λΓ σ H ρ st Q R G h=>WE.of (Qqz Zc) (q.use R G h.bind λp J H1 ρ1 v U B O I h1=>by
  cases p with
  | bl k=>exact ⟨k,I,now B h1 rfl⟩
  | _=>exact h1.elim)⟩
abbrev MT:=Gam->Q0->Res Bool
variable {ta tb:MT}
def V8 (ta tb:MT):MT:=λΓ st=>(ta Γ st).bind λk st1=>if k=zi then tb Γ st1 else .ok zb st1
def Vw (ta tb:MT):MT:=λΓ st=>(ta Γ st).bind λk st1=>if k=zi then .ok zi st1 else tb Γ st1
def Yb (ta:MT):MT:=λΓ st=>(ta Γ st).bind λk st1=>.ok (!k) st1
def SimW.t (h:SimW X E e ta):SimT X E e ta:=⟨λΓ σ H ρ st Q R G q pins s I=>h.run Γ σ H ρ st Q R G q _ pins s I⟩
def Qjj (B:SimT X E a ta):SimW X E (.BoolOp .And [a] pos) ta:=⟨λΓ σ H ρ st Q R G h=>WW.of (Qkp Q6t) (B.use R G h λ_ _ _ _ _ _ _ q=>q)⟩
def Qpb (B:SimT X E a ta):SimW X E (.BoolOp .Or [a] pos) ta:=⟨λΓ σ H ρ st Q R G h=>WW.of (Qqi Q6t) (B.use R G h λ_ _ _ _ _ _ _ q=>q)⟩
def Qpd (I:SimT X E a ta) (O:SimW X E (.BoolOp .And (b :: rest) pos) tb):SimW X E (.BoolOp .And (a :: b :: rest) pos) (V8 ta tb):=
 ⟨λΓ σ H ρ st Q R G h=>WW.of (Qqj Q6t Qup) (I.use R G h.bind λk U H1 ρ1 Y B J h1=>by
  cases k with
  | true=>rw [bX rfl] at h1 ⊢; exact O.use B J h1 λ_ _ _ _ _ _ _ q=>q
  | false=>rw [bY E1] at h1 ⊢; exact h1 H1 ρ1 (Ext.refl _ _) B)⟩
def Qua (I:SimT X E a ta) (O:SimW X E (.BoolOp .Or (b :: rest) pos) tb):SimW X E (.BoolOp .Or (a :: b :: rest) pos) (Vw ta tb):=
 ⟨λΓ σ H ρ st Q R G h=>WW.of (Quq Q6t Qup) (I.use R G h.bind λk U H1 ρ1 Y B J h1=>by
  cases k with
  | true=>rw [bX rfl] at h1 ⊢; exact h1 H1 ρ1 (Ext.refl _ _) B
  | false=>rw [bY E1] at h1 ⊢; exact O.use B J h1 λ_ _ _ _ _ _ _ q=>q)⟩
def Qpf (q:SimT X E a ta):SimT X E (.UnaryOp .Not a pos) (Yb ta):=
 ⟨λΓ σ H ρ st Q R G h=>WT.of (Qqm Q6t) (q.use R G h.bind λk I H1 ρ1 O B J h1=>h1 H1 ρ1 (Ext.refl _ _) B)⟩
def mIf (tc:MT) (ma mb:ME):ME:=λΓ st=>(tc Γ st).bind λk st1=>if k=zi then ma Γ st1 else mb Γ st1
def Que (U:SimT X E c ta) (J:SimE X E a ma) (O:SimE X E b mb):SimE X E (.IfExp c a b pos) (mIf ta ma mb):=
 ⟨λΓ σ H ρ st Q R G h=>WE.of (Qgz Q6t Zc Zc) (U.use R G h.bind λk Y H1 ρ1 Z B I h1=>by
  cases k with
  | true=>rw [bX rfl] at h1 ⊢; exact J.use B I h1 λ_ _ _ _ v _ _ _ r q=>q v r
  | false=>rw [bY E1] at h1 ⊢; exact O.use B I h1 λ_ _ _ _ v _ _ _ r q=>q v r)⟩
variable {e:aH} {es:List aH} {m:ME} {mr:Gam->Q0->Res (List PV)}
def Q7:Gam->Q0->Res (List PV):=λ_ st=>.ok [] st
def Q2 (m:ME) (mr:Gam->Q0->Res (List PV)):Gam->Q0->Res (List PV):=λΓ st=>(m Γ st).bind λp st1=>(mr Γ st1).bind λps st2=>.ok (p :: ps) st2
def Qqc:SimA X E [] Q7:=⟨λΓ σ H ρ st Q R G h=>WA.of Q3u (h H ρ (Ext.refl _ _) R [] rfl)⟩
def Qkf (B:SimE X E e m) (U:SimA X E es mr) (hs:aQ (e :: es) X.env=(zb,aO e X.env) :: aQ es X.env):SimA X E (e :: es) (Q2 m mr):=
 ⟨λΓ σ H ρ st Q R G h=>WA.of (ze Zc Q1w hs) (B.use R G h.bind λp Z H1 ρ1 v x1 I O Y h1=>U.use I O h1.bind λps a1 H2 q vs x2 R2 G2 J h2=>
  h2 H2 q (Ext.refl _ _) R2 (v :: vs) ⟨v,vs,rfl,Y.ext x2,J⟩)⟩
def Q01 (mr:Gam->Q0->Res (List PV)):ME:=λΓ st=>(mr Γ st).bind λps st1=>if ps.length<=lim then .ok (.tup ps) st1 else .stuck
def Q8t (mr:Gam->Q0->Res (List PV)):ME:=λΓ st=>(mr Γ st).bind λps st1=>if ps.length<=lim then .ok (.lst ps) st1 else .stuck
def Qpy {k:Nat} (h:SimA X E es mr):SimE X E (.Tuple es k pos) (Q01 mr):=
 ⟨λΓ σ H ρ st Q R G J=>WE.of (Qqw Q1w) (h.use R G J.bind λps I H1 ρ1 vs U B O q h1=>by
  by_cases hl:ps.length<=lim
  ·rw [bX hl] at h1;exact ⟨by rw [<- q.length]; exact Ws hl,xz B h1 q⟩
  ·rw [bY hl] at h1; exact h1.elim)⟩
def Qq4 (h:SimA X E es mr):SimE X E (.List es pos) (Q8t mr):=
 ⟨λΓ σ H ρ st Q R G J=>WE.of (Qgy Q1w) (h.use R G J.bind λps I H1 ρ1 vs U B O q h1=>by
  by_cases hl:ps.length<=lim
  ·rw [bX hl] at h1;exact ⟨by rw [<- q.length]; exact Ws hl,Q00 B h1 q⟩
  ·rw [bY hl] at h1; exact h1.elim)⟩
end
end Sm
namespace HT
open PySem PySem.Spec PyProof.Rows
variable {prog:aL} {A:aP} {E:aA->aC->Prop} {s:aC}
section
variable {w:aK}
def getItem_tuple_whole {t sl:aB} {q:Array aA} {U Y:aA} {lo hi:Option Int} {Q:aA->aC->Prop} (G:IsTup s.heap t q) (hs:s.heap.IsSliceOf sl U Y .none) (pl:IsPart U lo) (pu:IsPart Y hi)
  (Z:sIx q.size 0 lo=0/\sIx q.size q.size hi=q.size)
  (h:Q (.ref t) s):aF (aI prog w) A (getItem (.ref t) (.ref sl)) Q E s:=by
 obtain ⟨os,O,I,a1⟩:=id hs;have J:s.TypeIs (.ref sl) "slice" := ⟨os,O,I⟩;unfold getItem
 try with_reducible refine ak ?_
 first | refine aD (aJ ?_) | skip
 refine aD (wpAny_sequenceKey G.typeIs (by decide) ?_);refine aD (wpAny_callSpecial?_slot (name:=cM "__getitem__") G.typeIs dj
  (au dj G.typeIs entry_tuple_getitem ?_ (args_tuple_getitem _ _)))
 show aF _ _ (Builtin.Tuple.tupleItemsOf (.ref t) >>= _) _ _ s;refine aD (tupleItemsOf_ G ?_);refine aD (bO J ?_);rw [bX (by decide)];refine aD (K8 hs pl pu ?_);have B:(((sIx q.size 0 lo:Nat):Int) == 0 && (1:Int) == 1 && (sIx q.size q.size hi - sIx q.size 0 lo) == q.size)=zi:=by
  rw [Z.1,Z.2]; simp
 show aF _ _ (if (((sIx q.size 0 lo:Nat):Int) == 0 && (1:Int) == 1 && (sIx q.size q.size hi - sIx q.size 0 lo) == q.size)=zi then _ else _) _ _ s;rw [bX B];refine aD (aD (bO G.typeIs (aJ ?_)));rw [bX (by rfl)];exact aD (bJ (aJ ⟨_,rfl,aJ h⟩))
end
end HT
namespace L2
open PySem PySem.Spec PyProof.Rows
def Qy3 (K:be):V->Option Int->Option Int->Hp->VK->Prop:=λx lo hi H Q=>∃ a xs,x=.ref a/\SqT K H a xs /\
 (HT.sIx xs.length 0 lo=0/\HT.sIx xs.length xs.length hi=xs.length)/\Q (.ref a) H
def sl_whole {X:Cx}:SlR X (Qy3 X.K):=by
 intro pins s σ H x v vl vu lo hi sl Q I Y hs O J h;obtain ⟨a,xs,rfl,U,Z,q⟩:=h;cases Y;obtain ⟨its,r,G,hz⟩:=I.tuple U;have B:its.toArray.size=xs.length:=by rw [O8]; exact r.length.symm
 refine ⟨"tuple",_,PyProof.Rows.slot_tuple_getitem.lookup,G.typeIs,?_⟩;exact HT.getItem_tuple_whole G hs O J (by rw [B]; exact Z) ⟨.ref a,H,I,rfl,q⟩
end L2
namespace Sm
open PySem PySem.Spec L2
variable {H H1:Hp} {ρ:Tk} {p:PV} {x:Str} {σ:St} {st:Q0} {xs ps:List PV} {vs:List V} {o:CF} {Q:VK} {T:String} {K:be} {v:V} {tp:Pos} {e c:aH} {es:List aH} {n kt:Nat} {mg:zAG} {b:aB} {hs:List aB} {α β:Type} {Γ:Gam} {P:List PV->Q0->Hp->Tk->Prop} {s:aM} {fd:aR}
variable {X:Cx} {E:XK} {pos:Pos}
def oI (g:Int->Int->PV):OP:=λst p q=>match p,q with
 | .int a,.int b=>.ok (g a b) st
 | _,_=>.stuck
def Y1:OP:=λst p q=>match p,q with
 | .int a,.int b=>.ok (.int (a + b)) st
 | .str a,.str b=>if a.length + b.length<=lim then .ok (.str (a ++ b)) st else .stuck
 | .tup xs,.tup ys=>if xs.length + ys.length<=lim then .ok (.tup (xs ++ ys)) st else .stuck
 | p,q=>match qm st p,qm st q with
  | some xs,zo ys=>if xs.length + ys.length<=lim then .ok (.lst (xs ++ ys)) st else .stuck
  | _,_=>.stuck
def Qra:OpS X E (aa .Add) Y1:=⟨λH ρ st p q x y Q R O U h=>by
 unfold Y1 at h
 split at h
 ·cases O; cases U;exact WO.of Qrj ⟨_,_,rfl,rfl,now R h rfl⟩
 ·cases O; cases U
  split at h
  ·rename_i hl;exact WO.of Qae ⟨_,_,rfl,rfl,Ws hl,now R h rfl⟩
  ·exact h.elim
 ·split at h
  ·rename_i xs ys hl;obtain ⟨a,vs,rfl,I,na,B⟩:=O;obtain ⟨b,us,rfl,J,Z,G⟩:=U;refine WO.of Qmm ?_
   by_cases e:xs=[]
   ·subst e;cases B;exact .inr ⟨a,b,us,rfl,rfl,SqT.of I,SqT.of J,now R h ⟨b,us,rfl,J,Z,G⟩⟩
   ·refine .inl ⟨a,b,vs,us,rfl,rfl,SqT.of I,SqT.of J,λz=>e ?_,by rw [<- B.length,<- G.length]; exact Ws hl,λz=>?_,λz=>xz R h (B.append G)⟩
    ·subst z;cases xs with
     | nil=>rfl
     | cons _ _=>have:=B.length; simp at this
    ·subst z;have:ys=[]:=by
      cases ys with
      | nil=>rfl
      | cons _ _=>have:=G.length; simp at this
     subst this;rw [E9] at h;exact now R h ⟨a,vs,rfl,I,na,B⟩
  ·exact h.elim
 ·split at h
  ·rename_i xs ys e1 Y
   split at h
   ·rename_i hl;obtain ⟨a,vs,rfl,I,B⟩:=Q3z R O e1;obtain ⟨b,us,rfl,J,G⟩:=Q3z R U Y;exact WO.of Qri ⟨a,b,vs,us,rfl,rfl,I,J,by rw [<- B.length,<- G.length]; exact Ws hl,Q00 R h (B.append G)⟩
   ·exact h.elim
  ·exact h.elim⟩
def Qr4:OpS X E (aa .Sub) (oI λa b=>.int (a - b)):=⟨λH ρ st p q x y Q R B G h=>by
 unfold oI at h
 split at h
 ·cases B; cases G;exact WO.of Qrb ⟨_,_,rfl,rfl,now R h rfl⟩
 ·exact h.elim⟩
def qy:OP:=λst p q=>match p,q with
 | .int a,.int b=>if (-(2 ^ 64) < a/\a < 2 ^ 64)\/(-(2 ^ 64) < b/\b < 2 ^ 64) then .ok (.int (a * b)) st else .stuck
 | .tup xs,.int b=>if xs≠[]/\1<=b/\xs.length * b.toNat<=4096 then .ok (.tup (bg b.toNat xs).flatten) st else .stuck
 | p,.int b=>match qm st p with
  | some xs=>if -(2 ^ 63)<=b/\b < 2 ^ 63/\xs.length * b.toNat<=lim then .ok (.lst (bg b.toNat xs).flatten) st else .stuck
  | none=>.stuck
 | _,_=>.stuck
def Qr6:OpS X E (aa .Mult) qy:=⟨λH ρ st p q x y Q R J U h=>by
 unfold qy at h
 split at h
 ·cases J; cases U
  split at h
  ·rename_i B;exact WO.of Qre ⟨_,_,rfl,rfl,B,now R h rfl⟩
  ·exact h.elim
 ·cases U
  split at h
  ·rename_i xs b B;obtain ⟨a,vs,rfl,I,Y,G⟩:=J;refine WO.of Qmi ⟨a,b,vs,rfl,rfl,SqT.of I,λz=>B.1 ?_,B.2.1,by rw [<- G.length]; exact B.2.2,λz=>?_,λz=>xz R h (G.rep _)⟩
   ·subst z;cases xs with
    | nil=>rfl
    | cons _ _=>have:=G.length; simp at this
   ·subst z;have O:(bg (fT 1) xs).flatten=xs:=by simp
    rw [O] at h;exact now R h ⟨a,vs,rfl,I,Y,G⟩
  ·exact h.elim
 ·cases U
  split at h
  ·rename_i xs O
   split at h
   ·rename_i B;obtain ⟨a,vs,rfl,I,G⟩:=Q3z R J O;exact WO.of Qrc ⟨a,_,vs,rfl,rfl,I,B.1,B.2.1,by rw [<- G.length]; exact Ws B.2.2,Q00 R h (G.rep _)⟩
   ·exact h.elim
  ·exact h.elim
 ·exact h.elim⟩
def xx:OP:=λst p q=>match p,q with
 | .int a,.int b=>if 0 < b then .ok (.int (a % b)) st else .stuck
 | _,_=>.stuck
def Qr7:OpS X E (aa .Mod) xx:=⟨λH ρ st p q x y Q R B I h=>by
 unfold xx at h
 split at h
 ·cases B; cases I
  split at h
  ·rename_i G;exact WO.of Qrf ⟨_,_,rfl,rfl,G,now R h rfl⟩
  ·exact h.elim
 ·exact h.elim⟩
def Qmq:OP:=λst p q=>match p,q with
 | .int a,.int b=>if 0 < b/\b < 1073741824 then .ok (.int (a / b)) st else .stuck
 | _,_=>.stuck
def Qr9:OpS X E (aa .FloorDiv) Qmq:=⟨λH ρ st p q x y Q R B I h=>by
 unfold Qmq at h
 split at h
 ·cases B; cases I
  split at h
  ·rename_i G;exact WO.of Qmk ⟨_,_,rfl,rfl,G,now R h rfl⟩
  ·exact h.elim
 ·exact h.elim⟩
def Q8f:OP:=λst p q=>match p,q with
 | .int a,.int b=>if 0<=b/\b<=1000000/\a.natAbs < 2 ^ 64 then .ok (.int (a ^ b.toNat)) st else .stuck
 | _,_=>.stuck
def Qr5:OpS X E (aa .Pow) Q8f:=⟨λH ρ st p q x y Q R B I h=>by
 unfold Q8f at h
 split at h
 ·cases B; cases I
  split at h
  ·rename_i G;exact WO.of Qrd ⟨_,_,rfl,rfl,G,now R h rfl⟩
  ·exact h.elim
 ·exact h.elim⟩
def Qah {op:CmpOp} {g:Int->Int->Bool} (B:OpR X (aU op) (rI0 λi j=>.bl (g i j))):OpS X E (aU op) (oI λa b=>.bl (g a b)):=⟨λH ρ st p q x y Q R I G h=>by
 unfold oI at h
 split at h
 ·cases I; cases G;exact WO.of B ⟨_,_,rfl,rfl,now R h rfl⟩
 ·exact h.elim⟩
def Qv2:OpS X E (aU .LtE) (oI λa b=>.bl (decide (a<=b))):=Qah Qva
def Qv5:OpS X E (aU .Gt) (oI λa b=>.bl (decide (b < a))):=Qah Qvb
def Qv6:OpS X E (aU .GtE) (oI λa b=>.bl (decide (b<=a))):=Qah Qvc
def K3:List PV->Option (List Int)
 | []=>zo []
 | .int i :: ps=>(K3 ps).map (i :: ·)
 | _ :: _=>zl
def Q1s:List PV->Option (List Bool)
 | []=>zo []
 | .bl i :: ps=>(Q1s ps).map (i :: ·)
 | _ :: _=>zl
def Q48 (ns:List Int):K3 (ns.map .int)=zo ns:=by
 induction ns with
 | nil=>rfl
 | cons n ns q=>rw [O5,K3,q]; rfl
def Qnp (ns:List Bool):Q1s (ns.map .bl)=zo ns:=by
 induction ns with
 | nil=>rfl
 | cons n ns q=>rw [O5,Q1s,q]; rfl
theorem Q2d:∀ {ps:List PV} {ns:List Int},K3 ps=zo ns->ps=ns.map .int
 | [],ns,h=>by cases h; rfl
 | .int i :: ps,ns,h=>by
  rw [K3] at h;cases e:K3 ps with
  | none=>rw [e] at h; cases h
  | some ms=>rw [e] at h; cases h; rw [Q2d e]; rfl
 | .non :: _,_,h | .bl _ :: _,_,h | .str _ :: _,_,h | .tup _ :: _,_,h | .lst _ :: _,_,h | .fro _ :: _,_,h | .ref _ :: _,_,h | .dic :: _,_,h=>by cases h
theorem Qj4:∀ {ps:List PV} {ns:List Bool},Q1s ps=zo ns->ps=ns.map .bl
 | [],ns,h=>by cases h; rfl
 | .bl i :: ps,ns,h=>by
  rw [Q1s] at h;cases e:Q1s ps with
  | none=>rw [e] at h; cases h
  | some ms=>rw [e] at h; cases h; rw [Qj4 e]; rfl
 | .non :: _,_,h | .int _ :: _,_,h | .str _ :: _,_,h | .tup _ :: _,_,h | .lst _ :: _,_,h | .fro _ :: _,_,h | .ref _ :: _,_,h | .dic :: _,_,h=>by cases h
def oLt:OP:=λst p q=>match p,q with
 | .int a,.int b=>.ok (.bl (decide (a < b))) st
 | .tup xs,.tup ys=>match K3 xs,K3 ys with
  | some ns,zo ms=>.ok (.bl (HT.lexLt ns ms)) st
  | _,_=>.stuck
 | _,_=>.stuck
def Qv1 (hu:X.A.units + 64 < aX):OpS X E (aU .Lt) oLt:=⟨λH ρ st p q x y Q R I J h=>by
 unfold oLt at h
 split at h
 ·cases I; cases J;exact WO.of Qv9 ⟨_,_,rfl,rfl,now R h rfl⟩
 ·split at h
  ·rename_i ns ms Z Y;obtain ⟨a,vs,rfl,G,na,U⟩:=I;obtain ⟨b,us,rfl,O,nb,B⟩:=J;rw [Q2d Z] at U;rw [Q2d Y] at B;rw [U.toInts] at G;rw [B.toInts] at O;exact WO.of (Qrg ()) ⟨a,b,ns,ms,rfl,rfl,SqT.of G,SqT.of O,now R h rfl⟩
  ·exact h.elim
 ·exact h.elim⟩
def dep:Nat:=12
def oEq:OP:=λst p q=>if Za dep (der st p)=zi/\Za dep (der st q)=zi then .ok (.bl (peq (der st p) (der st q))) st else .stuck
def oNe:OP:=λst p q=>if Za dep (der st p)=zi/\Za dep (der st q)=zi then .ok (.bl (!peq (der st p) (der st q))) st else .stuck
def Qv7 (U:X.A.units + 64 < aX):OpS X E (aU .Eq) oEq:=⟨λH ρ st p q x y Q R G J h=>by
 unfold oEq at h
 split at h
 ·rename_i g;intro pins s σ v u I O B;exact (Q9c dep I g.1 g.2 (by unfold dep; omega) (zq R g.1 G) O (zq R g.2 J) B).2.1 _ _ _ _ ⟨.bl _,H,I,rfl,now R h rfl⟩
 ·exact h.elim⟩
def Qv0 (U:X.A.units + 64 < aX):OpS X E (aU .NotEq) oNe:=⟨λH ρ st p q x y Q R G J h=>by
 unfold oNe at h
 split at h
 ·rename_i g;intro pins s σ v u I O B;exact (Q9c dep I g.1 g.2 (by unfold dep; omega) (zq R g.1 G) O (zq R g.2 J) B).2.2 _ _ _ _ ⟨.bl _,H,I,rfl,now R h rfl⟩
 ·exact h.elim⟩
def Ka:PV->Bool
 | .non=>zi
 | _=>zb
def Q5y {x:V} (r:Rep H ρ p x):decide (x=.non)=Ka p:=by
 cases p with
 | non=>cases r; rfl
 | bl _=>cases r; rfl
 | int _=>cases r; rfl
 | str _=>cases r; rfl
 | tup _=>obtain ⟨_,_,rfl,_⟩:=r; rfl
 | lst _=>obtain ⟨_,_,rfl,_⟩:=r; rfl
 | fro _=>obtain ⟨_,_,rfl,_⟩:=r; rfl
 | ref _=>obtain ⟨_,_,rfl⟩:=r; rfl
 | dic=>obtain ⟨_,rfl,_⟩:=r; rfl
def oIs:OP:=λst p q=>match q with
 | .non=>.ok (.bl (Ka p)) st
 | .bl c=>match p with
  | .bl b=>.ok (.bl (b == c)) st
  | _=>.stuck
 | _=>.stuck
def V6:OP:=λst p q=>match q with
 | .non=>.ok (.bl (!Ka p)) st
 | .bl c=>match p with
  | .bl b=>.ok (.bl (b != c)) st
  | _=>.stuck
 | _=>.stuck
def Qv3:OpS X E (aU .Is) oIs:=⟨λH ρ st p q x y Q R B G h=>by
 unfold oIs at h
 split at h
 ·cases G;refine WO.of Qrh ⟨rfl,?_⟩;rw [Q5y B];exact now R h rfl
 ·split at h
  ·cases B; cases G;exact WO.of Qh8 ⟨_,_,rfl,rfl,now R h rfl⟩
  ·exact h.elim
 ·exact h.elim⟩
def Qh7:OpS X E (aU .IsNot) V6:=⟨λH ρ st p q x y Q R B G h=>by
 unfold V6 at h
 split at h
 ·cases G;refine WO.of Qmj ⟨rfl,?_⟩;rw [Q5y B];exact now R h rfl
 ·split at h
  ·cases B; cases G;exact WO.of Q8b ⟨_,_,rfl,rfl,now R h rfl⟩
  ·exact h.elim
 ·exact h.elim⟩
def oIn (neg:Bool):OP:=λst p q=>match Wp st q with
 | some xs=>if Za dep (der st p)=zi/\xs.all (Za dep)=zi then .ok (.bl ((xs.any λy=>peq y (der st p)) != neg)) st else .stuck
 | none=>.stuck
open Classical in
def Q09 {pins:zAC} {s:aC} {A:aP} {p:PV} {xs:List PV} {x:V} {v:aA} {vs:List V} {its:List aA} (I:Inv X pins σ H s) (hu:A.units + dep < aX) (R:Rel H ρ st)
  (Z:Za dep (der st p)=zi) (gx:xs.all (Za dep)=zi) (rp:Rep H ρ p x) (rv:RelV x v) (ra:RepL H ρ xs vs) (Y:Vals vs its):∃ e:aA->Bool,(∀ u,u∈its.toArray->SeqAt.EqAt A s u v (e u))/\its.toArray.any e=xs.any λy=>peq y (der st p):=by
 have a1:∀ u∈its,∃ q∈xs,∃ y,Rep H Tk.nil q y/\RelV y u:=λu hu=>by
  obtain ⟨j,hj,rfl⟩:=cq hu;have l1:=Y.length;have l2:=ra.length;obtain ⟨y,e1,e2⟩:=(Xm gx ra).get (O2 (show j < xs.length by omega));obtain ⟨w,G,e4⟩:=Y.get e1;rw [O2 hj] at G; cases G;exact ⟨_,cP _,y,e2,e4⟩
 refine ⟨λu=>decide (∃ q∈xs,∃ y,Rep H Tk.nil q y/\RelV y u/\peq q (der st p)=zi),λu hm=>?_,?_⟩
 ·have a2:u∈its:=by simpa using hm
  by_cases z:∃ q∈xs,∃ y,Rep H Tk.nil q y/\RelV y u/\peq q (der st p)=zi
  ·show SeqAt.EqAt A s u v (decide _);rw [ba z];obtain ⟨q,B,y,O,J,e⟩:=z;have:=(Q9c dep I ((E8.mp gx) q B) Z hu O J (zq R Z rp) rv).1;rw [e] at this;exact this
  ·show SeqAt.EqAt A s u v (decide _);rw [bZ z];obtain ⟨q,B,y,O,J⟩:=a1 u a2;have:=(Q9c dep I ((E8.mp gx) q B) Z hu O J (zq R Z rp) rv).1;cases e:peq q (der st p) with
   | true=>exact absurd ⟨q,B,y,O,J,e⟩ z
   | false=>rw [e] at this; exact this
 ·rw [fU,Array.any_eq_true,dC];constructor
  ·rintro ⟨j,hj,e⟩;obtain ⟨q,B,y,O,J,e⟩:=of_decide_eq_true e;exact ⟨q,B,e⟩
  ·rintro ⟨q,B,e⟩;obtain ⟨j,hj,rfl⟩:=cq B;have l1:=Y.length;have l2:=ra.length;have U:j < its.length:=by omega
   obtain ⟨y,e1,e2⟩:=(Xm gx ra).get (O2 hj);obtain ⟨w,G,e4⟩:=Y.get e1;refine ⟨j,by simpa using U,ba ⟨_,B,y,e2,?_,e⟩⟩;rw [O2 U] at G; cases G;simpa using e4
def Qv4 (hu:X.A.units + 64 < aX):OpS X E (aU .In) (oIn zb):=⟨λH ρ st p q x y Q R O rq h=>by
 unfold oIn at h
 split at h
 ·rename_i xs es
  split at h
  ·rename_i g;obtain ⟨t,a,vs,rfl,U,Z⟩:=j4 (K:=X.K) R rq es;intro pins s σ v u I Y ru;cases ru;rw [gy] at h;cases t with
   | true=>
    obtain ⟨its,r,G,hz⟩:=I.tuple U;obtain ⟨e,J,B⟩:=Q09 (A:=X.A.in1) I (by show X.A.units + 1 + dep < aX; unfold dep; omega) R g.1 g.2 O Y Z r;refine SeqAt.in_tupleAt e G J ⟨.bl _,H,I,rfl,?_⟩;rw [B];exact now R h rfl
   | false=>
    obtain ⟨its,r,G,hz⟩:=I.list U;obtain ⟨e,J,B⟩:=Q09 (A:=X.A.in1) I (by show X.A.units + 1 + dep < aX; unfold dep; omega) R g.1 g.2 O Y Z r;refine SeqAt.in_listAt e G.isList J ⟨.bl _,H,I,rfl,?_⟩;rw [B];exact now R h rfl
  ·exact h.elim
 ·exact h.elim⟩
def Qh6 (hu:X.A.units + 64 < aX):OpS X E (aU .NotIn) (oIn zi):=⟨λH ρ st p q x y Q R O rq h=>by
 unfold oIn at h
 split at h
 ·rename_i xs es
  split at h
  ·rename_i g;obtain ⟨t,a,vs,rfl,U,Z⟩:=j4 (K:=X.K) R rq es;intro pins s σ v u I Y ru;cases ru;rw [Bool.bne_true] at h;cases t with
   | true=>
    obtain ⟨its,r,G,hz⟩:=I.tuple U;obtain ⟨e,J,B⟩:=Q09 (A:=X.A.in1) I (by show X.A.units + 1 + dep < aX; unfold dep; omega) R g.1 g.2 O Y Z r;refine SeqAt.notIn_tupleAt e G J ⟨.bl _,H,I,rfl,?_⟩;rw [B];exact now R h rfl
   | false=>
    obtain ⟨its,r,G,hz⟩:=I.list U;obtain ⟨e,J,B⟩:=Q09 (A:=X.A.in1) I (by show X.A.units + 1 + dep < aX; unfold dep; omega) R g.1 g.2 O Y Z r;refine SeqAt.notIn_listAt e G.isList J ⟨.bl _,H,I,rfl,?_⟩;rw [B];exact now R h rfl
  ·exact h.elim
 ·exact h.elim⟩
variable {H:Hp} {ρ:Tk}
def RepL.atI {ps:List PV} {vs:List V} {i:Int} {p:PV} (r:RepL H ρ ps vs) (e:atI ps i=zo p):∃ v,L2.atI vs i=zo v/\Rep H ρ p v:=by
 unfold L2.atI at e ⊢;rw [<- r.length];cases q:ixN ps.length i with
 | none=>rw [q] at e; cases e
 | some j=>
  rw [q] at e;exact r.get e
def cut {α:Type} (xs:List α) (lo hi:Option Int):List α:=(xs.drop (HT.sIx xs.length 0 lo)).take (HT.sIx xs.length xs.length hi - HT.sIx xs.length 0 lo)
def RepL.cut (r:RepL H ρ ps vs) (lo hi:Option Int):RepL H ρ (Sm.cut ps lo hi) (Q9h vs lo hi):=by
 unfold Sm.cut Q9h;rw [<- r.length];exact (r.drop _).take _
section
variable {X:Cx} {E:XK} {pos:Pos} {a b:aH} {ma mb:ME}
def oIx:OP:=λst p q=>match Wp st p,q with
 | some xs,.int i=>okO st (atI xs i)
 | _,_=>.stuck
def Qud (U:SimE X E a ma) (hb:SimE X E b mb) (hs:Qcq b):SimE X E (.Subscript a b pos) (mOp oIx ma mb):=
 ⟨λΓ σ H ρ st Q R G h=>WE.of (Quw Qs6 Zc Zc hs) (U.use R G h.bind λp Z H1 ρ1 v x1 R1 Y r1 h1=>hb.use R1 Y h1.bind λq a2 H2 a1 u x2 R2 G2 r2 h2=>by
  unfold oIx at h2
  split at h2
  ·rename_i xs i e;cases r2;cases B:atI xs i with
   | none=>rw [B] at h2; exact h2.elim
   | some w=>
    rw [B] at h2;obtain ⟨t,b,vs,rfl,O,ra⟩:=j4 (K:=X.K) R2 (r1.ext x2) e;obtain ⟨z,I,J⟩:=ra.atI B;cases t with
    | true=>exact .inr (.inl ⟨b,vs,i,z,rfl,rfl,O,I,now R2 h2 J⟩)
    | false=>exact .inl ⟨b,vs,i,z,rfl,rfl,O,I,now R2 h2 J⟩
  ·exact h2.elim)⟩
structure SimO (X:Cx) (E:XK) (o:Option aH) (m:Gam->Q0->Res (Option Int)):Prop where
 run:∀ (Γ:Gam) (σ:St) (H:Hp) (ρ:Tk) (st:Q0) (P:Option Int->Q0->Hp->Tk->Prop) (Q:Option Int->Hp->Prop),Rel H ρ st->EnvR H ρ Γ σ->Acc X.mg E H ρ P (m Γ st) ->
  (∀ i st1 H1 ρ1,Ext H ρ H1 ρ1->Rel H1 ρ1 st1->EnvR H1 ρ1 Γ σ->P i st1 H1 ρ1->Q i H1)->∃ t,PO X o t/\t σ H Q
def X2:Gam->Q0->Res (Option Int):=λ_ st=>.ok zl st
def jn (m:ME):Gam->Q0->Res (Option Int):=λΓ st=>(m Γ st).bind λp st1=>match p with
 | .int i=>.ok (zo i) st1
 | _=>.stuck
def Qk0:SimO X E zl X2:=⟨λΓ σ H ρ st P Q R G h k=>⟨_,Qm0,k zl st H ρ (Ext.refl _ _) R G (h H ρ (Ext.refl _ _) R)⟩⟩
def Qjz (I:SimE X E a ma):SimO X E (zo a) (jn ma):=⟨λΓ σ H ρ st P Q R G h k=>⟨_,Qkz Zc,I.use R G h.bind λp q H1 ρ1 v O B J U h1=>by
 cases p with
 | int i=>exact ⟨i,U,k (zo i) q H1 ρ1 O B J (h1 H1 ρ1 (Ext.refl _ _) B)⟩
 | _=>exact h1.elim⟩⟩
def oSl (st:Q0) (p:PV) (lo hi:Option Int):Res PV:=match p with
 | .tup xs=>.ok (.tup (cut xs lo hi)) st
 | p=>match Z9 st p with
  | some xs=>.ok (.lst (cut xs lo hi)) st
  | none=>.stuck
def mSl (ma:ME) (ml mh:Gam->Q0->Res (Option Int)):ME:=λΓ st=>(ma Γ st).bind λp st1=>(ml Γ st1).bind λlo st2=>(mh Γ st2).bind λhi st3=>oSl st3 p lo hi
def TO.w (X:Cx) (o:Option aH):TO:=λσ H Q=>∃ t,PO X o t/\t σ H Q
def Qut {o:Option aH}:PO X o (TO.w X o):=λpins s σ H Q I ⟨t,h,q⟩=>h pins s σ H Q I q
def Qfz {lo hi:Option aH} {ml mh:Gam->Q0->Res (Option Int)} {p2:Pos} (B:SimE X E a ma) (hl:SimO X E lo ml) (hh:SimO X E hi mh):SimE X E (.Subscript a (.Slice lo hi zl p2) pos) (mSl ma ml mh):=
 ⟨λΓ σ H ρ st Q R G h=>WE.of (Qgx (sl_tup.or (sl_whole.or Qk5)) Zc Qut Qut) (B.use R G h.bind λp U H1 ρ1 v x1 R1 G1 r1 h1=>by
  refine hl.run Γ σ H1 ρ1 U _ _ R1 G1 h1.bind λl Z H2 Y x2 R2 G2 h2=>?_
  refine hh.run Γ σ H2 Y Z _ _ R2 G2 h2.bind λu a2 H3 a1 x3 J G3 q=>?_
  have r3:=r1.ext (x2.trans x3);unfold oSl at q
  split at q
  ·rename_i xs;obtain ⟨a,vs,rfl,B,na,I⟩:=r3
   by_cases O:HT.sIx vs.length 0 l=0/\HT.sIx vs.length vs.length u=vs.length
   ·refine .inr (.inl ⟨a,vs,rfl,SqT.of B,O,?_⟩);have e:cut xs l u=xs:=by
     unfold cut;rw [I.length,O.1,O.2,eF,fQ,<- I.length,cx]
    rw [e] at q;exact now J q ⟨a,vs,rfl,B,na,I⟩
   ·exact .inl ⟨a,vs,rfl,SqT.of B,O,xz J q (I.cut l u)⟩
  ·split at q
   ·rename_i xs e;obtain ⟨a,vs,rfl,B,I⟩:=X4 J r3 e;exact .inr (.inr ⟨a,vs,rfl,.inl B,Q00 J q (I.cut l u)⟩)
   ·exact q.elim)⟩
variable {es:List aH} {e:aH} {mr:Gam->Q0->Res (List PV)}
def Qj (o:CF) (mr:Gam->Q0->Res (List PV)):ME:=λΓ st=>(mr Γ st).bind λps st1=>o st1 ps
def CallS.use {f:aA} (s:CallS X E f o) {P:PV->Q0->Hp->Tk->Prop} {Q:VK} {xs:List V} (R:Rel H ρ st) (I:RepL H ρ ps xs) (h:Acc X.mg E H ρ P (o st ps))
  (k:∀ p q H1 ρ1 v,Ext H ρ H1 ρ1->Rel H1 ρ1 q->Rep H1 ρ1 p v->P p q H1 ρ1->Q v H1):WC X f xs H Q:=by
 refine s.run H ρ st ps xs Q R I ?_;cases r:o st ps with
 | ok p q=>rw [r] at h; exact λH' ρ' B G v J=>k p q H' ρ' v B G J (h H' ρ' B G)
 | exc e st=>rw [r] at h; exact h
 | stuck=>rw [r] at h; exact h
def Qg4 {id:String} {p:Pos} (hc:CallS X E (.builtin id) o) (O:Gl X x) (J:X.mg x=zl) (Y:aZ x=zo (.builtin id)) (U:SimA X E (e :: es) mr) (hn:x≠"__name__" := by decide) (I:(x == ("__debug__" : Str))=zb)
  (he:aQ (e :: es) X.env=(zb,aO e X.env) :: aQ es X.env) (B:(ag pos (aQ es X.env)).any (·.1)=zb):SimE X E (.Call (.Name x p) (e :: es) [] pos) (Qj o mr):=
 ⟨λΓ σ H ρ st Q R G h=>WE.of (Q3s Qik O J Y Q1w hn I he B) (U.use R G h.bind λps a1 H1 ρ1 vs x1 Z G1 r1 h1=>hc.use Z r1 h1 λ_ _ _ _ v _ _ r q=>q v r)⟩
def Q39 {p:Pos} (hc:CallS X E (.type T) o) (O:Gl X x) (J:X.mg x=zl) (Y:aZ x=zo (.type T)) (U:SimA X E (e :: es) mr) (hn:x≠"__name__" := by decide) (I:(x == ("__debug__" : Str))=zb:=by decide)
  (he:aQ (e :: es) X.env=(zb,aO e X.env) :: aQ es X.env:=by rfl) (B:(ag pos (aQ es X.env)).any (·.1)=zb:=by rfl):SimE X E (.Call (.Name x p) (e :: es) [] pos) (Qj o mr):=
 ⟨λΓ σ H ρ st Q R G h=>WE.of (Q0w Qik O J Y Q1w hn I he B) (U.use R G h.bind λps a1 H1 ρ1 vs x1 Z G1 r1 h1=>hc.use Z r1 h1 λ_ _ _ _ v _ _ r q=>q v r)⟩
def Zb {xs:List V} (r:RepL H ρ [p] xs):∃ v,xs=[v]/\Rep H ρ p v:=by
 obtain ⟨v,t,rfl,h1,h2⟩:=r;cases h2;exact ⟨v,rfl,h1⟩
def j9 {q:PV} {xs:List V} (r:RepL H ρ [p,q] xs):∃ v u,xs=[v,u]/\Rep H ρ p v/\Rep H ρ q u:=by
 obtain ⟨v,t,rfl,h1,h2⟩:=r;obtain ⟨u,rfl,B⟩:=Zb h2;exact ⟨v,u,rfl,h1,B⟩
def J4:CF:=λst ps=>match ps with
 | [p]=>match Wp st p with
  | some xs=>.ok (.int xs.length) st
  | none=>match p with
   | .str x=>if x.length<=lim then .ok (.int x.length) st else .stuck
   | _=>.stuck
 | _=>.stuck
def Qsn:CallS X E (.builtin "len") J4:=⟨λH ρ st ps xs Q R q h=>by
 unfold J4 at h
 split at h
 ·rename_i p;obtain ⟨v,rfl,r⟩:=Zb q
  split at h
  ·rename_i ys e;obtain ⟨t,a,vs,rfl,B,G⟩:=j4 (K:=X.K) R r e;rw [G.length] at h;exact WC.of Q7e ⟨a,vs,rfl,Qa4 B,now R h rfl⟩
  ·split at h
   ·cases r
    split at h
    ·rename_i hl;exact WC.of Q7d ⟨_,rfl,Ws hl,now R h rfl⟩
    ·exact h.elim
   ·exact h.elim
 ·exact h.elim⟩
def Vp (g:List Int->Option PV):CF:=λst ps=>match ps with
 | [p]=>match (Wp st p).bind K3 with
  | some ns=>okO st (g ns)
  | none=>.stuck
 | _=>.stuck
def K6 (g:List Bool->PV):CF:=λst ps=>match ps with
 | [p]=>match (Wp st p).bind Q1s with
  | some ns=>.ok (g ns) st
  | none=>.stuck
 | _=>.stuck
def Q49 {ns:List Int} (R:Rel H ρ st) (r:Rep H ρ p v) (e:(Wp st p).bind K3=zo ns):∃ (t:Bool) (a:aB),v=.ref a/\SqK K t H a (ns.map V.int):=by
 cases q:Wp st p with
 | none=>rw [q] at e; cases e
 | some xs=>
  rw [q] at e;obtain ⟨t,a,vs,rfl,G,B⟩:=j4 (K:=K) R r q;rw [Q2d e] at B;rw [B.toInts] at G;exact ⟨t,a,rfl,G⟩
def Qck {ns:List Bool} (R:Rel H ρ st) (r:Rep H ρ p v) (e:(Wp st p).bind Q1s=zo ns):∃ (t:Bool) (a:aB),v=.ref a/\SqK K t H a (ns.map V.bl):=by
 cases q:Wp st p with
 | none=>rw [q] at e; cases e
 | some xs=>
  rw [q] at e;obtain ⟨t,a,vs,rfl,G,B⟩:=j4 (K:=K) R r q;rw [Qj4 e] at B;rw [B.toBls] at G;exact ⟨t,a,rfl,G⟩
def Qsj (B:X.calm=zi):CallS X E (.builtin "sum") (Vp λns=>zo (.int ns.sum)):=⟨λH ρ st ps xs Q R q h=>by
 unfold Vp at h
 split at h
 ·obtain ⟨v,rfl,r⟩:=Zb q
  split at h
  ·rename_i ns e;obtain ⟨t,a,rfl,G⟩:=Q49 (K:=X.K) R r e;exact WC.of (Qim t B) ⟨a,ns,rfl,G,now R h rfl⟩
  ·exact h.elim
 ·exact h.elim⟩
def Qsq (B:X.calm=zi):CallS X E (.builtin "all") (K6 λns=>.bl (ns.all id)):=⟨λH ρ st ps xs Q R q h=>by
 unfold K6 at h
 split at h
 ·obtain ⟨v,rfl,r⟩:=Zb q
  split at h
  ·rename_i ns e;obtain ⟨t,a,rfl,G⟩:=Qck (K:=X.K) R r e;exact WC.of (Qip t B) ⟨a,ns,rfl,G,now R h rfl⟩
  ·exact h.elim
 ·exact h.elim⟩
def Qsp (B:X.calm=zi):CallS X E (.builtin "any") (K6 λns=>.bl (ns.any id)):=⟨λH ρ st ps xs Q R q h=>by
 unfold K6 at h
 split at h
 ·obtain ⟨v,rfl,r⟩:=Zb q
  split at h
  ·rename_i ns e;obtain ⟨t,a,rfl,G⟩:=Qck (K:=X.K) R r e;exact WC.of (Qin t B) ⟨a,ns,rfl,G,now R h rfl⟩
  ·exact h.elim
 ·exact h.elim⟩
def Qyd:List Int->Option Int
 | []=>zl
 | n :: ns=>zo (ns.foldl (λa b=>if b > a then b else a) n)
def Qrr:List Int->Option Int
 | []=>zl
 | n :: ns=>zo (ns.foldl (λa b=>if b < a then b else a) n)
theorem Q63:∀ (ns:List Int) (n:Int),(ns.foldl (λa b=>if b > a then b else a) n=n\/ns.foldl (λa b=>if b > a then b else a) n∈ns)/\n<=ns.foldl (λa b=>if b > a then b else a) n/\∀ k∈ns,k<=ns.foldl (λa b=>if b > a then b else a) n
 | [],n=>⟨.inl rfl,bq _,λk h=>by cases h⟩
 | m :: ns,n=>by
  obtain ⟨h1,h2,G⟩:=Q63 ns (if m > n then m else n);rw [cV];refine ⟨?_,?_,λk B=>?_⟩
  ·rcases h1 with e | e
   ·by_cases q:m > n
    ·rw [bX q] at e ⊢; exact .inr (by rw [e]; exact E3)
    ·rw [bY q] at e ⊢; exact .inl e
   ·exact .inr (O7 _ e)
  ·by_cases q:m > n
   ·rw [bX q] at h2 ⊢; omega
   ·rw [bY q] at h2 ⊢; exact h2
  ·rcases D3.mp B with rfl | B
   ·by_cases q:k > n
    ·rw [bX q] at h2 ⊢; exact h2
    ·rw [bY q] at h2 ⊢; omega
   ·exact G k B
theorem Q62:∀ (ns:List Int) (n:Int),(ns.foldl (λa b=>if b < a then b else a) n=n\/ns.foldl (λa b=>if b < a then b else a) n∈ns)/\ns.foldl (λa b=>if b < a then b else a) n<=n/\∀ k∈ns,ns.foldl (λa b=>if b < a then b else a) n<=k
 | [],n=>⟨.inl rfl,bq _,λk h=>by cases h⟩
 | m :: ns,n=>by
  obtain ⟨h1,h2,G⟩:=Q62 ns (if m < n then m else n);rw [cV];refine ⟨?_,?_,λk B=>?_⟩
  ·rcases h1 with e | e
   ·by_cases q:m < n
    ·rw [bX q] at e ⊢; exact .inr (by rw [e]; exact E3)
    ·rw [bY q] at e ⊢; exact .inl e
   ·exact .inr (O7 _ e)
  ·by_cases q:m < n
   ·rw [bX q] at h2 ⊢; omega
   ·rw [bY q] at h2 ⊢; exact h2
  ·rcases D3.mp B with rfl | B
   ·by_cases q:k < n
    ·rw [bX q] at h2 ⊢; exact h2
    ·rw [bY q] at h2 ⊢; omega
   ·exact G k B
def Qis:CF:=λst ps=>match ps with
 | [.int a,.int b]=>.ok (.int (if b > a then b else a)) st
 | ps=>Vp (λns=>(Qyd ns).map .int) st ps
def Qir:CF:=λst ps=>match ps with
 | [.int a,.int b]=>.ok (.int (if b < a then b else a)) st
 | ps=>Vp (λns=>(Qrr ns).map .int) st ps
def Qsm (I:X.calm=zi):CallS X E (.builtin "max") Qis:=⟨λH ρ st ps xs Q R B h=>by
 unfold Qis at h
 split at h
 ·obtain ⟨v,u,rfl,U,J⟩:=j9 B;cases U; cases J;exact WC.of (Qez I) ⟨_,_,rfl,now R h rfl⟩
 ·unfold Vp at h
  split at h
  ·obtain ⟨v,rfl,r⟩:=Zb B
   split at h
   ·rename_i ns e;cases ns with
    | nil=>exact h.elim
    | cons n ns=>
     obtain ⟨t,a,rfl,Y⟩:=Q49 (K:=X.K) R r e;refine WC.of (Qey t I) ⟨a,_,rfl,Y,by simp,λm q G=>?_⟩;have O:m=ns.foldl (λa b=>if b > a then b else a) n:=by
      obtain ⟨h1,h2,Z⟩:=Q63 ns n;have g1:ns.foldl (λa b=>if b > a then b else a) n<=m:=by
       rcases h1 with e | e
       ·rw [e]; exact G _ E3
       ·exact G _ (O7 _ e)
      have g2:m<=ns.foldl (λa b=>if b > a then b else a) n:=by
       rcases D3.mp q with rfl | q
       ·exact h2
       ·exact Z m q
      omega
     subst O;exact now R h rfl
   ·exact h.elim
  ·exact h.elim⟩
def Qsk (I:X.calm=zi):CallS X E (.builtin "min") Qir:=⟨λH ρ st ps xs Q R B h=>by
 unfold Qir at h
 split at h
 ·obtain ⟨v,u,rfl,U,J⟩:=j9 B;cases U; cases J;exact WC.of (Qex I) ⟨_,_,rfl,now R h rfl⟩
 ·unfold Vp at h
  split at h
  ·obtain ⟨v,rfl,r⟩:=Zb B
   split at h
   ·rename_i ns e;cases ns with
    | nil=>exact h.elim
    | cons n ns=>
     obtain ⟨t,a,rfl,Y⟩:=Q49 (K:=X.K) R r e;refine WC.of (Qew t I) ⟨a,_,rfl,Y,by simp,λm q G=>?_⟩;have O:m=ns.foldl (λa b=>if b < a then b else a) n:=by
      obtain ⟨h1,h2,Z⟩:=Q62 ns n;have g1:m<=ns.foldl (λa b=>if b < a then b else a) n:=by
       rcases h1 with e | e
       ·rw [e]; exact G _ E3
       ·exact G _ (O7 _ e)
      have g2:ns.foldl (λa b=>if b < a then b else a) n<=m:=by
       rcases D3.mp q with rfl | q
       ·exact h2
       ·exact Z m q
      omega
     subst O;exact now R h rfl
   ·exact h.elim
  ·exact h.elim⟩
def Uy:CF:=λst ps=>match ps with
 | [p]=>match Wp st p with
  | some xs=>.ok (.lst xs) st
  | none=>.stuck
 | _=>.stuck
def qi:CF:=λst ps=>match ps with
 | [p]=>match Wp st p with
  | some xs=>.ok (.tup xs) st
  | none=>.stuck
 | _=>.stuck
def Qni:CallS X E (.type "list") Uy:=⟨λH ρ st ps xs Q R q h=>by
 unfold Uy at h
 split at h
 ·obtain ⟨v,rfl,r⟩:=Zb q
  split at h
  ·rename_i ys e;obtain ⟨t,a,vs,rfl,B,G⟩:=j4 (K:=X.K) R r e;exact WC.of Q0g ⟨a,vs,rfl,Qa4 B,Q00 R h G⟩
  ·exact h.elim
 ·exact h.elim⟩
def Qif:CallS X E (.type "tuple") qi:=⟨λH ρ st ps xs Q R G h=>by
 unfold qi at h
 split at h
 ·rename_i p;obtain ⟨v,rfl,r⟩:=Zb G
  split at h
  ·rename_i ys e;cases p with
   | tup zs=>
    cases e;obtain ⟨a,vs,rfl,q,I,B⟩:=r;exact WC.of yb ⟨a,vs,rfl,.inr ⟨SqT.of q,now R h ⟨a,vs,rfl,q,I,B⟩⟩⟩
   | _=>
    obtain ⟨a,vs,rfl,q,B⟩:=X4 R r e;exact WC.of yb ⟨a,vs,rfl,.inl ⟨.inl q,xz R h B⟩⟩
  ·exact h.elim
 ·exact h.elim⟩
def tyN:PV->String
 | .non => "NoneType"
 | .bl _ => "bool"
 | .int _ => "int"
 | .str _ => "str"
 | .tup _ => "tuple"
 | .lst _ => "list"
 | .fro _ => "list"
 | .ref _ => "list"
 | .dic => "dict"
def dpv (st:Q0):PV->PV
 | .ref i=>match st[i]? with
  | some (.dic _)=>.dic
  | some (.dtp _)=>.dic
  | _=>.ref i
 | p=>p
def isI (T:String) (p:PV):Bool:=tyN p == T || (T == "int" && tyN p == "bool")
def Ke (st:Q0):PV->Bool
 | .ref i=>match st[i]? with
  | some (.frd _)=>zi
  | some (.obj _ _)=>zi
  | _=>zb
 | _=>zb
def Qtv (G:Ke st p=zb) (R:Rel H ρ st) (r:Rep H ρ p v):TyOf K H v (.type (tyN (dpv st p))):=by
 cases p with
 | non=>cases r; exact .non
 | bl b=>cases r; exact .bl b
 | int i=>cases r; exact .int i
 | str x=>cases r; exact .str x
 | tup ps=>obtain ⟨a,vs,rfl,h,_⟩:=r; exact .tup h
 | lst ps=>obtain ⟨a,vs,rfl,h,_⟩:=r; exact .lst h
 | fro ps=>
  obtain ⟨a,vs,rfl,h,_⟩:=r;rcases h with h | ⟨o,h⟩
  ·exact .lst h
  ·exact .frz h
 | ref i=>
  obtain ⟨a,e,rfl⟩:=r;have hl:i < st.length:=by rw [<- R.len]; exact (O0.mp e).1
  have hs:=O2 hl;have q:=R.cell i a st[i] e hs;cases B:st[i] with
  | lst xs=>rw [B] at q hs; simp only [dpv,hs]; obtain ⟨vs,h,_⟩:=q; exact .lst h
  | dic xs=>rw [B] at q hs; simp only [dpv,hs]; obtain ⟨vs,h,_⟩:=q; exact .dK h
  | dtp xs=>rw [B] at q hs; simp only [dpv,hs]; obtain ⟨vs,h,_⟩:=q; exact .dT h
  | frd xs=>rw [B] at hs; simp only [Ke,hs] at G; cases G
  | obj C xs=>rw [B] at hs; simp only [Ke,hs] at G; cases G
 | dic=>obtain ⟨a,rfl,h,_⟩:=r; exact .dK h
def Q42:List String:=["int", "bool", "str", "tuple", "list", "dict"]
def Qrz (K:be) (q:T∈Q42) (p:PV):eT K (.type (tyN p)) (.type T)=zo (isI T p):=by
 have q:T = "int" \/ T = "bool" \/ T = "str" \/ T = "tuple" \/ T = "list" \/ T = "dict" := by simpa [Q42] using q
 rcases q with rfl | rfl | rfl | rfl | rfl | rfl <;> cases p <;> first | rfl | kernel_rfl
def qc (T:String) (m:ME):ME:=λΓ st=>(m Γ st).bind λp st1=>if Ke st1 p=zi then .stuck else .ok (.bl (isI T (dpv st1 p))) st1
def Qq5 {B:Str} {p tp:Pos} (hT:T∈Q42) (ha:SimE X E a ma) (hg:Gl X "isinstance") (hm:X.mg "isinstance" = zl) (Z:Gl X B) (U:X.mg B=zl) (O:aZ B=zo (.type T))
  (hn:B≠"__name__" := by decide) (hd:(B == ("__debug__" : Str))=zb)
  (he:aQ [a,.Name B tp] X.env=(zb,aO a X.env) :: aQ [.Name B tp] X.env) (a1:aQ [.Name B tp] X.env=(zb,aO (.Name B tp) X.env) :: aQ [] X.env) (Y:(ag pos (aQ [.Name B tp] X.env)).any (·.1)=zb) :
  SimE X E (.Call (.Name "isinstance" p) [a,.Name B tp] [] pos) (qc T ma):=
 ⟨λΓ σ H ρ st Q R G h=>WE.of (Q3s Q9m hg hm Q26 (ze Zc (ze (Qmd Z U O (v:=.ty T) rfl hn hd) Q3u a1) he) (by decide) (by decide) he Y)
  (ha.use R G h.bind λq I H1 ρ1 v x1 R1 G1 r1 h1=>by
   by_cases J:Ke I q=zi
   ·rw [bX J] at h1; exact h1.elim
   ·rw [bY J] at h1;exact ⟨v,.ty T,.type T,_,_,rfl,rfl,Qtv (by simpa using J) R1 r1,Qrz X.K hT (dpv I q),now R1 h1 rfl⟩)⟩
end
abbrev GA:=PV->Gam->Option Gam
abbrev GAs:=List PV->Gam->Option Gam
variable {gs:GAs}
structure SimG (X:Cx) (tg:aH) (ga:GA):Prop where
 run:∀ (Γ Γ':Gam) (σ:St) (H:Hp) (ρ:Tk) (p:PV) (v:V) (Q:St->Hp->Prop),EnvR H ρ Γ σ->Rep H ρ p v->ga p Γ=zo Γ'->(∀ σ',EnvR H ρ Γ' σ'->Q σ' H)->∃ t,PG X tg t/\t v σ H Q
structure SimGs (X:Cx) (tgs:List aH) (n:Nat) (ga:GAs):Prop where
 run:∀ (Γ Γ':Gam) (σ:St) (H:Hp) (ρ:Tk) (ps:List PV) (vs:List V) (Q:St->Hp->Prop),EnvR H ρ Γ σ->RepL H ρ ps vs->ga ps Γ=zo Γ'->(∀ σ',EnvR H ρ Γ' σ'->Q σ' H)->∃ t,PGs X tgs t/\t vs σ H Q
 len:∀ ps Γ Γ',ga ps Γ=zo Γ'->ps.length=n
def Q3 (i:Nat):GA:=λp Γ=>zo (Γ.set i (zo p))
def Z3:GAs:=λps Γ=>match ps with
 | []=>zo Γ
 | _=>zl
def Qa (g:GA) (gs:GAs):GAs:=λps Γ=>match ps with
 | p :: r=>(g p Γ).bind (gs r)
 | []=>zl
def Z2 (gs:GAs):GA:=λp Γ=>match p with
 | .tup ps=>gs ps Γ
 | _=>zl
def Qk9 {i:Nat} (B:X.N.Nodup) (hi:X.N[i]?=zo x) (I:Loc X.env.scope x) (q:X.fn x=zi\/X.env.scope.names.lookup x=zo .local):SimG X (.Name x pos) (Q3 i):=
 ⟨λΓ J σ H ρ p v Q G r e k=>⟨_,Qm7 B hi I q,by cases e; exact k _ (G.set r i)⟩⟩
def Qk8:SimGs X [] 0 Z3:=⟨λΓ q σ H ρ ps vs Q G r e k=>⟨_,Qm5,by
 cases ps with
 | nil=>cases e; cases r; exact ⟨rfl,k σ G⟩
 | cons _ _=>cases e⟩,λps Γ q e=>by
 cases ps with
 | nil=>rfl
 | cons _ _=>cases e⟩
def WGx (X:Cx) (tg:aH):TG:=λv σ H Q=>∃ t,PG X tg t/\t v σ H Q
def Qm6 {tg:aH}:PG X tg (WGx X tg):=λpins s σ H v u Q I r ⟨t,h,q⟩=>h pins s σ H v u Q I r q
def Qyr (X:Cx) (tgs:List aH):TGs:=λv σ H Q=>∃ t,PGs X tgs t/\t v σ H Q
def Qny {B:List aH}:PGs X B (Qyr X B):=λpins s σ H v u Q I r ⟨t,h,q⟩=>h pins s σ H v u Q I r q
def Qfv {g:GA} (h1:SimG X e g) (h2:SimGs X es n gs) (hs:(bB (e :: es) X.env).map (·.2)=assign e X.env :: (bB es X.env).map (·.2)):SimGs X (e :: es) (n + 1) (Qa g gs):=
 ⟨λΓ q σ H ρ ps vs Q G r eq k=>⟨_,Qgv Qm6 Qny hs,by
  cases ps with
  | nil=>cases eq
  | cons p ps=>
   obtain ⟨v,t,rfl,Y,O⟩:=r;have eq:(g p Γ).bind (gs ps)=zo q:=eq;cases I:g p Γ with
   | none=>rw [I] at eq; cases eq
   | some B=>
    rw [I] at eq;exact ⟨v,t,rfl,h1.run Γ B σ H ρ p v _ G Y I λJ U=>h2.run B q J H ρ ps t _ U O eq k⟩⟩,λps Γ q e=>by
  cases ps with
  | nil=>cases e
  | cons p ps=>
   have e:(g p Γ).bind (gs ps)=zo q:=e;cases I:g p Γ with
   | none=>rw [I] at e; cases e
   | some B=>rw [I] at e; rw [E7,h2.len ps B q e]⟩
def Qps {k:Nat} (U:X.calm=zi) (h:SimGs X es n gs) (Y:(bB es X.env).length=n) (I:(bB es X.env).findIdx? (·.1)=zl):SimG X (.Tuple es k pos) (Z2 gs):=
 ⟨λΓ B σ H ρ p v Q G r e q=>⟨_,Qqu U Qny Y I,by
  cases p with
  | tup ps=>
   obtain ⟨a,vs,rfl,O,Z,J⟩:=r;exact ⟨a,vs,rfl,SqT.of O,by rw [<- J.length]; exact h.len ps Γ B e,h.run Γ B σ H ρ ps vs Q G J e q⟩
  | _=>cases e⟩⟩
abbrev Wt:=List (Nat × Cell)
def wOk (w:Wt) (st:Q0):Prop:=∀ x∈w,st[x.1]?=zo x.2
def yy (st:Q0):wOk [] st:=λx h=>by cases h
structure Src (J:It) (items:List PV) (w:Wt) (H:Hp) (ρ:Tk):Prop where
 stop:∀ H2 ρ2 st2,Ext H ρ H2 ρ2->Rel H2 ρ2 st2->wOk w st2->J.stop items.length H2
 go:∀ H2 ρ2 st2,Ext H ρ H2 ρ2->Rel H2 ρ2 st2->wOk w st2->∀ i,i < items.length->J.go i H2
 yld:∀ H2 ρ2 st2,Ext H ρ H2 ρ2->Rel H2 ρ2 st2->wOk w st2->∀ i p,items[i]?=zo p->∀ x H3,J.yld i H2 x H3->Same H2 H3/\Rep H3 ρ2 p x
abbrev MI:=Gam->Q0->Res (List PV × Wt)
structure SimI (X:Cx) (E:XK) (tg iter:aH) (mi:MI):Prop where
 run:∀ (Γ:Gam) (σ:St) (H:Hp) (ρ:Tk) (st:Q0) (P:List PV × Wt->Q0->Hp->Tk->Prop) (R':It->Hp->Prop),Rel H ρ st->EnvR H ρ Γ σ->Acc X.mg E H ρ P (mi Γ st) ->
  (∀ iw st1 H1 ρ1 J,mi Γ st=.ok iw st1->Ext H ρ H1 ρ1->Rel H1 ρ1 st1->EnvR H1 ρ1 Γ σ->wOk iw.2 st1->iw.1.length<=sizeLine->Src J iw.1 iw.2 H1 ρ1->P iw st1 H1 ρ1->R' J H1)->WI X tg iter σ H R'
def W6 (st:Q0):PV->Option (List PV × Wt)
 | .tup xs=>zo (xs,[])
 | .lst xs=>zo (xs,[])
 | .fro xs=>zo (xs,[])
 | .ref i=>match st[i]? with
  | some (.lst xs)=>zo (xs,[(i,.lst xs)])
  | _=>zl
 | _=>zl
def Q34 {K:be} {w:Wt} (R:Rel H ρ st) (r:Rep H ρ p v) (e:W6 st p=zo (xs,w)) :
  wOk w st/\∃ (t:Bool) (a:aB),v=.ref a/\(t=zi->∃ ys,p=.tup ys)/\(t=zb->∀ ys,p≠.tup ys)/\∀ H2 q B,Ext H ρ H2 q->Rel H2 q B->wOk w B->∃ vs,SqK K t H2 a vs/\RepL H2 q xs vs:=by
 cases p with
 | tup ys=>
  obtain ⟨a,vs,rfl,G,I,J⟩:=r;cases e;exact ⟨yy _,zi,a,rfl,λ_=>⟨_,rfl⟩,(λz=>by cases z),λH2 q B x R2 _=>⟨vs,show SqT K H2 a vs from SqT.of (x.kp G I),J.ext x⟩⟩
 | lst ys=>
  obtain ⟨a,vs,rfl,G,I,J⟩:=r;cases e;exact ⟨yy _,zb,a,rfl,(λz=>by cases z),(λ_ _ z=>by cases z),λH2 q B x R2 _=>⟨vs,show SqL K H2 a vs from SqL.of (x.kp G I),J.ext x⟩⟩
 | fro ys=>
  obtain ⟨a,vs,rfl,G,I,J⟩:=r;cases e;refine ⟨yy _,zb,a,rfl,(λz=>by cases z),(λ_ _ z=>by cases z),λH2 q B x R2 _=>⟨vs,show SqL K H2 a vs from ?_,J.ext x⟩⟩
  rcases G with G | ⟨o,G⟩
  ·exact .inl (.inl (x.kp G I))
  ·exact .inl (.inr ⟨o,x.kp G I⟩)
 | ref i=>
  obtain ⟨a,U,rfl⟩:=r;simp only [W6] at e
  split at e
  ·rename_i ys hs;cases e;refine ⟨λx hx=>?_,zb,a,rfl,(λz=>by cases z),(λ_ _ z=>by cases z),λH2 q B x R2 ok=>?_⟩
   ·have:x=(i,.lst xs):=by simpa using hx
    subst this; exact hs
   ·have O:=ok (i,.lst xs) (by simp);obtain ⟨b,vs,Y,Z,f3⟩:=R2.lst O;obtain ⟨t,et⟩:=x.pre;rw [<- et,O4 (O0.mp U).1,U] at Y;cases Y;exact ⟨vs,show SqL K H2 a vs from SqL.of Z,f3⟩
  ·cases e
 | _=>cases e
section
variable {X:Cx} {E:XK} {pos:Pos} {tg:aH} {e:aH} {m:ME}
def Vv (m:ME):MI:=λΓ st=>(m Γ st).bind λp st1=>match W6 st1 p with
 | some (xs,w)=>if xs.length<=lim then .ok (xs,w) st1 else .stuck
 | none=>.stuck
def RepL.i {H:Hp} {ρ:Tk} {ps:List PV} {vs:List V} {i:Nat} {p:PV} {x:V} (r:RepL H ρ ps vs) (h:ps[i]?=zo p) (h':vs[i]?=zo x):Rep H ρ p x:=by
 obtain ⟨v,e,q⟩:=r.get h;rw [h'] at e; cases e;exact q
def Qbn {t:Bool} {a:aB} {w:Wt} (h:∀ H2 q B,Ext H ρ H2 q->Rel H2 q B->wOk w B->∃ vs,SqK K t H2 a vs/\RepL H2 q xs vs):Src (if t=zi then Itt K a else Itl K a) xs w H ρ:=by
 cases t with
 | true=>
  rw [bX rfl];refine ⟨λH2 q B x R ok=>?_,λH2 q B x R ok i hi=>?_,λH2 q B x R ok i p I y U J=>?_⟩
  ·obtain ⟨vs,s,r⟩:=h H2 q B x R ok;exact ⟨vs,s,by rw [r.length]; exact O6 _⟩
  ·obtain ⟨vs,s,r⟩:=h H2 q B x R ok;have G:i < vs.length:=by rw [<- r.length]; exact hi
   exact ⟨vs,vs[i],s,O2 G⟩
  ·obtain ⟨vs,s,r⟩:=h H2 q B x R ok;obtain ⟨rfl,O⟩:=J;exact ⟨Same.refl _,r.i I (O vs s)⟩
 | false=>
  rw [bY E1];refine ⟨λH2 q B x R ok=>?_,λH2 q B x R ok i hi=>?_,λH2 q B x R ok i p I y U J=>?_⟩
  ·obtain ⟨vs,s,r⟩:=h H2 q B x R ok;exact ⟨vs,s,by rw [r.length]; exact O6 _⟩
  ·obtain ⟨vs,s,r⟩:=h H2 q B x R ok;have G:i < vs.length:=by rw [<- r.length]; exact hi
   exact ⟨vs,vs[i],s,O2 G⟩
  ·obtain ⟨vs,s,r⟩:=h H2 q B x R ok;obtain ⟨rfl,O⟩:=J;exact ⟨Same.refl _,r.i I (O vs s)⟩
def Qc3 {P:List PV × Wt->Q0->Hp->Tk->Prop} (R:Rel H ρ st) (h:Acc mg E H ρ P (match W6 st p with | some (xs,w)=>if xs.length<=lim then .ok (xs,w) st else .stuck | none=>.stuck)) :
  ∃ xs w,W6 st p=zo (xs,w)/\xs.length<=lim/\P (xs,w) st H ρ:=by
 split at h
 ·rename_i xs w e
  split at h
  ·rename_i hl;exact ⟨xs,w,e,hl,h H ρ (Ext.refl _ _) R⟩
  ·exact h.elim
 ·exact h.elim
def Qpr (Y:SimE X E e m):SimI X E tg e (Vv m):=⟨λΓ σ H ρ st P R' R G h k=>by
 have hb:Acc X.mg E H ρ _ (m Γ st):=Acc.bind h
 by_cases Z:∃ ys q,m Γ st=.ok (.tup ys) q
 ·obtain ⟨ys,a1,e0⟩:=Z;refine WI.of (Qqt Zc) (Y.use' R G hb λp q H1 ρ1 v eq O B I U h1=>?_);obtain ⟨xs,w,e,hl,J⟩:=Qc3 B h1;obtain ⟨ok,t,a,rfl,t1,t2,sq⟩:=Q34 (K:=X.K) B U e;have ep:p=.tup ys:=by rw [eq] at e0; injection e0
  cases t with
  | false=>exact absurd ep (t2 rfl ys)
  | true=>
   obtain ⟨vs,s,_⟩:=sq H1 ρ1 q (Ext.refl _ _) B ok;exact ⟨a,rfl,⟨vs,s⟩,k (xs,w) q H1 ρ1 _ (by simp only [Vv,eq,Res.bind,e,bX hl]) O B I ok (Ws hl) (Qbn sq) J⟩
 ·refine WI.of (Qm2 Zc) (Y.use' R G hb λp q H1 ρ1 v eq O B I U h1=>?_);obtain ⟨xs,w,e,hl,J⟩:=Qc3 B h1;obtain ⟨ok,t,a,rfl,t1,t2,sq⟩:=Q34 (K:=X.K) B U e;cases t with
  | true=>
   obtain ⟨ys,rfl⟩:=t1 rfl;exact absurd ⟨ys,q,eq⟩ Z
  | false=>
   obtain ⟨vs,s,_⟩:=sq H1 ρ1 q (Ext.refl _ _) B ok;exact ⟨a,rfl,⟨vs,s⟩,k (xs,w) q H1 ρ1 _ (by simp only [Vv,eq,Res.bind,e,bX hl]) O B I ok (Ws hl) (Qbn sq) J⟩⟩
def Jr (lo:Int) (n:Nat):List PV:=(bc n).map λ(k:Nat)=>PV.int (lo + (k:Int))
def Q5d {lo:Int} :Src (Itr lo n) (Jr lo n) [] H ρ:=by
 have hl:(Jr lo n).length=n:=by unfold Jr; rw [O3,F7]
 refine ⟨λH2 B q x R ok=>?_,λH2 B q x R ok i hi=>?_,λH2 B q x R ok i p G y J I=>?_⟩
 ·show n<=(Jr lo n).length;omega
 ·show i < n;omega
 ·obtain ⟨rfl,rfl⟩:=I;have hi:i < n:=by rw [<- hl]; exact (O0.mp G).1
  unfold Jr at G;rw [E2,L8 hi] at G;cases G;exact ⟨Same.refl _,rfl⟩
def Zg (mr:Gam->Q0->Res (List PV)):MI:=λΓ st=>(mr Γ st).bind λps st1=>match ps with
 | [.int j]=>if -(lim:Int)<=j/\j<=lim then .ok (Jr 0 j.toNat,[]) st1 else .stuck
 | _=>.stuck
def zj (mr:Gam->Q0->Res (List PV)):MI:=λΓ st=>(mr Γ st).bind λps st1=>match ps with
 | [.int i,.int j]=>if -(lim:Int)<=i/\i<=lim/\-(lim:Int)<=j/\j<=lim then .ok (Jr i (j - i).toNat,[]) st1 else .stuck
 | _=>.stuck
variable {a b:aH} {mr:Gam->Q0->Res (List PV)} {p:Pos}
def Q3j (lo:Int) (n:Nat):(Jr lo n).length=n:=by unfold Jr; rw [O3,F7]
def Qd6 (J:Gl X "range") (I:X.mg "range" = zl) (O:SimA X E [a] mr) (hs:aQ [a] X.env=[(zb,aO a X.env)]):SimI X E tg (.Call (.Name "range" p) [a] [] pos) (Zg mr):=⟨λΓ σ H ρ st P R' R G h k=>by
 refine WI.of (Qdi J I Q1w hs) (O.use' R G h.bind λps q H1 ρ1 vs eq Y B U Z h1=>?_)
 split at h1
 ·rename_i j
  split at h1
  ·rename_i hj;obtain ⟨v,rfl,rv⟩:=Zb Z;cases rv;have hl:(lim:Int)=1000000:=rfl;refine ⟨j,rfl,by omega,by omega,k (Jr 0 j.toNat,[]) q H1 ρ1 _ (by simp only [Zg,eq,Res.bind,bX hj]) Y B U (yy _) ?_ Q5d (h1 H1 ρ1 (Ext.refl _ _) B)⟩;show (Jr 0 j.toNat).length<=sizeLine;rw [Q3j];exact Ws ()
  ·exact h1.elim
 ·exact h1.elim⟩
def Qd5 (O:Gl X "range") (Y:X.mg "range" = zl) (U:SimA X E [a,b] mr) (hs:aQ [a,b] X.env=[(zb,aO a X.env),(zb,aO b X.env)]) (q:aQ [b] X.env=[(zb,aO b X.env)]):SimI X E tg (.Call (.Name "range" p) [a,b] [] pos) (zj mr):=⟨λΓ σ H ρ st P R' R G h k=>by
 refine WI.of (Qdh O Y Q1w hs q) (U.use' R G h.bind λps B H1 ρ1 vs eq x1 I Z r1 h1=>?_)
 split at h1
 ·rename_i i j
  split at h1
  ·rename_i hj;obtain ⟨v,u,rfl,rv,J⟩:=j9 r1;cases rv; cases J;have hl:(lim:Int)=1000000:=rfl;refine ⟨i,j,rfl,⟨by omega,by omega,by omega,by omega⟩,k (Jr i (j - i).toNat,[]) B H1 ρ1 _ (by simp only [zj,eq,Res.bind,bX hj]) x1 I Z (yy _) ?_ Q5d (h1 H1 ρ1 (Ext.refl _ _) I)⟩;show (Jr i (j - i).toNat).length<=sizeLine;rw [Q3j];exact F3 (show (j - i).toNat<=2000000 by omega) (by decide)
  ·exact h1.elim
 ·exact h1.elim⟩
def Q1u:List PV->List PV->List PV
 | x :: xs,y :: ys=>.tup [x,y] :: Q1u xs ys
 | _,_=>[]
def Q6g (xs ys:List PV):Q1u xs ys=(xs.zip ys).map λz=>.tup [z.1,z.2]:=by
 induction xs generalizing ys with
 | nil=>rfl
 | cons x xs q=>
  cases ys with
  | nil=>rfl
  | cons y ys=>rw [Q1u,q]; rfl
def Q2p (xs ys:List PV):(Q1u xs ys).length=min xs.length ys.length:=by rw [Q6g,O3,List.length_zip]
def Qf9 {ys:List PV} {i:Nat} {p:PV} (h:(Q1u xs ys)[i]?=zo p):∃ x y,p=.tup [x,y]/\xs[i]?=zo x/\ys[i]?=zo y:=by
 rw [Q6g,E2] at h;cases e:(xs.zip ys)[i]? with
 | none=>rw [e] at h; cases h
 | some z=>
  rw [e] at h; cases h;rw [List.getElem?_zip_eq_some] at e;exact ⟨z.1,z.2,rfl,e.1,e.2⟩
def Q8r (mr:Gam->Q0->Res (List PV)):MI:=λΓ st=>(mr Γ st).bind λps st1=>match ps with
 | [p,q]=>match W6 st1 p,W6 st1 q with
  | some (xs,w),zo (ys,w')=>if xs.length<=lim then .ok (Q1u xs ys,w ++ w') st1 else .stuck
  | _,_=>.stuck
 | _=>.stuck
def z9 {w B:Wt} (h:wOk (w ++ B) st):wOk w st/\wOk B st:=⟨λx q=>h x (M6 _ q),λx q=>h x (F6 _ q)⟩
def Qjw {t1 t2:Bool} {a b:aB} {ys:List PV} {w O:Wt} (h:∀ H2 B G,Ext H ρ H2 B->Rel H2 B G->wOk w G->∃ vs,SqK K t1 H2 a vs/\RepL H2 B xs vs)
  (h':∀ H2 B G,Ext H ρ H2 B->Rel H2 B G->wOk O G->∃ vs,SqK K t2 H2 b vs/\RepL H2 B ys vs):Src (Itz K t1 t2 a b) (Q1u xs ys) (w ++ O) H ρ:=by
 refine ⟨λH2 B G x R ok=>?_,λH2 B G x R ok i hi=>?_,λH2 B G x R ok i p hp y H3 Z=>?_⟩
 ·obtain ⟨vs,s,r⟩:=h H2 B G x R (z9 ok).1;obtain ⟨us,s',I⟩:=h' H2 B G x R (z9 ok).2;refine ⟨vs,us,s,s',?_⟩;rw [Q2p,<- r.length,<- I.length];omega
 ·obtain ⟨vs,s,r⟩:=h H2 B G x R (z9 ok).1;obtain ⟨us,s',I⟩:=h' H2 B G x R (z9 ok).2;rw [Q2p,r.length,I.length] at hi;have h1:i < vs.length:=by omega
  have h2:i < us.length:=by omega
  exact ⟨vs,us,vs[i],us[i],s,s',O2 h1,O2 h2⟩
 ·obtain ⟨vs,s,r⟩:=h H2 B G x R (z9 ok).1;obtain ⟨us,s',I⟩:=h' H2 B G x R (z9 ok).2;obtain ⟨q,u,v,U,rfl,rfl,Y⟩:=Z;obtain ⟨e1,e2⟩:=Y vs us s s';obtain ⟨xp,yp,rfl,p1,p2⟩:=Qf9 hp;have J:Same H2 (upd H2 q (.tup [u,v])):=Q3b U;exact ⟨J,q,[u,v],rfl,Qm,R.fresh U,RepL.cons ((r.i p1 e1).ext (Ext.same J)) (RepL.cons ((I.i p2 e2).ext (Ext.same J)) RepL.nil)⟩
def Qpq {elts:List aH} {kt:Nat} {tp:Pos} (hg:Gl X "zip") (hm:X.mg "zip" = zl) (ha:SimA X E [a,b] mr) (hs:aQ [a,b] X.env=[(zb,aO a X.env),(zb,aO b X.env)]) (a8:aQ [b] X.env=[(zb,aO b X.env)]) :
  SimI X E (.Tuple elts kt tp) (.Call (.Name "zip" p) [a,b] [] pos) (Q8r mr):=⟨λΓ σ H ρ st P R' R G h k=>by
 have hb:Acc X.mg E H ρ _ (mr Γ st):=Acc.bind h;have I:∀ t1 t2:Bool,(∀ p q B,mr Γ st=.ok [p,q] B->(t1=zi <-> ∃ ys,p=.tup ys)/\(t2=zi <-> ∃ ys,q=.tup ys))->WI X (.Tuple elts kt tp) (.Call (.Name "zip" p) [a,b] [] pos) σ H R':=λt1 t2 ht=>by
  refine WI.of (Qqr t1 t2 hg hm Q1w hs a8) (ha.use' R G hb λps B H1 ρ1 vs eq x1 J G1 r1 h1=>?_)
  split at h1
  ·rename_i p' q'
   split at h1
   ·rename_i xs w ys w' e1 e2
    split at h1
    ·rename_i hl;obtain ⟨v,u,rfl,rv,ru⟩:=j9 r1;obtain ⟨Y,b1,a1,rfl,z1,a9,U⟩:=Q34 (K:=X.K) J rv e1;obtain ⟨Z,b2,a2,rfl,z2,a4,a3⟩:=Q34 (K:=X.K) J ru e2;obtain ⟨g1,g2⟩:=ht _ _ _ eq;have a6:b1=t1:=by
      cases b1 with
      | true=>exact (g1.mpr (z1 rfl)).symm
      | false=>
       cases t1 with
       | false=>rfl
       | true=>obtain ⟨ys,e⟩:=g1.mp rfl; exact absurd e (a9 rfl ys)
     have b0:b2=t2:=by
      cases b2 with
      | true=>exact (g2.mpr (z2 rfl)).symm
      | false=>
       cases t2 with
       | false=>rfl
       | true=>obtain ⟨ys,e⟩:=g2.mp rfl; exact absurd e (a4 rfl ys)
     subst a6; subst b0;obtain ⟨a5,s1,_⟩:=U H1 ρ1 B (Ext.refl _ _) J Y;obtain ⟨a7,s2,_⟩:=a3 H1 ρ1 B (Ext.refl _ _) J Z;refine ⟨a1,a2,a5,a7,rfl,s1,s2,k (Q1u xs ys,w ++ w') B H1 ρ1 _ (by simp only [Q8r,eq,Res.bind,e1,e2,bX hl]) x1 J G1 (λx O=>?_) ?_ (Qjw U a3) (h1 H1 ρ1 (Ext.refl _ _) J)⟩
     ·rcases E6.mp O with O | O
      ·exact Y x O
      ·exact Z x O
     ·show (Q1u xs ys).length<=sizeLine;rw [Q2p];exact Ws (F3 (Nat.min_le_left _ _) hl)
    ·exact h1.elim
   ·exact h1.elim
  ·exact h1.elim
 have tt:∀ p:PV,∃ t:Bool,t=zi <-> ∃ ys,p=.tup ys:=λp=>by
  cases p with
  | tup ys=>exact ⟨zi,λ_=>⟨ys,rfl⟩,λ_=>rfl⟩
  | _=>exact ⟨zb,⟨λz=>(by cases z),λ⟨_,z⟩=>(by cases z)⟩⟩
 by_cases hz:∃ p q B,mr Γ st=.ok [p,q] B
 ·obtain ⟨p0,q0,b3,e0⟩:=hz;obtain ⟨t1,g1⟩:=tt p0;obtain ⟨t2,g2⟩:=tt q0;refine I t1 t2 λp q B e=>?_
  rw [e0] at e; cases e;exact ⟨g1,g2⟩
 ·exact I zi zi λp q B e=>absurd ⟨p,q,B,e⟩ hz⟩
def K0:Nat->List PV->List PV
 | _,[]=>[]
 | n,x :: xs=>.tup [.int n,x] :: K0 (n + 1) xs
theorem zn:∀ (n:Nat) (xs:List PV),(K0 n xs).length=xs.length
 | _,[]=>rfl
 | n,x :: xs=>by rw [K0,E7,zn (n + 1) xs,E7]
theorem Q65:∀ {n:Nat} {xs:List PV} {i:Nat} {p:PV},(K0 n xs)[i]?=zo p->∃ x,p=.tup [.int (n + i:Nat),x]/\xs[i]?=zo x
 | n,[],i,p,h=>by simp [K0] at h
 | n,x :: xs,0,p,h=>by
  simp [K0] at h;exact ⟨x,h.symm,rfl⟩
 | n,x :: xs,i + 1,p,h=>by
  rw [K0,dq] at h;obtain ⟨y,B,q⟩:=Q65 h;exact ⟨y,by rw [B,show n + 1 + i=n + (i + 1) by omega],by simpa using q⟩
def Qc5 (mr:Gam->Q0->Res (List PV)):MI:=λΓ st=>(mr Γ st).bind λps st1=>match ps with
 | [p]=>match W6 st1 p with
  | some (xs,w)=>if xs.length<=lim then .ok (K0 0 xs,w) st1 else .stuck
  | none=>.stuck
 | _=>.stuck
def Qfr {t:Bool} {a:aB} {w:Wt} (h:∀ H2 B G,Ext H ρ H2 B->Rel H2 B G->wOk w G->∃ vs,SqK K t H2 a vs/\RepL H2 B xs vs):Src (Ite K t a) (K0 0 xs) w H ρ:=by
 refine ⟨λH2 B G x R ok=>?_,λH2 B G x R ok i hi=>?_,λH2 B G x R ok i p O y H3 Y=>?_⟩
 ·obtain ⟨vs,s,r⟩:=h H2 B G x R ok;exact ⟨vs,s,by rw [zn,r.length]; exact O6 _⟩
 ·obtain ⟨vs,s,r⟩:=h H2 B G x R ok;rw [zn,r.length] at hi;exact ⟨vs,vs[i],s,O2 hi⟩
 ·obtain ⟨vs,s,r⟩:=h H2 B G x R ok;obtain ⟨q,u,I,rfl,rfl,U⟩:=Y;have Z:=U vs s;obtain ⟨xp,rfl,p1⟩:=Q65 O;have J:Same H2 (upd H2 q (.tup [.int i,u])):=Q3b I;exact ⟨J,q,[.int i,u],rfl,Qm,R.fresh I,RepL.cons (by rw [dN]; rfl) (RepL.cons ((r.i p1 Z).ext (Ext.same J)) RepL.nil)⟩
def Qk7 {elts:List aH} {kt:Nat} {tp:Pos} (hg:Gl X "enumerate") (hm:X.mg "enumerate" = zl) (ha:SimA X E [a] mr) (hs:aQ [a] X.env=[(zb,aO a X.env)]) :
  SimI X E (.Tuple elts kt tp) (.Call (.Name "enumerate" p) [a] [] pos) (Qc5 mr):=⟨λΓ σ H ρ st P R' R G h k=>by
 have hb:Acc X.mg E H ρ _ (mr Γ st):=Acc.bind h;have B:∀ t1:Bool,(∀ p q,mr Γ st=.ok [p] q->(t1=zi <-> ∃ ys,p=.tup ys))->WI X (.Tuple elts kt tp) (.Call (.Name "enumerate" p) [a] [] pos) σ H R':=λt1 ht=>by
  refine WI.of (Qm4 t1 hg hm Q1w hs) (ha.use' R G hb λps q H1 ρ1 vs eq x1 U G1 r1 h1=>?_)
  split at h1
  ·rename_i p'
   split at h1
   ·rename_i xs w e1
    split at h1
    ·rename_i hl;obtain ⟨v,rfl,rv⟩:=Zb r1;obtain ⟨J,b1,a1,rfl,z1,a2,I⟩:=Q34 (K:=X.K) U rv e1;have O:=ht _ _ eq;have Z:b1=t1:=by
      cases b1 with
      | true=>exact (O.mpr (z1 rfl)).symm
      | false=>
       cases t1 with
       | false=>rfl
       | true=>obtain ⟨ys,e⟩:=O.mp rfl; exact absurd e (a2 rfl ys)
     subst Z;obtain ⟨Y,s1,_⟩:=I H1 ρ1 q (Ext.refl _ _) U J;refine ⟨a1,Y,rfl,s1,k (K0 0 xs,w) q H1 ρ1 _ (by simp only [Qc5,eq,Res.bind,e1,bX hl]) x1 U G1 J ?_ (Qfr I) (h1 H1 ρ1 (Ext.refl _ _) U)⟩;show (K0 0 xs).length<=sizeLine;rw [zn];exact Ws hl
    ·exact h1.elim
   ·exact h1.elim
  ·exact h1.elim
 have tt:∀ p:PV,∃ t:Bool,t=zi <-> ∃ ys,p=.tup ys:=λp=>by
  cases p with
  | tup ys=>exact ⟨zi,λ_=>⟨ys,rfl⟩,λ_=>rfl⟩
  | _=>exact ⟨zb,⟨λz=>(by cases z),λ⟨_,z⟩=>(by cases z)⟩⟩
 by_cases hz:∃ p q,mr Γ st=.ok [p] q
 ·obtain ⟨p0,a3,e0⟩:=hz;obtain ⟨t1,O⟩:=tt p0;refine B t1 λp q e=>?_
  rw [e0] at e; cases e;exact O
 ·exact B zi λp q e=>absurd ⟨p,q,e⟩ hz⟩
end
section
abbrev ML:=Gam->Q0->Res (List PV)
structure SimN (X:Cx) (E:XK) (e:aH) (m:ML):Prop where
 run:∀ (Γ:Gam) (σ:St) (H:Hp) (ρ:Tk) (st:Q0) (P:List PV->Q0->Hp->Tk->Prop) (Q:VK),Rel H ρ st->EnvR H ρ Γ σ->Acc X.mg E H ρ P (m Γ st) ->
  (∀ ps st1 H1 ρ1 a vs,m Γ st=.ok ps st1->Ext H ρ H1 ρ1->Rel H1 ρ1 st1->a∈ρ1.hid->H a=zl->H1 a=zo (.lst vs)->RepL H1 ρ1 ps vs->Q (.ref a) H1)->WE X e σ H Q
def Wr (m:ML):ME:=λΓ st=>(m Γ st).bind λps st1=>.ok (.lst ps) st1
def jj (m:ML):ME:=λΓ st=>(m Γ st).bind λps st1=>.ok (.ref st1.length) (st1 ++ [.lst ps])
section
variable {H0 H:Hp} {ρ0 ρ:Tk} {st:Q0} {a:aB} {ps:List PV} {vs:List V}
def Qbu (I:Rel H0 ρ0 st) (x:Ext H0 ρ0 H ρ) {q:Q0} (R:Rel H ρ q) (B:a∈ρ.hid) (J:H0 a=zl) (G:H a=zo (.lst vs)) (r:RepL H ρ ps vs) :
  Ext H0 ρ0 H ⟨ρ.tr,ρ0.hid⟩/\Rel H ⟨ρ.tr,ρ0.hid⟩ q/\Rep H ⟨ρ.tr,ρ0.hid⟩ (.lst ps) (.ref a):=
 ⟨x.unhide,R.unhide x.hidM,a,vs,rfl,G,(λz=>by
  rcases z with z | z
  ·exact R.ap a B z
  ·obtain ⟨o,e,_⟩:=I.hd a z;rw [J] at e; cases e),r.unhide x.hidM⟩
mutual
theorem Rep.trk (q:b∈ρ.hid) (B:∀ c,c∈hs->c∈ρ.hid):∀ {p:PV} {v:V},Rep H ρ p v->Rep H ⟨ρ.tr ++ [b],hs⟩ p v
 | .non,_,r=>r
 | .bl _,_,r=>r
 | .int _,_,r=>r
 | .str _,_,r=>r
 | .tup ps,v,⟨c,vs,e,s,n,r⟩=>⟨c,vs,e,s,λz=>by
   rcases z with z | z
   ·rcases E6.mp z with z | z
    ·exact n (.inl z)
    ·have:c=b:=by simpa using z
     subst this; exact n (.inr q)
   ·exact n (.inr (B _ z)),RepL.trk q B r⟩
 | .lst ps,v,⟨c,vs,e,s,n,r⟩=>⟨c,vs,e,s,λz=>by
   rcases z with z | z
   ·rcases E6.mp z with z | z
    ·exact n (.inl z)
    ·have:c=b:=by simpa using z
     subst this; exact n (.inr q)
   ·exact n (.inr (B _ z)),RepL.trk q B r⟩
 | .fro ps,v,⟨c,vs,e,s,n,r⟩=>⟨c,vs,e,s,λz=>by
   rcases z with z | z
   ·rcases E6.mp z with z | z
    ·exact n (.inl z)
    ·have:c=b:=by simpa using z
     subst this; exact n (.inr q)
   ·exact n (.inr (B _ z)),RepL.trk q B r⟩
 | .ref i,v,⟨c,e,G⟩=>⟨c,by show (ρ.tr ++ [b])[i]?=zo c; rw [O4 (O0.mp e).1]; exact e,G⟩
 | .dic,v,⟨c,e,s,n⟩=>⟨c,e,s,λz=>by
   rcases z with z | z
   ·rcases E6.mp z with z | z
    ·exact n (.inl z)
    ·have:c=b:=by simpa using z
     subst this; exact n (.inr q)
   ·exact n (.inr (B _ z))⟩
theorem RepL.trk (q:b∈ρ.hid) (B:∀ c,c∈hs->c∈ρ.hid):∀ {ps:List PV} {vs:List V},RepL H ρ ps vs->RepL H ⟨ρ.tr ++ [b],hs⟩ ps vs
 | [],_,r=>r
 | p :: ps,_,⟨v,t,e,I,G⟩=>⟨v,t,e,Rep.trk q B I,RepL.trk q B G⟩
end
def Qmf (R0:Rel H0 ρ0 st) (x:Ext H0 ρ0 H ρ) {B:Q0} (R:Rel H ρ B) (O:a∈ρ.hid) (Z:H0 a=zl) (ha:H a=zo (.lst vs)) (r:RepL H ρ ps vs) :
  Ext H0 ρ0 H ⟨ρ.tr ++ [a],ρ0.hid⟩/\Rel H ⟨ρ.tr ++ [a],ρ0.hid⟩ (B ++ [.lst ps])/\Rep H ⟨ρ.tr ++ [a],ρ0.hid⟩ (.ref B.length) (.ref a):=by
 have Y:a∉ρ0.hid:=λz=>by
  obtain ⟨o,e,_⟩:=R0.hd a z;rw [Z] at e; cases e
 refine ⟨⟨x.pre.trans (ce _ _),λ_ h=>h,λ_ h=>.inl h,x.keep,λb J=>?_,x.old,x.frz⟩,⟨?_,?_,λb J=>R.hd b (x.hidM b J),λb J z=>?_,λi b c h1 h2=>?_⟩,a,?_,rfl⟩
 ·rcases E6.mp J with z | z
  ·exact x.new b z
  ·have:b=a:=by simpa using z
   subst this; exact .inr Z
 ·show (ρ.tr ++ [a]).length=_;rw [D4,D4,R.len]; rfl
 ·show (ρ.tr ++ [a]).Nodup;refine dU.mpr ⟨R.nd,by simp,λb J c hc e=>?_⟩;have:c=a:=by simpa using hc
  subst this; subst e;exact R.ap b O J
 ·rcases E6.mp z with z | z
  ·exact R.ap b (x.hidM b J) z
  ·have:b=a:=by simpa using z
   subst this; exact Y J
 ·have h1:(ρ.tr ++ [a])[i]?=zo b:=h1
  by_cases hi:i < B.length
  ·rw [O4 (by rw [R.len]; exact hi)] at h1;rw [O4 hi] at h2;have q:=R.cell i b c h1 h2;cases c with
   | lst U=>
    obtain ⟨us,I,G⟩:=q;exact ⟨us,I,G.trk O x.hidM⟩
   | dic U=>
    obtain ⟨us,I,G⟩:=q;exact ⟨us,I,G.1,G.2.trk O x.hidM⟩
   | dtp U=>
    obtain ⟨us,I,G⟩:=q;exact ⟨us,I,G.1,G.2.trk O x.hidM⟩
   | frd U=>
    obtain ⟨us,I,G⟩:=q;exact ⟨us,I,G.1,G.2.trk O x.hidM⟩
   | obj C U=>
    obtain ⟨us,I,G⟩:=q;exact ⟨us,I,G.1,G.2.trk O x.hidM⟩
  ·rw [D0 (by rw [R.len]; omega)] at h1;rw [D0 ()] at h2;have e0:i - B.length=0:=by
    rcases fS (i - B.length) with z | z
    ·exact z
    ·rw [dS (by simp; omega)] at h2; cases h2
   rw [R.len,e0] at h1;rw [e0] at h2;simp at h1 h2;subst h1; subst h2;exact ⟨vs,ha,r.trk O x.hidM⟩
 ·show (ρ.tr ++ [a])[B.length]?=zo a;rw [<- R.len,D0 (O6 _),cJ]; rfl
end
section
variable {X:Cx} {E:XK} {pos:Pos} {e:aH} {m:ML}
def Qpx (h:SimN X E e m):SimE X E e (Wr m):=⟨λΓ σ H ρ st Q R G q=>h.run Γ σ H ρ st _ Q R G q.bind λps U H1 ρ1 a vs eq x J B Y I r=>by
 obtain ⟨Z,R2,O⟩:=Qbu R x J B Y I r;unfold Wr at q;rw [eq] at q;exact q _ _ Z R2 _ O⟩
def Qpz (h:SimN X E e m):SimE X E e (jj m):=⟨λΓ σ H ρ st Q R G q=>h.run Γ σ H ρ st _ Q R G q.bind λps U H1 ρ1 a vs eq x J B Y I r=>by
 obtain ⟨Z,R2,O⟩:=Qmf R x J B Y I r;unfold jj at q;rw [eq] at q;exact q _ _ Z R2 _ O⟩
variable {es:List aH} {mr:Gam->Q0->Res (List PV)} {a b:aH} {ma mb:ME}
def Qhh {ρ1:Tk} {q:Q0} {Q:VK} (x:Ext H ρ H1 ρ1) (I:Rel H1 ρ1 q) (r:RepL H1 ρ1 ps vs)
  (k:∀ H1 ρ1 a vs,Ext H ρ H1 ρ1->Rel H1 ρ1 q->a∈ρ1.hid->H a=zl->H1 a=zo (.lst vs)->RepL H1 ρ1 ps vs->Q (.ref a) H1):∀ p,H1 p=zl->Q (.ref p) (upd H1 p (.lst vs)):=λp B=>by
 refine k _ (ρ1.hide p) p vs (x.trans (Ext.hide B)) (I.hide B) E3 ?_ Qm (r.hide B);cases e:H p with
 | none=>rfl
 | some o=>
  obtain ⟨o',G⟩:=x.old p o e;rw [B] at G; cases G
def y0 (mr:Gam->Q0->Res (List PV)):ML:=λΓ st=>(mr Γ st).bind λps st1=>if ps.length<=lim then .ok ps st1 else .stuck
def Qpp (h:SimA X E es mr):SimN X E (.List es pos) (y0 mr):=
 ⟨λΓ σ H ρ st P Q R G U k=>WE.of (Qgy Q1w) (h.use' R G U.bind λps q H1 ρ1 vs eq O J Y I h1=>by
  by_cases hl:ps.length<=lim
  ·refine ⟨by rw [<- I.length]; exact Ws hl,Qhh O J I λH2 B a us=>k ps q H2 B a us ?_⟩;unfold y0;rw [eq];exact bX hl
  ·rw [bY hl] at h1; exact h1.elim)⟩
def qb (ma:ME):ML:=λΓ st=>(ma Γ st).bind λp st1=>match Wp st1 p with
 | some xs=>.ok xs st1
 | none=>.stuck
def Qk1 {p:Pos} (Z:SimE X E a ma) (hg:Gl X "list") (Y:X.mg "list" = zl) (U:aQ [a] X.env=(zb,aO a X.env) :: aQ [] X.env):SimN X E (.Call (.Name "list" p) [a] [] pos) (qb ma):=
 ⟨λΓ σ H ρ st P Q R G hq k=>WE.of (Q0w Q0g hg Y Q69 (ze Zc Q3u U) (by decide) (by decide) U rfl) (Z.use' R G hq.bind λq B H1 ρ1 v eq x1 O G1 r1 h1=>by
  split at h1
  ·rename_i xs e;obtain ⟨t,b,vs,rfl,I,ra⟩:=j4 (K:=X.K) O r1 e;refine ⟨b,vs,rfl,Qa4 I,Qhh x1 O ra λH2 J a us=>k xs B H2 J a us ?_⟩;unfold qb;rw [eq];show (match Wp B q with | some xs=>Res.ok xs B | none=>.stuck)=_;rw [e]
  ·exact h1.elim)⟩
end
end
def Jp (cap:zAE) (Γ:Gam):Gam:=cap.map λc=>c.bind λj=>(Γ[j]?).join
def EnvR.cap {H:Hp} {ρ:Tk} {Γ:Gam} {σ:St} (h:EnvR H ρ Γ σ) (cap:zAE):EnvR H ρ (Jp cap Γ) (Q0f cap σ):=by
 refine ⟨by unfold Jp Q0f; rw [O3,O3],λi p e=>?_⟩;unfold Jp at e;unfold Q0f;rw [E2] at e ⊢;cases q:cap[i]? with
 | none=>rw [q] at e; cases e
 | some c=>
  rw [q] at e;cases c with
  | none=>cases e
  | some j=>
   have B:(Γ[j]?).join=zo p:=bm e;cases r:Γ[j]? with
   | none=>rw [r] at B; cases B
   | some o=>
    rw [r] at B;have:o=zo p:=B;subst this;obtain ⟨v,I,G⟩:=h.2 j p r;exact ⟨v,by show zo ((σ[j]?).join)=zo (zo v); rw [I]; rfl,G⟩
def Q1t (cap:zAE) (ga:GA):Prop:=∀ Γ p Γ1,ga p (Jp cap Γ)=zo Γ1->Γ1.length=(Jp cap Γ).length/\∀ (i:Nat) (q:PV),(Jp cap Γ)[i]?=zo (zo q)->Γ1[i]?=zo (zo q)
def Q68 {cap:zAE} {i:Nat} (h:cap[i]?=zo zl) (Γ:Gam):(Jp cap Γ)[i]?=zo zl:=by
 unfold Jp;rw [E2,h]; rfl
def Qeg {cap:zAE} {i:Nat} (h:cap[i]?=zo zl):Q1t cap (Q3 i):=λΓ p G e=>by
 cases e;refine ⟨L3 ..,λj q B=>?_⟩;rw [E4 λz=>?_]
 ·exact B
 ·subst z; rw [Q68 h] at B; cases B
def Qcs (cap:zAE) (ga:GAs):Prop:=∀ Γ ps Γ0 Γ1,(∀ (i:Nat) (q:PV),(Jp cap Γ)[i]?=zo (zo q)->Γ0[i]?=zo (zo q))->ga ps Γ0=zo Γ1->Γ1.length=Γ0.length/\∀ (i:Nat) (q:PV),(Jp cap Γ)[i]?=zo (zo q)->Γ1[i]?=zo (zo q)
def Qi7 {cap:zAE}:Qcs cap Z3:=λΓ ps Γ0 q h e=>by
 cases ps with
 | nil=>cases e; exact ⟨rfl,h⟩
 | cons _ _=>cases e
def Qeh {cap:zAE} {i:Nat} (hs:Qcs cap gs) (h:cap[i]?=zo zl):Qcs cap (Qa (Q3 i) gs):=λΓ ps Γ0 q h0 e=>by
 cases ps with
 | nil=>cases e
 | cons p ps=>
  obtain ⟨a,b⟩:=hs Γ ps (Γ0.set i (zo p)) q (λk r B=>by
   rw [E4 λz=>?_]
   ·exact h0 k r B
   ·subst z; rw [Q68 h] at B; cases B) e
  exact ⟨by rw [a,L3],b⟩
def Qi6 {cap:zAE} (hs:Qcs cap gs):Q1t cap (Z2 gs):=λΓ p q e=>by
 cases p with
 | tup ps=>exact hs Γ ps _ q (λ_ _ h=>h) e
 | _=>cases e
open Classical in
def J0 (ga:GA) (mt:MT) (me:ME) (w:Wt) (Γ0:Gam):List PV->Q0->Res (List PV)
 | [],st=>if wOk w st then .ok [] st else .stuck
 | x :: xs,st=>if wOk w st then (match ga x Γ0 with
  | none=>.stuck
  | some Γ1=>(mt Γ1 st).bind λb st1=>if b=zi then (me Γ1 st1).bind λy st2=>(J0 ga mt me w Γ0 xs st2).bind λys st3=>.ok (y :: ys) st3 else J0 ga mt me w Γ0 xs st1) else .stuck
def noX {α:Type}:Res α->Res α
 | .exc _ _=>.stuck
 | r=>r
def J3 (cap:zAE) (ga:GA) (mi:MI) (mt:MT) (me:ME):ML:=λΓ st=>(mi Γ st).bind λiw st1=>noX (J0 ga mt me iw.2 (Jp cap Γ) iw.1 st1)
structure SimTs (X:Cx) (ifs:List aH) (m:MT):Prop where
 run:∀ (Γ:Gam) (σ:St) (H:Hp) (ρ:Tk) (st:Q0) (P:Bool->Q0->Hp->Tk->Prop) (Q:Bool->Hp->Prop),Rel H ρ st->EnvR H ρ Γ σ->Acc X.mg E0 H ρ P (m Γ st) ->
  (∀ b st1 H1 ρ1,m Γ st=.ok b st1->Ext H ρ H1 ρ1->Rel H1 ρ1 st1->EnvR H1 ρ1 Γ σ->Q b H1)->∃ t,PTs X ifs t/\t σ H Q
def Z1:MT:=λ_ st=>.ok zi st
def Qjp :SimTs X [] Z1:=⟨λΓ σ H ρ st P Q R G h k=>⟨_,Qkr,k zi st H ρ rfl (Ext.refl _ _) R G⟩⟩
def Qjn {m:MT} (O:SimT X E0 c m):SimTs X [c] m:=⟨λΓ σ H ρ st P Q R G h k=>⟨_,Qkq Q6t,O.use' R G h λb q H1 ρ1 e J B I p=>k b q H1 ρ1 e J B I⟩⟩
def Qnr {E':XK} {P:α->Q0->Hp->Tk->Prop} {r:Res α} (h:Acc mg E H ρ P (noX r)):Acc mg E' H ρ P r:=by
 cases r with
 | ok a st=>exact h
 | exc x st=>exact h.elim
 | stuck=>exact h
def Res.assoc {q:Type} (r:Res α) (f:α->Q0->Res β) (g:β->Q0->Res q):(r.bind f).bind g=r.bind λa st=>(f a st).bind g:=by cases r <;> rfl
def Acc.assoc {q:Type} {P:q->Q0->Hp->Tk->Prop} {r:Res α} {f:α->Q0->Res β} {g:β->Q0->Res q} (h:Acc mg E H ρ P ((r.bind f).bind g)):Acc mg E H ρ P (r.bind λa st=>(f a st).bind g):=by
 rw [<- Res.assoc]; exact h
def EnvR.le {B:Gam} (h:EnvR H ρ B σ) (hl:Γ.length=σ.length) (k:∀ (i:Nat) (q:PV),Γ[i]?=zo (zo q)->B[i]?=zo (zo q)):EnvR H ρ Γ σ:=⟨hl,λi p e=>h.2 i p (k i p e)⟩
variable {tg iter elt:aH} {ifs:List aH} {N N':List Str} {sc scE:Scope} {ga:GA} {mi:MI} {mt:MT} {me:ME}
section
variable {cap:zAE}
def aE (X:Cx) (N':List Str) (sc:Scope) (e:aH):TE:=λσ H Q=>∀ cl C s0 H0 ex,WE (Yz X N' sc cl C s0 H0 ex) e σ H Q
def aG (X:Cx) (N':List Str) (sc:Scope) (tg:aH):TG:=λv σ H Q=>∀ cl C s0 H0 ex,WGx (Yz X N' sc cl C s0 H0 ex) tg v σ H Q
def aT (X:Cx) (N':List Str) (sc:Scope) (ifs:List aH):TT:=λσ H Q=>∀ cl C s0 H0 ex,∃ t,PTs (Yz X N' sc cl C s0 H0 ex) ifs t/\t σ H Q
def Qes {Γ:Gam} {σ:St} {H1:Hp} {ρ1:Tk} {U:Q0} {J:It} {q:List PV} {w:Wt} {Q:VK} {P:List PV->Q0->Hp->Tk->Prop} (hg:∀ cl C Z H0 ex,SimG (Yz X N' sc cl C Z H0 ex) tg ga) (he:∀ cl C Z H0 ex,SimE (Yz X N' sc cl C Z H0 ex) E0 elt me) (ht:∀ cl C Z H0 ex,SimTs (Yz X N' sc cl C Z H0 ex) ifs mt)
  (hf:Q1t cap ga) (R1:Rel H1 ρ1 U) (G1:EnvR H1 ρ1 Γ σ) (src:Src J q w H1 ρ1) (c5:q.length<=sizeLine) (h:Acc X.mg E0 H1 ρ1 P (J0 ga mt me w (Jp cap Γ) q U))
  (k:∀ ys b7 H2 a5 B vs,J0 ga mt me w (Jp cap Γ) q U=.ok ys b7->Ext H1 ρ1 H2 a5->Rel H2 a5 b7->B∈a5.hid->H1 B=zl->H2 B=zo (.lst vs)->RepL H2 a5 ys vs->Q (.ref B) H2):Q66 J cap (aG X N' sc tg) (aT X N' sc ifs) (aE X N' sc elt) σ H1 Q:=by
 intro B I;let W:Nat->Nat->List V->St->Hp->Prop:=λi m vs b3 H'=>m=q.length - i/\i<=q.length/\vs.length<=i/\∃ ρ' st' ys,Ext H1 ρ1 H' ρ'/\B∈ρ'.hid/\Rel H' ρ' st'/\EnvR H' ρ' (Jp cap Γ) b3/\H' B=zo (.lst vs)/\RepL H' ρ' ys vs /\
  J0 ga mt me w (Jp cap Γ) q U=(J0 ga mt me w (Jp cap Γ) (q.drop i) st').bind λzs a4=>.ok (ys ++ zs) a4
 refine ⟨W,⟨_,rfl,L5 _,O6 _,ρ1.hide B,U,[],Ext.hide I,E3,R1.hide I,(G1.cap cap).hide I,Qm,rfl,?_⟩,?_⟩
 ·rw [eF];cases r:J0 ga mt me w (Jp cap Γ) q U with
  | ok zs a4=>rfl
  | exc x a4=>rfl
  | stuck=>rfl
 rintro i m vs b3 H' ⟨hm,hi,c6,ρ',st',ys,x,Y,R',G',ha,ry,O⟩;have G:Acc X.mg E0 H1 ρ1 P ((J0 ga mt me w (Jp cap Γ) (q.drop i) st').bind λzs a4=>.ok (ys ++ zs) a4):=by rw [<- O]; exact h
 refine ⟨ha,?_⟩
 by_cases a1:i < q.length
 ·right
  have hd:q.drop i=q[i] :: q.drop (i + 1):=gz a1;rw [hd,J0] at G O
  by_cases hw:wOk w st'
  ·rw [bX hw] at G O;refine ⟨src.go H' _ st' x R' hw i a1,by omega,λy H2 hy=>?_⟩;obtain ⟨sm,c1⟩:=src.yld H' _ st' x R' hw i _ (O2 a1) y H2 hy;cases eg:ga q[i] (Jp cap Γ) with
   | none=>rw [eg] at G; exact G.elim
   | some a3=>
    rw [eg] at G O;have x2:Ext H' ρ' H2 ρ':=Ext.same sm;have R2:=R'.same sm;intro cl C Z H0 ex;refine (hg cl C Z H0 ex).run (Jp cap Γ) a3 b3 H2 ρ' _ y _ (G'.ext x2) c1 eg λb1 G3=>?_
    intro cl C Z H0 ex;have c4:=Acc.later G (x.trans x2);refine (ht cl C Z H0 ex).run a3 b1 H2 ρ' st' _ _ R2 G3 (Acc.bind (Acc.assoc c4)) λb c0 H4 a7 e4 x4 R4 G4=>?_
    simp only [e4,Res.bind] at G O;have G0:∀ {a8:Hp} {a2:Tk},EnvR a8 a2 a3 b1->EnvR a8 a2 (Jp cap Γ) b1:=λ{a8 a2} g=>g.le (by
     rw [<- G3.1];exact (hf Γ _ a3 eg).1.symm) (hf Γ _ a3 eg).2
    have a9:Ext H1 ρ1 H4 a7:=x.trans (x2.trans x4);have b2:B∈a7.hid:=x4.hidM B Y;have na:B∉ρ'.tr:=R'.ap B Y;have b5:H4 B=zo (.lst vs):=x4.keep B _ (sm B _ ha) na;have b6:RepL H4 a7 ys vs:=ry.ext (x2.trans x4);cases b with
    | false=>
     rw [bY E1] at G O ⊢;exact ⟨_,show q.length - (i + 1) < m by omega,rfl,a1,by omega,a7,c0,ys,a9,b2,R4,G0 G4,b5,b6,O⟩
    | true=>
     rw [bX rfl] at G O ⊢;intro cl C Z H0 ex;have c3:=Acc.later G a9;refine (he cl C Z H0 ex).use' R4 G4 (Acc.bind (Acc.assoc c3)) λz b8 H5 b0 zv e5 x5 R5 G5 r5 h5=>?_
     simp only [e5,Res.bind] at G O;have a6:B∈b0.hid:=x5.hidM B b2;have c2:H5 B=zo (.lst vs):=x5.keep B _ b5 (R4.ap B b2);have b9:Ext H1 ρ1 H5 b0:=a9.trans x5;refine ⟨c2,_,show q.length - (i + 1) < m by omega,rfl,a1,by rw [D4]; simp; omega,b0,b8,ys ++ [z],b9.put0 I,a6,R5.rehide a6,(G0 G5).rehide a6,Qm,((b6.ext x5).append (RepL.cons r5 RepL.nil)).rehide a6,?_⟩;refine O.trans ?_;cases rr:J0 ga mt me w (Jp cap Γ) (q.drop (i + 1)) b8 with
     | ok zs b4=>
      show Res.ok (ys ++ z :: zs) b4=Res.ok ((ys ++ [z]) ++ zs) b4;rw [F4]; rfl
     | exc x6 b4=>rfl
     | stuck=>rfl
  ·rw [bY hw] at G; exact G.elim
 ·left
  have ei:i=q.length:=by omega
  subst ei;rw [fV,J0] at G O
  by_cases hw:wOk w st'
  ·rw [bX hw] at G O;refine ⟨src.stop H' _ st' x R' hw,?_⟩;have O:J0 ga mt me w (Jp cap Γ) q U=.ok (ys ++ []) st':=O;rw [E9] at O;exact k ys st' H' ρ' B vs O x R' Y I ha ry
  ·rw [bY hw] at G; exact G.elim
def Q9i {Γ:Gam} {σ:St} {H:Hp} {ρ:Tk} {st:Q0} {Q:VK} {P:List PV->Q0->Hp->Tk->Prop} (hi:SimI X E tg iter mi) (hg:∀ cl C O H0 ex,SimG (Yz X N' sc cl C O H0 ex) tg ga) (he:∀ cl C O H0 ex,SimE (Yz X N' sc cl C O H0 ex) E0 elt me) (ht:∀ cl C O H0 ex,SimTs (Yz X N' sc cl C O H0 ex) ifs mt)
  (hf:Q1t cap ga) (R:Rel H ρ st) (G:EnvR H ρ Γ σ) (h:Acc X.mg E H ρ P (J3 cap ga mi mt me Γ st)) (k:∀ ps B H2 q a vs,J3 cap ga mi mt me Γ st=.ok ps B->Ext H ρ H2 q->Rel H2 q B->a∈q.hid->H a=zl->H2 a=zo (.lst vs)->RepL H2 q ps vs->Q (.ref a) H2):Q6j cap (WI X tg iter) (aG X N' sc tg) (aT X N' sc ifs) (aE X N' sc elt) σ H Q:=by
 refine hi.run Γ σ H ρ st _ _ R G h.bind λiw a1 H1 ρ1 J eq Y R1 G1 ok hl src h1=>?_
 refine Qes hg he ht hf R1 G1 src hl (Qnr (E':=E0) h1) λys B H2 q I vs U x2 R2 hm hn ha ry=>?_
 refine k ys B H2 q I vs ?_ (Y.trans x2) R2 hm ?_ ha ry
 ·unfold J3;rw [eq];show noX _=_;rw [U]; rfl
 cases e:H I with
 | none=>rfl
 | some o=>
  obtain ⟨o',Z⟩:=Y.old I o e;rw [hn] at Z; cases Z
def Quu :∀ cl C q H0 ex,PG (Yz X N' sc cl C q H0 ex) tg (aG X N' sc tg):=λcl C q H0 ex pins s σ H v u Q I r h=>Qm6 pins s σ H v u Q I r (h cl C q H0 ex)
def Quz :∀ cl C q H0 ex,PE (Yz X N' sc cl C q H0 ex) e (aE X N' sc e):=λcl C q H0 ex pins s σ H Q I h=>h cl C q H0 ex pins s I
def Qnx :∀ cl C q H0 ex,PTs (Yz X N' sc cl C q H0 ex) ifs (aT X N' sc ifs):=λcl C q H0 ex pins s σ H Q I h=>by
 obtain ⟨t,a,b⟩:=h cl C q H0 ex;exact a pins s σ H Q I b
def Qk2 (cap:zAE) (N':List Str) (q:X.calm=zi) (hi:SimI X E tg iter mi) (I:∀ cl C B H0 ex,SimG (Yz X N' sc cl C B H0 ex) tg ga) (U:∀ cl C B H0 ex,SimE (Yz X N' sc cl C B H0 ex) E0 elt me) (O:∀ cl C B H0 ex,SimTs (Yz X N' sc cl C B H0 ex) ifs mt)
  (Y:Q1t cap ga) (Z:X.N=N:=by rfl) (J:X.env.scope=scE:=by rfl) (hc:compOkC N N' sc scE cap=zi:=by kernel_rfl) (hs:∀ x,bI iter X.env x=pure x:=by intro _; rfl) :
  SimN X E (.ListComp elt [⟨tg,iter,ifs,0⟩] sc pos) (J3 cap ga mi mt me):=
 ⟨λΓ σ H ρ st P Q R G h k=>WE.of (Qh1 q Qqs Quu Quz Qnx Z J hc hs) (Q9i hi I U O Y R G h k)⟩
end
inductive SR where
 | nx (Γ:Gam) (st:Q0) | rt (v:PV) (st:Q0) | bk (Γ:Gam) (st:Q0) | ct (Γ:Gam) (st:Q0) | exc (x:Exc) (st:Q0) | stuck
abbrev MS:=Gam->Q0->SR
variable {m1:MS}
def Res.sbind {α:Type} (r:Res α) (f:α->Q0->SR):SR:=match r with
 | .ok a st=>f a st
 | .exc x st=>.exc x st
 | .stuck=>.stuck
def AccS (mg:zAG) (E:XK) (D:Ends) (H:Hp) (ρ:Tk):SR->Prop
 | .nx Γ st=>∀ σ' H' ρ',Ext H ρ H' ρ'->Rel H' ρ' st->EnvR H' ρ' Γ σ'->D.nx σ' H'
 | .bk Γ st=>∀ σ' H' ρ',Ext H ρ H' ρ'->Rel H' ρ' st->EnvR H' ρ' Γ σ'->D.bk σ' H'
 | .ct Γ st=>∀ σ' H' ρ',Ext H ρ H' ρ'->Rel H' ρ' st->EnvR H' ρ' Γ σ'->D.ct σ' H'
 | .rt p st=>∀ v H' ρ',Ext H ρ H' ρ'->Rel H' ρ' st->Rep H' ρ' p v->D.rt v H'
 | .exc x st=>∀ C dv H' ρ',mg x.cls=zo (.ref C)->Ext H ρ H' ρ'->Rel H' ρ' st->XFs H' ρ' x.fs dv->E (.ref C) dv H'
 | .stuck=>False
variable {α:Type} {mg:zAG} {D:Ends} {H1:Hp} {ρ1:Tk}
def AccS.later {r:SR} (h:AccS mg E D H ρ r) (x:Ext H ρ H1 ρ1):AccS mg E D H1 ρ1 r:=by
 cases r with
 | nx Γ st=>exact λq H' ρ' B=>h q H' ρ' (x.trans B)
 | bk Γ st=>exact λq H' ρ' B=>h q H' ρ' (x.trans B)
 | ct Γ st=>exact λq H' ρ' B=>h q H' ρ' (x.trans B)
 | rt p st=>exact λv H' ρ' B=>h v H' ρ' (x.trans B)
 | exc y st=>exact λC G H' ρ' m B=>h C G H' ρ' m (x.trans B)
 | stuck=>exact h
def AccS.bind {r:Res α} {f:α->Q0->SR} (h:AccS mg E D H ρ (r.sbind f)):Acc mg E H ρ (λa q H1 ρ1=>AccS mg E D H1 ρ1 (f a q)) r:=by
 cases r with
 | ok a st=>exact λH' ρ' B G=>AccS.later (show AccS mg E D H ρ (f a st) from h) B
 | exc e st=>exact h
 | stuck=>exact h
def Res.sassoc (r:Res α) (f:α->Q0->Res β) (g:β->Q0->SR):(r.bind f).sbind g=r.sbind λa st=>(f a st).sbind g:=by cases r <;> rfl
def AccS.assoc {r:Res α} {f:α->Q0->Res β} {g:β->Q0->SR} (h:AccS mg E D H ρ ((r.bind f).sbind g)):AccS mg E D H ρ (r.sbind λa st=>(f a st).sbind g):=by
 rw [<- Res.sassoc]; exact h
structure SimS (X:Cx) (E:XK) (s:aM) (m:MS):Prop where
 run:∀ (Γ:Gam) (σ:St) (H:Hp) (ρ:Tk) (st:Q0) (D:Ends),Rel H ρ st->EnvR H ρ Γ σ->AccS X.mg E D H ρ (m Γ st)->WS X s D σ H
structure SimB (X:Cx) (E:XK) (ss:List aM) (m:MS):Prop where
 run:∀ (Γ:Gam) (σ:St) (H:Hp) (ρ:Tk) (st:Q0) (D:Ends),Rel H ρ st->EnvR H ρ Γ σ->AccS X.mg E D H ρ (m Γ st)->WB X ss D σ H
variable {e:aH} {m:ME}
def Qs:MS:=λΓ st=>.nx Γ st
def Q5 (m1 m2:MS):MS:=λΓ st=>match m1 Γ st with
 | .nx Γ1 st1=>m2 Γ1 st1
 | r=>r
def Qqb:SimB X E [] Qs:=⟨λΓ σ H ρ st D R G h=>WB.of Qku (h σ H ρ (Ext.refl _ _) R G)⟩
def Qke {rest:List aM} {J:MS} (h1:SimS X E s m1) (h2:SimB X E rest J):SimB X E (s :: rest) (Q5 m1 J):=
 ⟨λΓ σ H ρ st D R G h=>WB.of (Qgk Qur Q3m) (h1.run Γ σ H ρ st _ R G (by
  unfold Q5 at h;cases r:m1 Γ st with
  | nx B q=>rw [r] at h; exact λI H' ρ' O U Y=>h2.run B I H' ρ' q D U Y (AccS.later h O)
  | bk B q=>rw [r] at h; exact h
  | ct B q=>rw [r] at h; exact h
  | rt p q=>rw [r] at h; exact h
  | exc x q=>rw [r] at h; exact h
  | stuck=>rw [r] at h; exact h))⟩
def Qqa (h1:SimS X E s m1):SimB X E [s] m1:=⟨λΓ σ H ρ st D R G h=>WB.of (Qkt Qur) (h1.run Γ σ H ρ st D R G h)⟩
def Qhq:MS:=λΓ st=>.bk Γ st
def Qfp:SimS X E (.Break pos) Qhq:=⟨λΓ σ H ρ st D R G h=>WS.of Qgp (h σ H ρ (Ext.refl _ _) R G)⟩
def Xs (m:ME):MS:=λΓ st=>(m Γ st).sbind λ_ st1=>.nx Γ st1
def Qjt (I:SimE X E e m) (hs:swapsWith e zl pos.line X.env=pure zb):SimS X E (.Expr e pos) (Xs m):=
 ⟨λΓ σ H ρ st D R G h=>WS.of (Qkv Zc hs) (I.use R G h.bind λp J H1 ρ1 v O q B U h1=>h1 σ H1 ρ1 (Ext.refl _ _) q B)⟩
def Qz (m:ME):MS:=λΓ st=>(m Γ st).sbind λp st1=>.rt p st1
def Qpk (B:SimE X E e m):SimS X E (.Return (zo e) pos) (Qz m):=
 ⟨λΓ σ H ρ st D R G h=>WS.of (Qqp Zc) (B.use R G h.bind λp J H1 ρ1 v U q O I h1=>h1 v H1 ρ1 (Ext.refl _ _) q I)⟩
def Qr (i:Nat) (m:ME):MS:=λΓ st=>(m Γ st).sbind λp st1=>.nx (Γ.set i (zo p)) st1
def Qpj (i:Nat) {pos':Pos} (O:X.N.Nodup) (I:SimE X E e m) (hi:X.N[i]?=zo x) (Z:Loc X.env.scope x) (hs:swapsWith e (zo (.Name x pos')) pos.line X.env=pure zb) (J:X.fn x=zi\/X.env.scope.names.lookup x=zo .local) :
  SimS X E (.Assign [.Name x pos'] e pos) (Qr i m):=
 ⟨λΓ σ H ρ st D R G h=>WS.of (Qqn O hi Z Zc hs J) (I.use R G h.bind λp Y H1 ρ1 v x1 q B U h1=>h1 _ H1 ρ1 (Ext.refl _ _) q (B.set U i))⟩
section
variable {tg iter elt:aH} {ifs:List aH} {N N':List Str} {sc scE:Scope} {ga:GA} {mi:MI} {mt:MT} {me:ME}
def Qfn (cap:zAE) (N':List Str) (i:Nat) {x:Str} {px cpos:Pos} (O:X.N.Nodup) (q:X.calm=zi) (hi:SimI X E tg iter mi) (hg:∀ cl C B H0 ex,SimG (Yz X N' sc cl C B H0 ex) tg ga) (he:∀ cl C B H0 ex,SimE (Yz X N' sc cl C B H0 ex) E0 elt me) (ht:∀ cl C B H0 ex,SimTs (Yz X N' sc cl C B H0 ex) ifs mt)
  (hf:Q1t cap ga) (U:X.N[i]?=zo x:=by rfl) (hx:Loc X.env.scope x:=by first | exact Or.inl rfl | exact Or.inr rfl) (J:swapsWith (.ListComp elt [⟨tg,iter,ifs,0⟩] sc cpos) (zo (.Name x px)) pos.line X.env=pure zi:=by rfl)
  (hN:X.N=N:=by rfl) (hE:X.env.scope=scE:=by rfl) (hc:compOkC N N' sc scE cap=zi:=by kernel_rfl) (hs:∀ x,bI iter X.env x=pure x:=by intro _; rfl) (I:X.fn x=zi\/X.env.scope.names.lookup x=zo .local:=by first | exact .inl rfl | exact .inr rfl) :
  SimS X E (.Assign [.Name x px] (.ListComp elt [⟨tg,iter,ifs,0⟩] sc cpos) pos) (Qr i (Wr (J3 cap ga mi mt me))):=
 ⟨λΓ σ H ρ st D R G h=>WS.of (Qgn O U hx q Qqs Quu Quz Qnx J hN hE hc hs I) (Q9i hi hg he ht hf R G (AccS.bind (by unfold Qr Wr at h; exact AccS.assoc h)) λps a1 H1 ρ1 a vs eq x R1 hm hn Z r=>by
  obtain ⟨Y,R2,r2⟩:=Qbu R x R1 hm hn Z r;simp only [Qr,Wr,eq,Res.bind,Res.sbind] at h;exact h _ _ _ Y R2 ((G.ext Y).set r2 i))⟩
end
def Qhr (ga:GA) (m:ME):MS:=λΓ st=>(m Γ st).sbind λp st1=>match ga p Γ with
 | some Γ1=>.nx Γ1 st1
 | none=>.stuck
def Qpn (Y:SimE X E e m) (J:SimG X tg ga) (hs:swapsWithSole [tg] e pos.line X.env=pure zb) (hw:swappedStores [tg] e X.env=pure zl) (h1:(bB [tg] X.env).map (·.2)=[assign tg X.env]):SimS X E (.Assign [tg] e pos) (Qhr ga m):=
 ⟨λΓ σ H ρ st D R G h=>WS.of (Qgq Zc Qm6 hs hw h1) (Y.use R G h.bind λp a1 H1 ρ1 v x1 O U Z h1=>by
  cases I:ga p Γ with
  | none=>rw [I] at h1; exact h1.elim
  | some B=>
   rw [I] at h1;exact J.run Γ B σ H1 ρ1 p v _ U Z I λq G'=>h1 q H1 ρ1 (Ext.refl _ _) O G')⟩
def Uf (st:Q0) (o i p:PV):Option Q0:=match o,i with
 | .ref k,.int j=>match st[k]? with
  | some (.lst xs)=>(ixN xs.length j).map λn=>st.set k (.lst (xs.set n p))
  | _=>zl
 | _,_=>zl
def Uu (mo mi m:ME):MS:=λΓ st=>(m Γ st).sbind λp st1=>(mo Γ st1).sbind λo st2=>(mi Γ st2).sbind λi st3=>match Uf st3 o i p with
 | some st4=>.nx Γ st4
 | none=>.stuck
def Qbp {st':Q0} {o i:PV} {x y z:V} (R:Rel H ρ st) (Y:Rep H ρ o x) (U:Rep H ρ i y) (O:Rep H ρ p z) (e:Uf st o i p=zo st') :
  ∃ a vs k j,x=.ref a/\y=.int k/\H a=zo (.lst vs)/\ixN vs.length k=zo j/\Ext H ρ (upd H a (.lst (vs.set j z))) ρ/\Rel (upd H a (.lst (vs.set j z))) ρ st':=by
 unfold Uf at e
 split at e
 ·rename_i k j
  split at e
  ·rename_i xs hs;cases G:ixN xs.length j with
   | none=>rw [G] at e; cases e
   | some n=>
    rw [G] at e;have e:st.set k (.lst (xs.set n p))=st':=bm e;subst e;obtain ⟨a,q,rfl⟩:=Y;cases U;obtain ⟨b,vs,J,B,I⟩:=R.lst hs;rw [q] at J; cases J;exact ⟨a,vs,j,n,rfl,rfl,B,by rw [<- I.length]; exact G,Ext.put (D8 q) B,R.put q B (I.set O n)⟩
  ·cases e
 ·cases e
def Qph {o i:aH} {mo mi:ME} {tpos:Pos} (he:SimE X E e m) (ho:SimE X E o mo) (hi:SimE X E i mi)
  (Z:∀ v,assign (.Subscript o i tpos) X.env v=(do
   let q <- aw [v] (aO o X.env)
   let B <- aw [v,q] (aO i X.env)
   standAt tpos
   aw [v,q,B] (setItem q B v)
   release [v,q,B] []))
  (hs:swapsWithSole [.Subscript o i tpos] e pos.line X.env=pure zb) (hw:swappedStores [.Subscript o i tpos] e X.env=pure zl) (h1:(bB [.Subscript o i tpos] X.env).map (·.2)=[assign (.Subscript o i tpos) X.env]) :
  SimS X E (.Assign [.Subscript o i tpos] e pos) (Uu mo mi m):=
 ⟨λΓ σ H ρ st D R G h=>WS.of (Qgq Zc (Qqv Zc Zc Q7y Z) hs hw h1) (he.use R G h.bind λp a1 H1 ρ1 z x1 R1 G1 r1 h1=>ho.use R1 G1 h1.bind λq a4 H2 a2 x x2 R2 G2 r2 h2=>hi.use R2 G2 h2.bind λB O H3 J y Y R3 G3 r3 I=>by
  cases es:Uf O q B p with
  | none=>rw [es] at I; exact I.elim
  | some a3=>
   rw [es] at I;obtain ⟨a,vs,k,j,rfl,rfl,f1,f2,U,R4⟩:=Qbp R3 (r2.ext Y) r3 (r1.ext (x2.trans Y)) es;exact ⟨a,vs,k,j,rfl,rfl,f1,f2,I σ _ J U R4 (G3.ext U)⟩)⟩
def J9 (mt:MT) (ma mb:MS):MS:=λΓ st=>(mt Γ st).sbind λb st1=>if b=zi then ma Γ st1 else mb Γ st1
def Qub {a b:List aM} {ma mb:MS} (U:SimT X E c mt) (J:SimB X E a ma) (O:SimB X E b mb):SimS X E (.If c a b pos) (J9 mt ma mb):=
 ⟨λΓ σ H ρ st D R G h=>WS.of (Qus Q6t Q3m Q3m) (U.use R G h.bind λk q H1 ρ1 Y B I h1=>by
  cases k with
  | true=>rw [bX rfl] at h1 ⊢; exact J.run Γ σ H1 ρ1 q D B I h1
  | false=>rw [bY E1] at h1 ⊢; exact O.run Γ σ H1 ρ1 q D B I h1)⟩
open Classical in
def Jn (ga:GA) (body:MS) (w:Wt):List PV->Gam->Q0->SR
 | [],Γ,st=>if wOk w st then .nx Γ st else .stuck
 | x :: xs,Γ,st=>if wOk w st then (match ga x Γ with
  | none=>.stuck
  | some Γ1=>match body Γ1 st with
   | .nx Γ2 st2=>Jn ga body w xs Γ2 st2
   | .ct Γ2 st2=>Jn ga body w xs Γ2 st2
   | .bk Γ2 st2=>.nx Γ2 st2
   | .rt v st2=>.rt v st2
   | .exc x st2=>.exc x st2
   | .stuck=>.stuck) else .stuck
def Vi (ga:GA) (mi:MI) (body:MS):MS:=λΓ st=>(mi Γ st).sbind λiw st1=>Jn ga body iw.2 iw.1 Γ st1
def Qpm {bd:List aM} {body:MS} (hp:PassesOwn (aI X.prog X.w) X.A X.env X.xe) (hc:X.calm=zi) (hi:SimI X E tg iter mi) (hg:SimG X tg ga) (hb:SimB X E bd body)
  (hs:∀ x,bI iter X.env x=pure x):SimS X E (.For tg iter bd [] pos) (Vi ga mi body):=
 ⟨λΓ σ H ρ st D R G h=>WS.of (Qqq hp hc Qqs Qm6 Q3m hs) (hi.run Γ σ H ρ st _ _ R G h.bind λI a6 H1 ρ1 J eq x1 R1 G1 ok hl src h1=>by
  let W:Nat->Nat->St->Hp->Prop:=λi m U H'=>m=I.1.length - i/\i<=I.1.length/\∃ Z ρ' st',Ext H1 ρ1 H' ρ'/\Rel H' ρ' st'/\EnvR H' ρ' Z U/\AccS X.mg E D H' ρ' (Jn ga body I.2 (I.1.drop i) Z st')
  refine ⟨W,⟨_,rfl,L5 _,Γ,ρ1,a6,Ext.refl _ _,R1,G1,by rw [eF]; exact h1⟩,?_⟩;rintro i m U H' ⟨hm,a8,Z,ρ',st',x,R',G',Y⟩
  by_cases a3:i < I.1.length
  ·right
   have hd:I.1.drop i=I.1[i] :: I.1.drop (i + 1):=gz a3;rw [hd,Jn] at Y
   by_cases hw:wOk I.2 st'
   ·rw [bX hw] at Y;refine ⟨src.go H' ρ' st' x R' hw i a3,λa5 H2=>W (i + 1) (I.1.length - (i + 1)) a5 H2,λa5 H2 z=>⟨_,by omega,z⟩,λy H2 hy=>?_⟩
    obtain ⟨sm,ry⟩:=src.yld H' ρ' st' x R' hw i _ (O2 a3) y H2 hy;have x2:Ext H' ρ' H2 ρ':=Ext.same sm;cases eg:ga I.1[i] Z with
    | none=>rw [eg] at Y; exact Y.elim
    | some a4=>
     rw [eg] at Y;refine hg.run Z a4 U H2 ρ' _ y _ (G'.ext x2) ry eg λa7 G3=>?_
     have q:=AccS.later Y x2;simp only at q;refine hb.run a4 a7 H2 ρ' st' _ (R'.same sm) G3 ?_;have again:∀ {O:Gam} {B:Q0},AccS X.mg E D H2 ρ' (Jn ga body I.2 (I.1.drop (i + 1)) O B)->∀ U a2 a1,Ext H2 ρ' a2 a1->Rel a2 a1 B->EnvR a2 a1 O U->W (i + 1) (I.1.length - (i + 1)) U a2:=λ{O B} a σ4 H4 ρ4 x4 R4 G4=>
      ⟨rfl,a3,O,ρ4,B,x.trans (x2.trans x4),R4,G4,AccS.later a x4⟩
     cases rb:body a4 st' with
     | nx O B=>rw [rb] at q; exact again q
     | ct O B=>rw [rb] at q; exact again q
     | bk O B=>rw [rb] at q; exact q
     | rt v B=>rw [rb] at q; exact q
     | exc y B=>rw [rb] at q; exact q
     | stuck=>rw [rb] at q; exact q.elim
   ·rw [bY hw] at Y; exact Y.elim
  ·left
   have ei:i=I.1.length:=by omega
   subst ei;rw [fV,Jn] at Y
   by_cases hw:wOk I.2 st'
   ·rw [bX hw] at Y;exact ⟨src.stop H' ρ' st' x R' hw,Y U H' ρ' (Ext.refl _ _) R' G'⟩
   ·rw [bY hw] at Y; exact Y.elim)⟩
def Xb (mt:MT) (body:MS):Nat->Gam->Q0->SR
 | 0,_,_=>.stuck
 | n + 1, Γ, st => (mt Γ st).sbind λb st1 => if b = zi then (match body Γ st1 with
   | .nx Γ2 st2=>Xb mt body n Γ2 st2
   | .ct Γ2 st2=>Xb mt body n Γ2 st2
   | .bk Γ2 st2=>.nx Γ2 st2
   | .rt v st2=>.rt v st2
   | .exc x st2=>.exc x st2
   | .stuck=>.stuck) else .nx Γ st1
def Qfm (n:Nat) {bd:List aM} {body:MS} (hp:PassesOwn (aI X.prog X.w) X.A X.env X.xe) (hc:SimT X E c mt) (hb:SimB X E bd body):SimS X E (.While c bd [] pos) (Xb mt body n):=
 ⟨λΓ σ H ρ st D R G h=>WS.of (Qgm hp Q6t Q3m) (by
  let W:Nat->St->Hp->Prop:=λm I H'=>∃ J ρ' st',Rel H' ρ' st'/\EnvR H' ρ' J I/\AccS X.mg E D H' ρ' (Xb mt body m J st')
  refine ⟨W,⟨n,Γ,ρ,st,R,G,h⟩,?_⟩;rintro m I H' ⟨J,ρ',st',R',G',hA⟩;cases m with
  | zero=>exact hA.elim
  | succ m=>
   rw [Xb] at hA;refine hc.use R' G' hA.bind λb Z H1 ρ1 x1 R1 G1 h1=>?_
   cases b with
   | false=>rw [bY E1] at h1 ⊢; exact h1 I H1 ρ1 (Ext.refl _ _) R1 G1
   | true=>
    rw [bX rfl] at h1 ⊢;refine ⟨λa1 H2=>W m a1 H2,λa1 H2 z=>⟨m,cX _,z⟩,hb.run J I H1 ρ1 Z _ R1 G1 ?_⟩
    have again:∀ {B:Gam} {q:Q0},AccS X.mg E D H1 ρ1 (Xb mt body m B q)->∀ I U O,Ext H1 ρ1 U O->Rel U O q->EnvR U O B I->W m I U:=λ{B q} a σ4 H4 ρ4 x4 R4 G4=>⟨B,ρ4,q,R4,G4,AccS.later a x4⟩
    cases Y:body J Z with
    | nx B q=>rw [Y] at h1; exact again h1
    | ct B q=>rw [Y] at h1; exact again h1
    | bk B q=>rw [Y] at h1; exact h1
    | rt v q=>rw [Y] at h1; exact h1
    | exc y q=>rw [Y] at h1; exact h1
    | stuck=>rw [Y] at h1; exact h1.elim)⟩
def WM (X:Cx) (id:String):V->List V->Hp->VK->Prop:=λx xs H Q=>∀ (pins:zAC) (s:aC) (σ:St) (v:aA) (us:List aA),Inv X pins σ H s->RelV x v->Vals xs us->aF (aI X.prog X.w) X.A (call (.builtin id) (v :: us)) (EP X pins σ Q) X.xe s
def Qrq {id:String}:MtR X id (WM X id):=λpins s σ _ _ _ v us _ I r rs h=>h pins s σ v us I r rs
def WM.of {id:String} {r:V->List V->Hp->VK->Prop} {x:V} {xs:List V} (h:MtR X id r) (q:r x xs H Q):WM X id x xs H Q:=λpins s σ v us I G B=>h pins s σ H x xs v us Q I G B q
abbrev MF:=Q0->PV->List PV->Res PV
structure MtS (X:Cx) (E:XK) (id:String) (o:MF):Prop where
 run:∀ (H:Hp) (ρ:Tk) (st:Q0) (p:PV) (ps:List PV) (x:V) (xs:List V) (Q:VK),Rel H ρ st->Rep H ρ p x->RepL H ρ ps xs->Acc X.mg E H ρ (QV Q) (o st p ps)->WM X id x xs H Q
variable {o:aH} {es:List aH} {mo:ME} {mr:Gam->Q0->Res (List PV)} {name:Str} {apos cpos:Pos} {T:String} {f:MF}
section
variable {id:String}
def mBM (f:MF) (mo:ME) (mr:Gam->Q0->Res (List PV)):ME:=λΓ st=>(mo Γ st).bind λp st1=>match Z9 st1 p with
 | some _=>(mr Γ st1).bind λps st2=>f st2 p ps
 | none=>.stuck
def Qnt (pa:PlainAttrs "list") (slot:Slot "list" name id) (O:typeOf (.builtin id)=pure (.type "method_descriptor")) (hm:MtS X E id f) (ho:SimE X E o mo) (ha:SimA X E (e :: es) mr)
  (B:bF o name X.env (aO o X.env)=aO o X.env:=by rfl)
  (J:((ag cpos (aQ (e :: es) X.env)).all (λx=>!x.1) && (backToKw cpos (keywordEach [] X.env)).all (λx=>x.1.isSome)
   && decide ((e :: es).length + ([]:List Keyword).length + (if ([]:List Keyword).isEmpty then 0 else 1) < 30))=zi:=by rfl)
  (I:(apos.endLine == cpos.line)=zi:=by rfl) (hs:aQ (e :: es) X.env=(zb,aO e X.env) :: aQ es X.env:=by rfl) (q:(ag cpos (aQ es X.env)).any (·.1)=zb:=by rfl) :
  SimE X E (.Call (.Attribute o name apos) (e :: es) [] cpos) (mBM f mo mr):=
 ⟨λΓ σ H ρ st Q R G h=>WE.of (Qux pa slot O Qrq Zc Q1w B J I hs q) (ho.use R G h.bind λp a1 H1 ρ1 v x1 Z G1 r1 h1=>by
  split at h1
  ·rename_i ys el;obtain ⟨a,vs,rfl,hr,_⟩:=X4 Z r1 el;exact ⟨.inl ⟨rfl,vs,.inl hr⟩,ha.use Z G1 h1.bind λps Y H2 U us x2 R2 G2 r2 h2=>hm.run H2 U Y p ps _ us Q R2 (r1.ext x2) r2 h2⟩
  ·exact h1.elim)⟩
def chg (st:Q0) (p:PV) (g:List PV->Option (PV × List PV)):Res PV:=match p with
 | .ref i=>match st[i]? with
  | some (.lst xs)=>match g xs with
   | some (r,ys)=>.ok r (st.set i (.lst ys))
   | none=>.stuck
  | _=>.stuck
 | _=>.stuck
def Q7a {x:V} {g:List PV->Option (PV × List PV)} (R:Rel H ρ st) (O:Rep H ρ p x) (h:Acc mg E H ρ (QV Q) (chg st p g)) :
  ∃ a xs vs r ys,x=.ref a/\H a=zo (.lst vs)/\RepL H ρ xs vs/\g xs=zo (r,ys)/\∀ us v,RepL H ρ ys us->Rep H ρ r v->Q v (upd H a (.lst us)):=by
 unfold chg at h
 split at h
 ·rename_i i
  split at h
  ·rename_i xs hs
   split at h
   ·rename_i r ys J;obtain ⟨a,q,rfl⟩:=O;obtain ⟨b,vs,G,B,U⟩:=R.lst hs;rw [q] at G; cases G;refine ⟨a,xs,vs,r,ys,rfl,B,U,J,λus v I Y=>?_⟩;have x:=Ext.put (o':=.lst us) (D8 q) B;exact h _ ρ x (R.put q B I) v (Y.ext x)
   ·exact h.elim
  ·exact h.elim
 ·exact h.elim
def Uh:MF:=λst p ps=>match ps with
 | [y]=>chg st p λxs=>if xs.length < lim then zo (.non,xs ++ [y]) else zl
 | _=>.stuck
def Qdv:MtS X E "list.append" Uh:=⟨λH ρ st p ps x xs Q R G rs h=>by
 unfold Uh at h
 split at h
 ·obtain ⟨v,rfl,r⟩:=Zb rs;obtain ⟨a,ys,vs,J,zs,rfl,I,B,q,k⟩:=Q7a R G h
  split at q
  ·rename_i hl;cases q;exact WM.of Qdt ⟨a,vs,v,rfl,rfl,I,by rw [<- B.length]; exact D7 hl Qat,k _ _ (B.append (RepL.cons r RepL.nil)) rfl⟩
  ·cases q
 ·exact h.elim⟩
def Xp:MF:=λst p ps=>match ps with
 | [q]=>match qm st q with
  | some ys=>chg st p λxs=>if xs.length + ys.length<=lim then zo (.non,xs ++ ys) else zl
  | none=>.stuck
 | _=>.stuck
def Qdu:MtS X E "list.extend" Xp:=⟨λH ρ st p ps x xs Q R I rs h=>by
 unfold Xp at h
 split at h
 ·obtain ⟨v,rfl,r⟩:=Zb rs
  split at h
  ·rename_i Y O;obtain ⟨b,us,rfl,J,B⟩:=Q3z R r O;obtain ⟨a,ys,vs,Z,zs,rfl,U,G,q,k⟩:=Q7a R I h
   split at q
   ·rename_i hl;cases q;exact WM.of Qdr ⟨a,b,vs,us,rfl,rfl,U,J,by rw [<- G.length,<- B.length]; exact Ws hl,k _ _ (G.append B) rfl⟩
   ·cases q
  ·exact h.elim
 ·exact h.elim⟩
def Qtf:MF:=λst p ps=>match ps with
 | []=>chg st p λxs=>zo (.non,xs.reverse)
 | _=>.stuck
def Q2a:MF:=λst p ps=>match ps with
 | []=>chg st p λ_=>zo (.non,[])
 | _=>.stuck
def ms_clear:MtS X E "list.clear" Q2a:=⟨λH ρ st p ps x xs Q R q rs h=>by
 unfold Q2a at h
 split at h
 ·cases rs;obtain ⟨a,ys,vs,J,zs,rfl,G,I,B,k⟩:=Q7a R q h;cases B;exact WM.of Qhj ⟨a,vs,rfl,rfl,G,k _ _ rfl rfl⟩
 ·exact h.elim⟩
def Qd8 (J:SimE X E o mo) (I:SimA X E [e] mr) (B:bF o "append" X.env (aO o X.env)=aO o X.env)
  (G:((ag cpos (aQ [e] X.env)).all (λx=>!x.1) && (backToKw cpos (keywordEach [] X.env)).all (λx=>x.1.isSome) && decide ([e].length + ([]:List Keyword).length + (if ([]:List Keyword).isEmpty then 0 else 1) < 30))=zi)
  (q:(apos.endLine == cpos.line)=zi) (hs:aQ [e] X.env=(zb,aO e X.env) :: aQ [] X.env):SimE X E (.Call (.Attribute o "append" apos) [e] [] cpos) (mBM Uh mo mr):=
 Qnt fW PySem.F.slot_list_append PySem.F.type_list_append Qdv J I B G q hs
def Qd7 (J:SimE X E o mo) (I:SimA X E [e] mr) (B:bF o "extend" X.env (aO o X.env)=aO o X.env)
  (G:((ag cpos (aQ [e] X.env)).all (λx=>!x.1) && (backToKw cpos (keywordEach [] X.env)).all (λx=>x.1.isSome) && decide ([e].length + ([]:List Keyword).length + (if ([]:List Keyword).isEmpty then 0 else 1) < 30))=zi)
  (q:(apos.endLine == cpos.line)=zi) (hs:aQ [e] X.env=(zb,aO e X.env) :: aQ [] X.env):SimE X E (.Call (.Attribute o "extend" apos) [e] [] cpos) (mBM Xp mo mr):=
 Qnt fW PySem.F.slot_list_extend PySem.F.type_list_extend Qdu J I B G q hs
end
section
mutual
def fz (n:Nat) (st:Q0):Nat->PV->Option PV
 | 0,_=>zl
 | _ + 1,.non=>zo .non
 | _ + 1,.bl b=>zo (.bl b)
 | _ + 1,.int i=>zo (.int i)
 | _ + 1,.str x=>zo (.str x)
 | k + 1,.tup xs=>(fzL n st k xs).map .tup
 | k + 1,.lst xs=>(fzL n st k xs).map .lst
 | k + 1,.fro xs=>(fzL n st k xs).map .fro
 | _ + 1,.dic=>zo .dic
 | k + 1,.ref i=>if i < n then zo (.ref i) else match st[i]? with
  | some (.lst xs)=>(fzL n st k xs).map .lst
  | _=>zl
def fzL (n:Nat) (st:Q0):Nat->List PV->Option (List PV)
 | _,[]=>zo []
 | k,x :: xs=>(fz n st k x).bind λy=>(fzL n st k xs).map (y :: ·)
end
def Q0d :∀ {m k:Nat} {p:PV},Za m p=zi->m < k->fz n st k p=zo p:=by
 intro m
 induction m with
 | zero=>
  intro k p g G;obtain ⟨k,rfl⟩:∃ j,k=j + 1:=⟨k - 1,by omega⟩;cases p with
  | tup _=>cases g
  | lst _=>cases g
  | fro _=>cases g
  | ref _=>cases g
  | dic=>cases g
  | _=>rw [fz]
 | succ m I=>
  intro k p g G;obtain ⟨k,rfl⟩:∃ j,k=j + 1:=⟨k - 1,by omega⟩;have q:∀ xs:List PV,xs.all (Za m)=zi->fzL n st k xs=zo xs:=by
   intro xs
   induction xs with
   | nil=>intro _; rw [fzL]
   | cons x xs B=>
    intro g;rw [cY,L1] at g;rw [fzL,I g.1 (),B g.2]; rfl
  cases p with
  | tup xs=>rw [fz,q xs g]; rfl
  | lst xs=>rw [fz,q xs g]; rfl
  | fro xs=>rw [fz,q xs g]; rfl
  | ref _=>cases g
  | dic=>cases g
  | _=>rw [fz]
section
variable {H:Hp} {ρ:Tk} {st:Q0} {tr0 rest hs:List aB}
def Qi2 (R:Rel H ρ st) (ht:ρ.tr=tr0 ++ rest) (hh:∀ a,a∈hs->a∈ρ.hid):∀ (k:Nat) {p Y:PV} {v:V},Rep H ρ p v->fz tr0.length st k p=zo Y->Rep H ⟨tr0,hs⟩ Y v:=by
 have out:∀ a,a∉ρ->a∉(⟨tr0,hs⟩:Tk):=λa n z=>by
  rcases z with z | z
  ·exact n (.inl (by rw [ht]; exact M6 _ z))
  ·exact n (.inr (hh a z))
 intro k
 induction k with
 | zero=>intro p Y v r e; rw [fz] at e; cases e
 | succ k ih=>
  have Z:∀ {ps G:List PV} {vs:List V},RepL H ρ ps vs->fzL tr0.length st k ps=zo G->RepL H ⟨tr0,hs⟩ G vs:=by
   intro ps
   induction ps with
   | nil=>intro G vs r e; rw [fzL] at e; cases e; exact r
   | cons x xs a1=>
    intro G vs r e;obtain ⟨v,t,rfl,r1,r2⟩:=r;rw [fzL] at e;cases B:fz tr0.length st k x with
    | none=>rw [B] at e; cases e
    | some y=>
     rw [B] at e;have e:(fzL tr0.length st k xs).map (y :: ·)=zo G:=e;cases q:fzL tr0.length st k xs with
     | none=>rw [q] at e; cases e
     | some ys=>
      rw [q] at e;cases e;exact ⟨v,t,rfl,ih r1 B,a1 r2 q⟩
  intro p Y v r e;cases p with
  | non=>rw [fz] at e; cases e; exact r
  | bl b=>rw [fz] at e; cases e; exact r
  | int i=>rw [fz] at e; cases e; exact r
  | str x=>rw [fz] at e; cases e; exact r
  | tup xs=>
   rw [fz] at e;obtain ⟨a,vs,B,I,J,O⟩:=r;cases q:fzL tr0.length st k xs with
   | none=>rw [q] at e; cases e
   | some ys=>rw [q] at e; cases e; exact ⟨a,vs,B,I,out a J,Z O q⟩
  | lst xs=>
   rw [fz] at e;obtain ⟨a,vs,B,I,J,O⟩:=r;cases q:fzL tr0.length st k xs with
   | none=>rw [q] at e; cases e
   | some ys=>rw [q] at e; cases e; exact ⟨a,vs,B,I,out a J,Z O q⟩
  | fro xs=>
   rw [fz] at e;obtain ⟨a,vs,B,I,J,O⟩:=r;cases q:fzL tr0.length st k xs with
   | none=>rw [q] at e; cases e
   | some ys=>rw [q] at e; cases e; exact ⟨a,vs,B,I,out a J,Z O q⟩
  | dic=>
   rw [fz] at e;cases e;obtain ⟨a,B,I,J⟩:=r;exact ⟨a,B,I,out a J⟩
  | ref i=>
   rw [fz] at e;obtain ⟨a,U,rfl⟩:=r
   by_cases hi:i < tr0.length
   ·rw [bX hi] at e;cases e;rw [ht,O4 hi] at U;exact ⟨a,U,rfl⟩
   ·rw [bY hi] at e
    split at e
    ·rename_i xs a2;obtain ⟨b,vs,f1,f2,f3⟩:=R.lst a2;rw [U] at f1; cases f1;cases q:fzL tr0.length st k xs with
     | none=>rw [q] at e; cases e
     | some ys=>
      rw [q] at e; cases e;refine ⟨a,vs,rfl,f2,λz=>?_,Z f3 q⟩;rcases z with z | z
      ·have z:a∈tr0:=z;obtain ⟨j,hj,ej⟩:=cq z;have g1:ρ.tr[j]?=zo a:=by rw [ht,O4 hj,O2 hj,ej]
       have l1:=O0.mp g1;have l2:=O0.mp U;have:=Q5q R.nd l1.1 l2.1 (l1.2.trans l2.2.symm);omega
      ·exact R.ap a (hh a z) (D8 U)
    ·cases e
mutual
def bel (n:Nat):PV->Prop
 | .tup xs=>Q7g n xs
 | .lst xs=>Q7g n xs
 | .fro xs=>Q7g n xs
 | .ref i=>i < n
 | _=>True
def Q7g (n:Nat):List PV->Prop
 | []=>True
 | x :: xs=>bel n x/\Q7g n xs
end
mutual
theorem Rep.bel:∀ {p:PV} {v:V},Rep H ρ p v->bel ρ.tr.length p
 | .non,_,_=>by simp [Sm.bel]
 | .bl _,_,_=>by simp [Sm.bel]
 | .int _,_,_=>by simp [Sm.bel]
 | .str _,_,_=>by simp [Sm.bel]
 | .tup ps,_,⟨_,_,_,_,_,r⟩=>by rw [Sm.bel]; exact RepL.bel r
 | .lst ps,_,⟨_,_,_,_,_,r⟩=>by rw [Sm.bel]; exact RepL.bel r
 | .fro ps,_,⟨_,_,_,_,_,r⟩=>by rw [Sm.bel]; exact RepL.bel r
 | .ref i,_,⟨_,e,_⟩=>by rw [Sm.bel]; exact (O0.mp e).1
 | .dic,_,_=>by simp [Sm.bel]
theorem RepL.bel:∀ {ps:List PV} {vs:List V},RepL H ρ ps vs->Q7g ρ.tr.length ps
 | [],_,_=>by simp [Q7g]
 | p :: ps,_,⟨_,_,_,B,q⟩=>by rw [Q7g]; exact ⟨Rep.bel B,RepL.bel q⟩
end
mutual
theorem Rep.less (q:ρ.tr=tr0 ++ rest) (I:∀ a,a∈hs->a∈ρ.hid):∀ {p:PV} {v:V},Sm.bel tr0.length p->Rep H ρ p v->Rep H ⟨tr0,hs⟩ p v
 | .non,_,_,r=>r
 | .bl _,_,_,r=>r
 | .int _,_,_,r=>r
 | .str _,_,_,r=>r
 | .tup ps,_,b,⟨a,vs,e,B,G,r⟩=>⟨a,vs,e,B,λz=>G (z.imp (λz=>by rw [q]; exact M6 _ z) (I a)),RepL.less q I (by rw [Sm.bel] at b; exact b) r⟩
 | .lst ps,_,b,⟨a,vs,e,B,G,r⟩=>⟨a,vs,e,B,λz=>G (z.imp (λz=>by rw [q]; exact M6 _ z) (I a)),RepL.less q I (by rw [Sm.bel] at b; exact b) r⟩
 | .fro ps,_,b,⟨a,vs,e,B,G,r⟩=>⟨a,vs,e,B,λz=>G (z.imp (λz=>by rw [q]; exact M6 _ z) (I a)),RepL.less q I (by rw [Sm.bel] at b; exact b) r⟩
 | .ref i,_,b,⟨a,e,J⟩=>⟨a,by rw [Sm.bel] at b; rw [q,O4 b] at e; exact e,J⟩
 | .dic,_,_,⟨a,e,B,G⟩=>⟨a,e,B,λz=>G (z.imp (λz=>by rw [q]; exact M6 _ z) (I a))⟩
theorem RepL.less (q:ρ.tr=tr0 ++ rest) (B:∀ a,a∈hs->a∈ρ.hid):∀ {ps:List PV} {vs:List V},Q7g tr0.length ps->RepL H ρ ps vs->RepL H ⟨tr0,hs⟩ ps vs
 | [],_,_,r=>r
 | p :: ps,_,b,⟨v,t,e,I,G⟩=>by
  rw [Q7g] at b;exact ⟨v,t,e,Rep.less q B b.1 I,RepL.less q B b.2 G⟩
end
end
def Q86 {H':Hp} {ρ':Tk} {st':Q0} (R:Rel H ρ st) (x:Ext H ρ H' ρ') (R':Rel H' ρ' st') (Z:st <+: st'):Ext H ρ H' ρ/\Rel H' ρ st:=by
 obtain ⟨rest,J⟩:=x.pre;obtain ⟨more,Y⟩:=Z;refine ⟨⟨ca _,λ_ h=>h,λ_ h=>.inl h,x.keep,λ_ h=>.inl h,x.old,x.frz⟩,R.len,R.nd,λa U=>let ⟨o,e,n⟩:=R.hd a U; ⟨o,x.keep a o e (R.ap a U),n⟩,R.ap,λi a c h1 h2=>?_⟩
 have hi:i < st.length:=(O0.mp h2).1;have q:=R'.cell i a c (by rw [<- J,O4 (O0.mp h1).1]; exact h1) (by rw [<- Y,O4 hi]; exact h2);have O:=R.cell i a c h1 h2;cases c with
 | lst ps=>
  obtain ⟨vs,I,B⟩:=q;obtain ⟨us,_,G⟩:=O;exact ⟨vs,I,RepL.less (ρ:=ρ') (tr0:=ρ.tr) (hs:=ρ.hid) J.symm x.hidM G.bel B⟩
 | dic ps=>
  obtain ⟨vs,I,B⟩:=q;obtain ⟨us,_,G⟩:=O;exact ⟨vs,I,B.1,RepL.less (ρ:=ρ') (tr0:=ρ.tr) (hs:=ρ.hid) J.symm x.hidM G.2.bel B.2⟩
 | dtp ps=>
  obtain ⟨vs,I,B⟩:=q;obtain ⟨us,_,G⟩:=O;exact ⟨vs,I,B.1,RepL.less (ρ:=ρ') (tr0:=ρ.tr) (hs:=ρ.hid) J.symm x.hidM G.2.bel B.2⟩
 | frd ps=>
  obtain ⟨vs,I,B⟩:=q;obtain ⟨us,_,G⟩:=O;exact ⟨vs,I,B.1,RepL.less (ρ:=ρ') (tr0:=ρ.tr) (hs:=ρ.hid) J.symm x.hidM G.2.bel B.2⟩
 | obj C ps=>
  obtain ⟨vs,I,B⟩:=q;obtain ⟨us,_,G⟩:=O;exact ⟨vs,I,B.1,RepL.less (ρ:=ρ') (tr0:=ρ.tr) (hs:=ρ.hid) J.symm x.hidM G.2.bel B.2⟩
abbrev FN:=List PV->Q0->Res PV
variable {FF:FN}
open Classical in
def fin (st:Q0) (v:PV) (st':Q0):Res PV:=if st <+: st' then okO st (fz st.length st' 16 v) else .ok v st'
open Classical in
def Qsf (st:Q0) (x:Exc) (st':Q0):Res PV:=if st <+: st' then (match x.fs with
 | none=>.exc x st
 | some (n,p)=>match fz st.length st' 16 p with
  | some q=>.exc ⟨x.cls,zo (n,q)⟩ st
  | none=>.stuck) else .exc x st'
def Qn (body:MS) (nl:Nat):FN:=λps st=>match body (ps.map zo ++ bg (nl - ps.length) zl) st with
 | .rt v st'=>fin st v st'
 | .nx _ st'=>fin st .non st'
 | .exc x st'=>Qsf st x st'
 | _=>.stuck
def Qcg {st':Q0} (R:Rel H ρ st) (h:Acc mg E H ρ (QV Q) (fin st p st')):∀ v H' ρ',Ext H ρ H' ρ'->Rel H' ρ' st'->Rep H' ρ' p v->Q v H':=λv H' ρ' x G r=>by
 unfold fin at h
 by_cases B:st <+: st'
 ·rw [bX B] at h;cases e:fz st.length st' 16 p with
  | none=>rw [e] at h; exact h.elim
  | some q=>
   rw [e] at h;obtain ⟨J,R2⟩:=Q86 R x G B;obtain ⟨rest,I⟩:=x.pre;rw [<- R.len] at e;exact h H' ρ J R2 v (Qi2 (tr0:=ρ.tr) (hs:=ρ.hid) G I.symm x.hidM 16 r e)
 ·rw [bY B] at h;exact h H' ρ' x G v r
def spF (mg:zAG) (n:Nat) (F:FN):Sp:=λvs H Q E=>vs.length=n/\∃ ρ st ps,Rel H ρ st/\RepL H ρ ps vs/\Acc mg E H ρ (QV Q) (F ps st)
def Q5c (r:RepL H ρ ps vs):EnvR H ρ (ps.map zo ++ bg (N.length - ps.length) zl) (L2.start N vs):=by
 have hl:=r.length;unfold L2.start;refine ⟨by simp [hl],λi p e=>?_⟩
 by_cases hi:i < ps.length
 ·rw [O4 (by simpa using hi),E2] at e;rw [O4 (by simp; omega),E2];cases q:ps[i]? with
  | none=>rw [q] at e; cases e
  | some I=>
   rw [q] at e;cases e;obtain ⟨v,G,B⟩:=r.get q;exact ⟨v,by rw [G]; rfl,B⟩
 ·rw [D0 (by simpa using hi),gB] at e
  split at e <;> cases e
section
variable {P:aL} {w:aK} {K:be} {mg:zAG} {base:Heap}
def Qsc {qual:Str} {st:aM} {f:aB} {ps:List Str} {k:Nat} {m:MS} (F:Fun K x qual st f fd) (S:FnScope N ps (Q9 st))
  (hb:∀ (J:aA) (A:aP) (outer:List eG) (s:aC) (H:Hp) (E:XK),Room k (A.deeper (eH qual (Q9 st) s.heap.objs.size f J))->SimB (cxD P w K mg base N qual (Q9 st) f J A outer s H E) E (Zz st) m) :
  FnOk P w K mg base (CXD P w) (k + 1) f fd ps (spF mg ps.length (Qn m N.length)):=by
 refine Fun.okD F S (λvs H Q E h=>h.1) λJ A outer s H vs Q E hr a1=>⟨_,Q3m,?_⟩
 obtain ⟨hl,ρ,I,Z,R,rl,B⟩:=a1;refine (hb J A outer s H E hr).run _ (L2.start N vs) H ρ I _ R (Q5c rl) ?_;unfold Qn at B;cases U:m (Z.map zo ++ bg (N.length - Z.length) zl) I with
 | rt v G=>rw [U] at B; exact Qcg R B
 | nx Γ G=>rw [U] at B; exact λa2 H' ρ' O Y G'=>Qcg R B .non H' ρ' O Y rfl
 | bk Γ G=>rw [U] at B; exact B.elim
 | ct Γ G=>rw [U] at B; exact B.elim
 | stuck=>rw [U] at B; exact B.elim
 | exc y G=>
  rw [U] at B;have B:Acc mg E H ρ (QV Q) (Qsf I y G):=B;intro C dv H' ρ' hm O Y hf;unfold Qsf at B
  by_cases hp:I <+: G
  ·rw [bX hp] at B;obtain ⟨x2,R2⟩:=Q86 R O Y hp;obtain ⟨cls,fs⟩:=y;cases fs with
   | none=>exact B C dv H' ρ hm x2 R2 hf
   | some np=>
    obtain ⟨nm,p⟩:=np;simp only at B;cases e:fz I.length G 16 p with
    | none=>rw [e] at B; exact B.elim
    | some q=>
     rw [e] at B;obtain ⟨rest,ht⟩:=O.pre;rw [<- R.len] at e;obtain ⟨dx,v,e1,e2,e3,e4⟩:=hf;refine B C dv H' ρ hm x2 R2 ⟨dx,v,e1,e2,λz=>e3 (z.imp (λz=>by rw [<- ht]; exact M6 _ z) (O.hidM dx)),Qi2 (tr0:=ρ.tr) (hs:=ρ.hid) Y ht.symm O.hidM 16 e4 e⟩
  ·rw [bY hp] at B;exact B C dv H' ρ' hm O Y hf
end
def Qnd {P:aL} {w:aK} {mg:zAG} {base:Heap} {qual:Str} {st:aM} {f:aB} {ps:List Str} {k nl:Nat} {m:MS} (F:Fun K x qual st f fd) (S:FnScope N ps (Q9 st)) (I:ps.length=n) (B:N.length=nl) (J:FF=Qn m nl)
  (G:∀ (q:aA) (A:aP) (outer:List eG) (s:aC) (H:Hp) (E:XK),Room k (A.deeper (eH qual (Q9 st) s.heap.objs.size f q))->SimB (cxD P w K mg base N qual (Q9 st) f q A outer s H E) E (Zz st) m) :
  FnOk P w K mg base (CXD P w) (k + 1) f fd ps (spF mg n FF):=by
 subst I; subst B; subst J;exact Qsc F S G
structure DefS (P:aL) (w:aK) (K:be) (mg:zAG) (base:Heap) (k:Nat) (x:Str) (n:Nat) (F:FN):Prop where
 ex:∃ (f:aB) (fd:aR) (ps:List Str),FnOk P w K mg base (CXD P w) k f fd ps (spF mg n F)/\mg x=zo (.ref f)/\cS K (.ref f)=zi/\Binds K fd ps []/\ps.length=n
def Qg (n:Nat) (F:FN) (mr:Gam->Q0->Res (List PV)):ME:=λΓ st=>(mr Γ st).bind λps st1=>if ps.length=n then F ps st1 else .stuck
section
variable {X:Cx} {E:XK} {k n:Nat} {x:Str} {F:FN} {p pos:Pos} {e:aH} {es:List aH} {mr:Gam->Q0->Res (List PV)}
def Qkd (D:DefS X.prog X.w X.K X.mg X.base k x n F) (hr:Room k X.A) (Z:Q4r (CXD X.prog X.w) X E) (hg:Gl X x) (Y:SimA X E (e :: es) mr) (J:(x == ("__debug__" : Str))=zb)
  (he:aQ (e :: es) X.env=(zb,aO e X.env) :: aQ es X.env) (B:(ag pos (aQ es X.env)).any (·.1)=zb):SimE X E (.Call (.Name x p) (e :: es) [] pos) (Qg n F mr):=by
 obtain ⟨f,fd,ps,hF,hm,hk,hb,hl⟩:=D.ex;exact ⟨λΓ σ H ρ st Q R G h=>WE.of (Qmc hF hr hg hm hk hb .nil Z Q1w J he B) (Y.use R G h.bind λU q H1 ρ1 vs x1 R1 G1 O h1=>by
  by_cases I:U.length=n
  ·rw [bX I] at h1;show spF X.mg n F (vs ++ []) H1 Q E;rw [E9];exact ⟨by rw [<- O.length]; exact I,ρ1,q,U,R1,O,h1⟩
  ·rw [bY I] at h1; exact h1.elim)⟩
end
end
@[simp] theorem J1 (a:α) (st:Q0) (f:α->Q0->Res β):(Res.ok a st).bind f=f a st:=rfl
@[simp] theorem Qsu (f:α->Q0->Res β):(Res.stuck:Res α).bind f=.stuck:=rfl
@[simp] theorem Qwv (x:Exc) (st:Q0) (f:α->Q0->Res β):(Res.exc x st:Res α).bind f=.exc x st:=rfl
@[simp] theorem Yc (a:α) (st:Q0) (f:α->Q0->SR):(Res.ok a st).sbind f=f a st:=rfl
@[simp] theorem Qnu (f:α->Q0->SR):(Res.stuck:Res α).sbind f=.stuck:=rfl
@[simp] theorem Qtb (x:Exc) (st:Q0) (f:α->Q0->SR):(Res.exc x st:Res α).sbind f=.exc x st:=rfl
@[simp] theorem Qxb (i:Nat) (Γ:Gam) (st:Q0):Q1 i Γ st=(match Γ[i]? with | some (zo p)=>.ok p st | _=>.stuck):=rfl
@[simp] theorem Qyw (p:PV) (Γ:Gam) (st:Q0):mC p Γ st=.ok p st:=rfl
@[simp] theorem Qru (o:OP) (a b:ME) (Γ:Gam) (st:Q0):mOp o a b Γ st=(a Γ st).bind λx q=>(b Γ q).bind λy B=>o B x y:=rfl
@[simp] theorem Qyp (b:Bool) (st:Q0):asB (.bl b) st=.ok b st:=rfl
@[simp] theorem Qp6 (m:ME) (Γ:Gam) (st:Q0):toB m Γ st=(m Γ st).bind asB:=rfl
def Qpv {α:Type} (x:PV) (A B:Res α):Res α:=match x with
 | .bl zi=>A
 | .bl zb=>B
 | _=>.stuck
@[simp] theorem Qx0 (b:Bool) (A B:Res α):Qpv (.bl b) A B=if b=zi then A else B:=by cases b <;> rfl
@[simp] theorem Qtj (o o':OP) (a b c:ME) (Γ:Gam) (st:Q0):qd o o' a b c Γ st=(a Γ st).bind λx B=>(b Γ B).bind λy G=>(o G x y).bind λk q=>Qpv k ((c Γ q).bind λz I=>o' I y z) (.ok (.bl zb) q):=by
 unfold qd;refine congrArg _ (funext λx=>funext λB=>congrArg _ (funext λy=>funext λG=>congrArg _ (funext λk=>funext λq=>?_)))
 cases k with
 | bl b=>cases b <;> rfl
 | _=>rfl
@[simp] theorem Qc7 (a b:ME) (Γ:Gam) (st:Q0):jr a b Γ st=(a Γ st).bind λx q=>Qpv x (b Γ q) (.ok (.bl zb) q):=by
 unfold jr;refine congrArg _ (funext λx=>funext λq=>?_);cases x with
 | bl b=>cases b <;> rfl
 | _=>rfl
@[simp] theorem Qxc (a:ME) (Γ:Gam) (st:Q0):Qn2 a Γ st=(a Γ st).bind λx q=>(match x with | .bl k=>.ok (.bl (!k)) q | _=>.stuck):=rfl
@[simp] theorem Q7s (a b:MT) (Γ:Gam) (st:Q0):V8 a b Γ st=(a Γ st).bind λk q=>if k=zi then b Γ q else .ok zb q:=rfl
@[simp] theorem Qbk (a b:MT) (Γ:Gam) (st:Q0):Vw a b Γ st=(a Γ st).bind λk q=>if k=zi then .ok zi q else b Γ q:=rfl
@[simp] theorem Qfg (a:MT) (Γ:Gam) (st:Q0):Yb a Γ st=(a Γ st).bind λk q=>.ok (!k) q:=rfl
@[simp] theorem Qyf (c:MT) (a b:ME) (Γ:Gam) (st:Q0):mIf c a b Γ st=(c Γ st).bind λk q=>if k=zi then a Γ q else b Γ q:=rfl
@[simp] theorem Qxd (Γ:Gam) (st:Q0):Q7 Γ st=.ok [] st:=rfl
@[simp] theorem Qhn (m:ME) (mr:ML) (Γ:Gam) (st:Q0):Q2 m mr Γ st=(m Γ st).bind λp q=>(mr Γ q).bind λps B=>.ok (p :: ps) B:=rfl
@[simp] theorem Qmy (mr:ML) (Γ:Gam) (st:Q0):Q01 mr Γ st=(mr Γ st).bind λps q=>if ps.length<=lim then .ok (.tup ps) q else .stuck:=rfl
@[simp] theorem Qxe (mr:ML) (Γ:Gam) (st:Q0):Q8t mr Γ st=(mr Γ st).bind λps q=>if ps.length<=lim then .ok (.lst ps) q else .stuck:=rfl
@[simp] theorem Qvv (mr:ML) (Γ:Gam) (st:Q0):y0 mr Γ st=(mr Γ st).bind λps q=>if ps.length<=lim then .ok ps q else .stuck:=rfl
@[simp] theorem Qye (m:ME) (l h:Gam->Q0->Res (Option Int)) (Γ:Gam) (st:Q0):mSl m l h Γ st=(m Γ st).bind λp B=>(l Γ B).bind λlo G=>(h Γ G).bind λhi q=>oSl q p lo hi:=rfl
@[simp] theorem Qrv (Γ:Gam) (st:Q0):X2 Γ st=.ok zl st:=rfl
@[simp] theorem Qvt (m:ME) (Γ:Gam) (st:Q0):jn m Γ st=(m Γ st).bind λp q=>(match p with | .int i=>.ok (zo i) q | _=>.stuck):=rfl
@[simp] theorem Qhp (o:CF) (mr:ML) (Γ:Gam) (st:Q0):Qj o mr Γ st=(mr Γ st).bind λps q=>o q ps:=rfl
@[simp] theorem Qxf (T:String) (m:ME) (Γ:Gam) (st:Q0):qc T m Γ st=(m Γ st).bind λp q=>if Ke q p=zi then .stuck else .ok (.bl (isI T (dpv q p))) q:=rfl
@[simp] theorem Qwd (st:Q0):Ke st .non=zb:=rfl
@[simp] theorem Qxh (st:Q0) (b:Bool):Ke st (.bl b)=zb:=rfl
@[simp] theorem Qwf (st:Q0) (b:Int):Ke st (.int b)=zb:=rfl
@[simp] theorem Qwb (st:Q0) (b:Str):Ke st (.str b)=zb:=rfl
@[simp] theorem Qwa (st:Q0) (b:List PV):Ke st (.tup b)=zb:=rfl
@[simp] theorem Qwe (st:Q0) (b:List PV):Ke st (.lst b)=zb:=rfl
@[simp] theorem Qwg (st:Q0) (b:List PV):Ke st (.fro b)=zb:=rfl
@[simp] theorem Qwh (st:Q0):Ke st .dic=zb:=rfl
@[simp] theorem Qwc (st:Q0) (i:Nat):Ke st (.ref i)=(match st[i]? with | some (.frd _)=>zi | some (.obj _ _)=>zi | _=>zb):=rfl
@[simp] theorem Qxp (st:Q0):dpv st .non=.non:=rfl
@[simp] theorem Qym (st:Q0) (b:Bool):dpv st (.bl b)=(.bl b):=rfl
@[simp] theorem Qxr (st:Q0) (b:Int):dpv st (.int b)=(.int b):=rfl
@[simp] theorem Qxn (st:Q0) (b:Str):dpv st (.str b)=(.str b):=rfl
@[simp] theorem Qxm (st:Q0) (b:List PV):dpv st (.tup b)=(.tup b):=rfl
@[simp] theorem Qxq (st:Q0) (b:List PV):dpv st (.lst b)=(.lst b):=rfl
@[simp] theorem Qxs (st:Q0) (b:List PV):dpv st (.fro b)=(.fro b):=rfl
@[simp] theorem Qyk (st:Q0):dpv st .dic=.dic:=rfl
@[simp] theorem Qyx (st:Q0) (i:Nat):dpv st (.ref i)=(match st[i]? with | some (.dic _)=>.dic | some (.dtp _)=>.dic | _=>.ref i):=rfl
@[simp] theorem Qmx (m:ML) (Γ:Gam) (st:Q0):Wr m Γ st=(m Γ st).bind λps q=>.ok (.lst ps) q:=rfl
@[simp] theorem Qmz (m:ML) (Γ:Gam) (st:Q0):jj m Γ st=(m Γ st).bind λps q=>.ok (.ref q.length) (q ++ [.lst ps]):=rfl
@[simp] theorem Qe1 (cap:zAE) (ga:GA) (mi:MI) (mt:MT) (me:ME) (Γ:Gam) (st:Q0):J3 cap ga mi mt me Γ st=(mi Γ st).bind λB q=>noX (J0 ga mt me B.2 (Jp cap Γ) B.1 q):=rfl
@[simp] theorem Qvs (Γ:Gam) (st:Q0):Z1 Γ st=.ok zi st:=rfl
@[simp] theorem Qe3 (n:Nat) (F:FN) (mr:ML) (Γ:Gam) (st:Q0):Qg n F mr Γ st=(mr Γ st).bind λps q=>if ps.length=n then F ps q else .stuck:=rfl
@[simp] theorem Qvu (Γ:Gam) (st:Q0):Qs Γ st=.nx Γ st:=rfl
@[simp] theorem Yf (a b:MS) (Γ:Gam) (st:Q0):Q5 a b Γ st=(match a Γ st with | .nx q B=>b q B | r=>r):=rfl
@[simp] theorem Q03 (m:ME) (Γ:Gam) (st:Q0):Xs m Γ st=(m Γ st).sbind λ_ q=>.nx Γ q:=rfl
@[simp] theorem Qc4 (m:ME) (Γ:Gam) (st:Q0):Qz m Γ st=(m Γ st).sbind λp q=>.rt p q:=rfl
@[simp] theorem Qn0 (i:Nat) (m:ME) (Γ:Gam) (st:Q0):Qr i m Γ st=(m Γ st).sbind λp q=>.nx (Γ.set i (zo p)) q:=rfl
@[simp] theorem Q70 (c:MT) (a b:MS) (Γ:Gam) (st:Q0):J9 c a b Γ st=(c Γ st).sbind λk q=>if k=zi then a Γ q else b Γ q:=rfl
@[simp] theorem Q2c (ga:GA) (mi:MI) (b:MS) (Γ:Gam) (st:Q0):Vi ga mi b Γ st=(mi Γ st).sbind λB q=>Jn ga b B.2 B.1 Γ q:=rfl
@[simp] theorem Qn1 (m:ME) (Γ:Gam) (st:Q0):Vv m Γ st=(m Γ st).bind λp q=>(match W6 q p with | some (xs,w)=>if xs.length<=lim then .ok (xs,w) q else .stuck | none=>.stuck):=rfl
@[simp] theorem Qap (mr:ML) (Γ:Gam) (st:Q0):Zg mr Γ st=(mr Γ st).bind λps q=>(match ps with | [.int j]=>if -(lim:Int)<=j/\j<=lim then .ok (Jr 0 j.toNat,[]) q else .stuck | _=>.stuck):=rfl
@[simp] theorem Qan (mr:ML) (Γ:Gam) (st:Q0):zj mr Γ st=(mr Γ st).bind λps q=>(match ps with | [.int i,.int j]=>if -(lim:Int)<=i/\i<=lim/\-(lim:Int)<=j/\j<=lim then .ok (Jr i (j - i).toNat,[]) q else .stuck | _=>.stuck):=rfl
@[simp] theorem Qxa (mr:ML) (Γ:Gam) (st:Q0):Q8r mr Γ st=(mr Γ st).bind λps B=>(match ps with | [p,q]=>(match W6 B p,W6 B q with | some (xs,w),zo (ys,G)=>if xs.length<=lim then .ok (Q1u xs ys,w ++ G) B else .stuck | _,_=>.stuck) | _=>.stuck):=rfl
@[simp] theorem Qvw (mr:ML) (Γ:Gam) (st:Q0):Qc5 mr Γ st=(mr Γ st).bind λps q=>(match ps with | [p]=>(match W6 q p with | some (xs,w)=>if xs.length<=lim then .ok (K0 0 xs,w) q else .stuck | none=>.stuck) | _=>.stuck):=rfl
@[simp] theorem Qrw (f:MF) (mo:ME) (mr:ML) (Γ:Gam) (st:Q0):mBM f mo mr Γ st=(mo Γ st).bind λp q=>(match Z9 q p with | some _=>(mr Γ q).bind λps B=>f B p ps | none=>.stuck):=rfl
@[simp] theorem Qn3 (ga:GA) (m:ME) (Γ:Gam) (st:Q0):Qhr ga m Γ st=(m Γ st).sbind λp B=>(match ga p Γ with | some q=>.nx q B | none=>.stuck):=rfl
@[simp] theorem Qdy (mo mi m:ME) (Γ:Gam) (st:Q0):Uu mo mi m Γ st=(m Γ st).sbind λp B=>(mo Γ B).sbind λo G=>(mi Γ G).sbind λi q=>(match Uf q o i p with | some I=>.nx Γ I | none=>.stuck):=rfl
@[simp] theorem Qtm (i:Nat) (p:PV) (Γ:Gam):Q3 i p Γ=zo (Γ.set i (zo p)):=rfl
@[simp] theorem Qw7 (Γ:Gam):Z3 [] Γ=zo Γ:=rfl
@[simp] theorem Qtn (g:GA) (gs:GAs) (p:PV) (r:List PV) (Γ:Gam):Qa g gs (p :: r) Γ=(g p Γ).bind (gs r):=rfl
@[simp] theorem Qw6 (gs:GAs) (ps:List PV) (Γ:Gam):Z2 gs (.tup ps) Γ=gs ps Γ:=rfl
@[simp] theorem Qyc (a:α) (st:Q0):noX (Res.ok a st)=.ok a st:=rfl
@[simp] theorem Qte :noX (Res.stuck:Res α)=.stuck:=rfl
@[simp] theorem Qvf (st:Q0) (a:α):okO st (zo a)=.ok a st:=rfl
@[simp] theorem Qvg (st:Q0):okO st (zl:Option α)=.stuck:=rfl
@[simp] theorem Qyv (g:Int->Int->PV) (st:Q0) (a b:Int):oI g st (.int a) (.int b)=.ok (g a b) st:=rfl
@[simp] theorem Qvm (st:Q0) (a b:Int):Y1 st (.int a) (.int b)=.ok (.int (a + b)) st:=rfl
@[simp] theorem Q8h (st:Q0) (a b:List PV):Y1 st (.tup a) (.tup b)=if a.length + b.length<=lim then .ok (.tup (a ++ b)) st else .stuck:=rfl
@[simp] theorem Q8g (st:Q0) (a b:Int):qy st (.int a) (.int b)=if (-(2 ^ 64) < a/\a < 2 ^ 64)\/(-(2 ^ 64) < b/\b < 2 ^ 64) then .ok (.int (a * b)) st else .stuck:=rfl
@[simp] theorem Qvi (st:Q0) (xs:List PV) (b:Int):qy st (.tup xs) (.int b)=if xs≠[]/\1<=b/\xs.length * b.toNat<=4096 then .ok (.tup (bg b.toNat xs).flatten) st else .stuck:=rfl
@[simp] theorem Qvj (st:Q0) (a b:Int):xx st (.int a) (.int b)=if 0 < b then .ok (.int (a % b)) st else .stuck:=rfl
@[simp] theorem Qvk (st:Q0) (a b:Int):Qmq st (.int a) (.int b)=if 0 < b/\b < 1073741824 then .ok (.int (a / b)) st else .stuck:=rfl
@[simp] theorem Qvh (st:Q0) (a b:Int):Q8f st (.int a) (.int b)=if 0<=b/\b<=1000000/\a.natAbs < 2 ^ 64 then .ok (.int (a ^ b.toNat)) st else .stuck:=rfl
@[simp] theorem Qbw (st:Q0) (a b:Int):oLt st (.int a) (.int b)=.ok (.bl (decide (a < b))) st:=rfl
@[simp] theorem Qx9 (st:Q0) (a b:Int):oEq st (.int a) (.int b)=.ok (.bl (a == b)) st:=rfl
@[simp] theorem Qx5 (st:Q0) (a b:Int):oNe st (.int a) (.int b)=.ok (.bl (!(a == b))) st:=rfl
@[simp] theorem Qyb (st:Q0) (a b:Bool):oEq st (.bl a) (.bl b)=.ok (.bl (a == b)) st:=rfl
@[simp] theorem Qy9 (st:Q0) (a b:Bool):oNe st (.bl a) (.bl b)=.ok (.bl (!(a == b))) st:=rfl
@[simp] theorem Qx8 (st:Q0) (a b:Str):oEq st (.str a) (.str b)=.ok (.bl (a == b)) st:=rfl
@[simp] theorem Qx4 (st:Q0) (a b:Str):oNe st (.str a) (.str b)=.ok (.bl (!(a == b))) st:=rfl
@[simp] theorem Qx7 (st:Q0) (p:PV):oIs st p .non=.ok (.bl (Ka p)) st:=rfl
@[simp] theorem Qya (st:Q0) (a b:Bool):oIs st (.bl a) (.bl b)=.ok (.bl (a == b)) st:=rfl
@[simp] theorem Qrn (st:Q0) (p:PV):V6 st p .non=.ok (.bl (!Ka p)) st:=rfl
@[simp] theorem Qtc (st:Q0) (a b:Bool):V6 st (.bl a) (.bl b)=.ok (.bl (a != b)) st:=rfl
@[simp] theorem Qtk (st:Q0) (xs:List PV):qm st (.lst xs)=zo xs:=rfl
@[simp] theorem Qar (st:Q0) (xs:List PV):Z9 st (.lst xs)=zo xs:=rfl
@[simp] theorem Qry (st:Q0) (xs:List PV):Z9 st (.fro xs)=zo xs:=rfl
@[simp] theorem Q5h (st:Q0) (xs:List PV):Wp st (.lst xs)=zo xs:=rfl
@[simp] theorem Qta (st:Q0) (xs:List PV):Wp st (.fro xs)=zo xs:=rfl
@[simp] theorem Q5g (st:Q0) (xs:List PV):Wp st (.tup xs)=zo xs:=rfl
@[simp] theorem Qt8 (st:Q0) (xs:List PV):W6 st (.lst xs)=zo (xs,[]):=rfl
@[simp] theorem Qt9 (st:Q0) (xs:List PV):W6 st (.fro xs)=zo (xs,[]):=rfl
@[simp] theorem Qt7 (st:Q0) (xs:List PV):W6 st (.tup xs)=zo (xs,[]):=rfl
def Qe4 {i:Nat} (h:st[i]?=zo (.lst xs)):qm st (.ref i)=zo xs:=by simp only [qm,h]
def Q5e {i:Nat} (h:st[i]?=zo (.lst xs)):W6 st (.ref i)=zo (xs,[(i,.lst xs)]):=by simp only [W6,h]
@[simp] theorem zg (st:Q0) (xs:List PV) (i:Int):oIx st (.tup xs) (.int i)=okO st (atI xs i):=rfl
@[simp] theorem Qbx (st:Q0) (xs:List PV) (i:Int):oIx st (.lst xs) (.int i)=okO st (atI xs i):=rfl
@[simp] theorem Qx6 (st:Q0) (xs:List PV) (i:Int):oIx st (.fro xs) (.int i)=okO st (atI xs i):=rfl
@[simp] theorem Qx1 (st:Q0) (xs:List PV) (l h:Option Int):oSl st (.tup xs) l h=.ok (.tup (cut xs l h)) st:=rfl
@[simp] theorem Qx2 (st:Q0) (xs:List PV) (l h:Option Int):oSl st (.lst xs) l h=.ok (.lst (cut xs l h)) st:=rfl
@[simp] theorem Qx3 (st:Q0) (xs:List PV) (l h:Option Int):oSl st (.fro xs) l h=.ok (.lst (cut xs l h)) st:=rfl
@[simp] theorem Q4k (st:Q0) (xs:List PV):J4 st [.tup xs]=.ok (.int xs.length) st:=rfl
@[simp] theorem Qwt (st:Q0) (xs:List PV):J4 st [.lst xs]=.ok (.int xs.length) st:=rfl
@[simp] theorem Qiu (st:Q0) (xs:List PV):J4 st [.fro xs]=.ok (.int xs.length) st:=rfl
@[simp] theorem Qtp (st:Q0) (xs:List PV):Uy st [.tup xs]=.ok (.lst xs) st:=rfl
@[simp] theorem Qtq (st:Q0) (xs:List PV):Uy st [.lst xs]=.ok (.lst xs) st:=rfl
@[simp] theorem Qtr (st:Q0) (xs:List PV):Uy st [.fro xs]=.ok (.lst xs) st:=rfl
@[simp] theorem Qss (st:Q0) (xs:List PV):qi st [.tup xs]=.ok (.tup xs) st:=rfl
@[simp] theorem Qst (st:Q0) (xs:List PV):qi st [.lst xs]=.ok (.tup xs) st:=rfl
@[simp] theorem Qiv (g:List Bool->PV) (st:Q0) (bs:List Bool):K6 g st [.lst (bs.map .bl)]=.ok (g bs) st:=by
 simp only [K6,Q5h,eI,Qnp]
@[simp] theorem Qf1 (g:List Int->Option PV) (st:Q0) (ns:List Int):Vp g st [.lst (ns.map .int)]=okO st (g ns):=by
 simp only [Vp,Q5h,eI,Q48]
@[simp] theorem Qts (g:List Int->Option PV) (st:Q0) (ns:List Int):Vp g st [.tup (ns.map .int)]=okO st (g ns):=by
 simp only [Vp,Q5g,eI,Q48]
@[simp] theorem Q9n (st:Q0) (a b:Int):Qis st [.int a,.int b]=.ok (.int (if b > a then b else a)) st:=rfl
@[simp] theorem Qws (st:Q0) (a b:Int):Qir st [.int a,.int b]=.ok (.int (if b < a then b else a)) st:=rfl
@[simp] theorem Qtu (st:Q0):wOk [] st=True:=by simp [wOk]
@[simp] theorem Qb0 (st:Q0) (b:Bool):fin st (.bl b) st=.ok (.bl b) st:=by simp [fin,fz]
@[simp] theorem Qxk (st:Q0) (b:Int):fin st (.int b) st=.ok (.int b) st:=by simp [fin,fz]
@[simp] theorem Qxj (st:Q0):fin st .non st=.ok .non st:=by simp [fin,fz]
@[simp] theorem Qxi (st:Q0) (b:Str):fin st (.str b) st=.ok (.str b) st:=by simp [fin,fz]
def Qv:lim=1000000:=rfl
def Yw (g f:α->PV) {w:Wt} {Γ0:Gam} (G:wOk w st) {ys:List α} (h:∀ y∈ys,∃ q,ga (g y) Γ0=zo q/\me q st=.ok (f y) st):J0 ga Z1 me w Γ0 (ys.map g) st=.ok (ys.map f) st:=by
 induction ys with
 | nil=>simp [J0,G]
 | cons y ys B=>
  obtain ⟨q,h1,h2⟩:=h y E3;have B:=B λz hz=>h z (O7 _ hz)
  rw [O5,J0,bX G,h1];simp [h2,B]
def U8 (g f:α->PV) (t:α->Bool) {w:Wt} {Γ0:Gam} (I:wOk w st) {ys:List α} (h:∀ y∈ys,∃ q,ga (g y) Γ0=zo q/\mt q st=.ok (t y) st/\(t y=zi->me q st=.ok (f y) st)):J0 ga mt me w Γ0 (ys.map g) st=.ok ((ys.filter t).map f) st:=by
 induction ys with
 | nil=>simp [J0,I]
 | cons y ys B=>
  obtain ⟨q,h1,h2,J⟩:=h y E3;have B:=B λz hz=>h z (O7 _ hz)
  rw [O5,J0,bX I,h1];simp only [h2,J1,B];cases G:t y with
  | true=>simp [J G,G,B]
  | false=>simp [G]
@[simp] theorem Qwu (g:List Bool->PV) (st:Q0) (ys:List α) (b:α->Bool):K6 g st [.lst (ys.map λy=>.bl (b y))]=.ok (g (ys.map b)) st:=by
 rw [show (ys.map λy=>PV.bl (b y))=(ys.map b).map .bl by rw [G7]; rfl,Qiv]
@[simp] theorem X9 (g:List Int->Option PV) (st:Q0) (ys:List α) (b:α->Int):Vp g st [.lst (ys.map λy=>.int (b y))]=okO st (g (ys.map b)):=by
 rw [show (ys.map λy=>PV.int (b y))=(ys.map b).map .int by rw [G7]; rfl,Qf1]
def Yu (g:α->PV) {xs:List α} (I:Nat->Gam->Q0->Prop) {ga:GA} {body:MS} {w:Wt} (O:∀ i Γ st,I i Γ st->wOk w st)
  (h:∀ (i:Nat) x Γ st,xs[i]?=zo x->I i Γ st->∃ G,ga (g x) Γ=zo G/\∃ B J,body G st=.nx B J/\I (i + 1) B J) {Γ:Gam} {st:Q0} (h0:I 0 Γ st):∃ q st',Jn ga body w (xs.map g) Γ st=.nx q st'/\I xs.length q st':=by
 induction xs generalizing I Γ st with
 | nil=>exact ⟨Γ,st,by simp [Jn,O 0 Γ st h0],h0⟩
 | cons x xs ih=>
  obtain ⟨G,h1,B,J,Z,i2⟩:=h 0 x Γ st rfl h0;obtain ⟨q,st',Y,i3⟩:=ih (λi=>I (i + 1)) (λi Γ st z=>O (i + 1) Γ st z) (λi y Γ st U z=>h (i + 1) y Γ st (by simpa using U) z) i2
  refine ⟨q,st',?_,i3⟩;rw [O5,Jn,bX (O 0 Γ st h0),h1];simp only [Z];exact Y
def Q61 (g:α->PV) {xs:List α} (I:List α->Gam->Q0->Prop) {ga:GA} {body:MS} {w:Wt} (Y:∀ pre Γ st,I pre Γ st->wOk w st)
  (h:∀ pre x q Γ st,xs=pre ++ x :: q->I pre Γ st->∃ O,ga (g x) Γ=zo O/\∃ G J,body O st=.nx G J/\I (pre ++ [x]) G J) {Γ:Gam} {st:Q0} (h0:I [] Γ st):∃ B st',Jn ga body w (xs.map g) Γ st=.nx B st'/\I xs B st':=by
 have U:∀ (q pre:List α) (Γ:Gam) (st:Q0),xs=pre ++ q->I pre Γ st->∃ B st',Jn ga body w (q.map g) Γ st=.nx B st'/\I xs B st':=by
  intro q
  induction q with
  | nil=>intro pre Γ st e i; exact ⟨Γ,st,by simp [Jn,Y pre Γ st i],by rw [e,E9]; exact i⟩
  | cons x q ih=>
   intro pre Γ st e i;obtain ⟨O,h1,G,J,e2,i2⟩:=h pre x q Γ st e i;obtain ⟨B,st',Z,i3⟩:=ih (pre ++ [x]) G J (by rw [e]; simp) i2;refine ⟨B,st',?_,i3⟩;rw [O5,Jn,bX (Y pre Γ st i),h1];simp only [e2];exact Z
 exact U xs [] Γ st rfl h0
def Q5k (lo:Int) (n:Nat):Jr lo n=(bc n).map λk=>.int (lo + (k:Int)):=rfl
def Q7m (f:α->PV) (g:β->PV) (xs:List α) (ys:List β):Q1u (xs.map f) (ys.map g)=(xs.zip ys).map λz=>.tup [f z.1,g z.2]:=by
 rw [Q6g,List.zip_map,G7]; rfl
theorem Q64 {α:Type} (f:α->PV):∀ (n:Nat) (xs:List α),K0 n (xs.map f)=(xs.zipIdx n).map λz=>.tup [.int (z.2:Nat),f z.1]
 | n,[]=>rfl
 | n,x :: xs=>by rw [O5,K0,Q64 f (n + 1) xs]; rfl
def zr (f:α->PV) (xs:List α) (i:Int):atI (xs.map f) i=(atI xs i).map f:=by
 unfold atI;rw [O3];cases ixN xs.length i with
 | none=>rfl
 | some j=>simp [E2]
def atI_get {xs:List α} {i:Nat} {x:α} (h:xs[i]?=zo x):atI xs (i:Int)=zo x:=by
 have hl:=(O0.mp h).1;unfold atI ixN;rw [bX (),bX ()];simpa using h
def Qci (f:α->PV) (xs:List α) (l h:Option Int):cut (xs.map f) l h=(cut xs l h).map f:=by
 unfold cut;rw [O3,<- hC,<- hJ]
def Yn (n:Nat):Jr 0 n=(bc n).map λ(k:Nat)=>PV.int (k:Int):=by
 unfold Jr;refine M9 λk _=>?_
 rw [Int.zero_add]
@[simp] theorem Qxt (st l:List α) (c:α):(st ++ c :: l)[st.length]?=zo c:=by
 rw [D0 (O6 _),cJ]; rfl
@[simp] theorem Qwz (st l:List α) (c d:α):(st ++ c :: d :: l)[st.length + 1]?=zo d:=by
 rw [D0 ()];rw [show st.length + 1 - st.length=1 by omega]; rfl
@[simp] theorem Q9z (st l:List α) (c d:α):(st ++ c :: l).set st.length d=st ++ d :: l:=by
 rw [L0 _ _ (O6 _),cJ]; rfl
@[simp] theorem Qwy (st l:List α) (c q d:α):(st ++ c :: q :: l).set (st.length + 1) d=st ++ c :: d :: l:=by
 rw [L0 _ _ (),show st.length + 1 - st.length=1 by omega]; rfl
@[simp] theorem Qnk (st:Q0) (i:Nat) (g:List PV->Option (PV × List PV)):chg st (.ref i) g=(match st[i]? with | some (.lst xs)=>(match g xs with | some (r,ys)=>.ok r (st.set i (.lst ys)) | none=>.stuck) | _=>.stuck):=rfl
@[simp] theorem Qxg (st:Q0) (i:Nat):qm st (.ref i)=(match st[i]? with | some (.lst xs)=>zo xs | _=>zl):=rfl
@[simp] theorem jt (st:Q0) (i:Nat):Z9 st (.ref i)=(match st[i]? with | some (.lst xs)=>zo xs | _=>zl):=rfl
@[simp] theorem Q29 (st:Q0) (i:Nat):Wp st (.ref i)=(match st[i]? with | some (.lst xs)=>zo xs | _=>zl):=rfl
@[simp] theorem xb (st:Q0) (i:Nat):W6 st (.ref i)=(match st[i]? with | some (.lst xs)=>zo (xs,[(i,.lst xs)]) | _=>zl):=rfl
@[simp] theorem Qnz (st:Q0) (p y:PV):Uh st p [y]=chg st p λxs=>if xs.length < lim then zo (.non,xs ++ [y]) else zl:=rfl
@[simp] theorem Qwr (st:Q0) (i:Nat):qi st [.ref i]=(match st[i]? with | some (.lst xs)=>.ok (.tup xs) st | _=>.stuck):=by
 unfold qi; simp only [Q29];cases st[i]? with
 | none=>rfl
 | some c=>cases c <;> rfl
@[simp] theorem Qnn (st:Q0) (i:Nat):Uy st [.ref i]=(match st[i]? with | some (.lst xs)=>.ok (.lst xs) st | _=>.stuck):=by
 unfold Uy; simp only [Q29];cases st[i]? with
 | none=>rfl
 | some c=>cases c <;> rfl
@[simp] theorem Qit (st:Q0) (i:Nat):J4 st [.ref i]=(match st[i]? with | some (.lst xs)=>.ok (.int xs.length) st | _=>.stuck):=by
 unfold J4; simp only [Q29];cases st[i]? with
 | none=>rfl
 | some c=>cases c <;> rfl
@[simp] theorem zz (st:Q0) (i:Nat) (j:Int):oIx st (.ref i) (.int j)=(match st[i]? with | some (.lst xs)=>okO st (atI xs j) | _=>.stuck):=by
 unfold oIx; simp only [Q29];cases st[i]? with
 | none=>rfl
 | some c=>cases c <;> rfl
@[simp] theorem xg (st:Q0) (k:Nat) (j:Int) (p:PV):Uf st (.ref k) (.int j) p=(match st[k]? with | some (.lst xs)=>(ixN xs.length j).map λn=>st.set k (.lst (xs.set n p)) | _=>zl):=rfl
def Qer (xs:List α) (k:Nat):cut xs zl (zo (k:Int))=xs.take k:=by
 unfold cut;rw [HT.sIx_none,HT.sIx_nat,eF,fQ];rcases hU k xs.length with h | h
 ·rw [fX h]
 ·rw [hX h,cx,hZ h]
def Q4g (xs:List α) (k:Nat):cut xs (zo (k:Int)) zl=xs.drop k:=by
 unfold cut;rw [HT.sIx_none,HT.sIx_nat];rcases hU k xs.length with h | h
 ·rw [fX h,hZ (by rw [cr]; omega)]
 ·rw [hX h,fV,List.drop_of_length_le h]; simp
def Js {l:List α} {j:Nat} (h:j < l.length) (d:α):l[j]?=zo (l.getD j d):=by
 rw [cw,O2 h]; rfl
def ListAt (st:Q0) (V:PV) (xs:List PV):Prop:=V=.lst xs\/V=.fro xs\/∃ i,V=.ref i/\st[i]?=zo (.lst xs)
def ListAt.ix {V:PV} (h:ListAt st V xs) (j:Int):oIx st V (.int j)=okO st (atI xs j):=by
 rcases h with rfl | rfl | ⟨i,rfl,e⟩
 ·rfl
 ·rfl
 ·rw [zz,e]
def ListAt.len {V:PV} (h:ListAt st V xs):J4 st [V]=.ok (.int xs.length) st:=by
 rcases h with rfl | rfl | ⟨i,rfl,e⟩
 ·rfl
 ·rfl
 ·rw [Qit,e]
def ListAt.list {V:PV} (h:ListAt st V xs):Uy st [V]=.ok (.lst xs) st:=by
 rcases h with rfl | rfl | ⟨i,rfl,e⟩
 ·rfl
 ·rfl
 ·rw [Qnn,e]
def ListAt.src {V:PV} (h:ListAt st V xs):∃ w,W6 st V=zo (xs,w)/\wOk w st:=by
 rcases h with rfl | rfl | ⟨i,rfl,e⟩
 ·exact ⟨[],rfl,by simp⟩
 ·exact ⟨[],rfl,by simp⟩
 ·exact ⟨[(i,.lst xs)],by rw [xb,e],by simp [wOk,e]⟩
def Qet (g:α->PV) {xs:List α} (I:Nat->List PV->Q0->Prop) {ga:GA} {me:ME} {w:Wt} {Γ0:Gam} (O:∀ i out st,I i out st->wOk w st)
  (h:∀ (i:Nat) x out st,xs[i]?=zo x->I i out st->∃ B,ga (g x) Γ0=zo B/\∃ v q,me B st=.ok v q/\I (i + 1) (out ++ [v]) q) {st:Q0} (h0:I 0 [] st):∃ out st',J0 ga Z1 me w Γ0 (xs.map g) st=.ok out st'/\I xs.length out st':=by
 have G:∀ (ys:List α) (k:Nat) (pre:List PV) (st:Q0),(∀ i,ys[i]?=xs[k + i]?)->k + ys.length=xs.length->I k pre st->∃ out st',J0 ga Z1 me w Γ0 (ys.map g) st=.ok out st'/\I xs.length (pre ++ out) st':=by
  intro ys
  induction ys with
  | nil=>
   intro k pre st e J i;refine ⟨[],st,by simp [J0,O k pre st i],?_⟩;rw [E9,<- J]; exact i
  | cons y ys Z=>
   intro k pre st e J i;have Y:xs[k]?=zo y:=by have:=e 0; simpa using this.symm
   obtain ⟨B,h1,v,q,h2,i2⟩:=h k y pre st Y i;obtain ⟨out,st',h3,U⟩:=Z (k + 1) (pre ++ [v]) q (λi=>by
    have:=e (i + 1);rw [dq] at this;rw [this]; congr 1; omega) (by rw [<- J,E7]; omega) i2
   refine ⟨v :: out,st',?_,by simpa using U⟩;rw [O5,J0,bX (O k pre st i),h1];simp [Z1,h2,h3]
 obtain ⟨out,st',h1,h2⟩:=G xs 0 [] st (λi=>by simp) (by simp) h0;exact ⟨out,st',h1,by simpa using h2⟩
@[simp] theorem Qtg (ma:ME) (Γ:Gam) (st:Q0):qb ma Γ st=(ma Γ st).bind λp q=>match Wp q p with | some xs=>.ok xs q | none=>.stuck:=rfl
theorem zd:∀ {xs:List PV},(∀ x∈xs,peq x x=zi)->X1 xs xs=zi
 | [],_=>rfl
 | x :: xs,h=>by
  rw [X1,h x E3,zd λy q=>h y (O7 _ q)]; rfl
theorem jc:∀ {n:Nat} {p:PV},Za n p=zi->peq p p=zi
 | n,.non,_=>rfl
 | n,.bl b,_=>by simp [peq]
 | n,.int b,_=>by simp [peq]
 | n,.str b,_=>by simp [peq]
 | n,.ref _,g=>by cases n <;> simp [Za] at g
 | n,.dic,g=>by cases n <;> simp [Za] at g
 | 0,.tup _,g=>by simp [Za] at g
 | 0,.lst _,g=>by simp [Za] at g
 | 0,.fro _,g=>by simp [Za] at g
 | n + 1,.tup xs,g=>by
  rw [peq]; refine zd λx q=>jc (n:=n) ?_
  simp [Za] at g; exact g x q
 | n + 1,.lst xs,g=>by
  rw [peq]; refine zd λx q=>jc (n:=n) ?_
  simp [Za] at g; exact g x q
 | n + 1,.fro xs,g=>by
  rw [peq]; refine zd λx q=>jc (n:=n) ?_
  simp [Za] at g; exact g x q
variable {a b:aH} {ma mb:ME}
def Qiy:aZ "set" = zo (.type "set"):=by decide +kernel
def Jx (body:MS) (nl:Nat):FN:=λps st=>match body (ps.map zo ++ bg (nl - ps.length) zl) st with
 | .rt v st'=>.ok v st'
 | .nx _ st'=>.ok .non st'
 | .exc x st'=>.exc x st'
 | _=>.stuck
variable {P:aL} {K:be} {base:Heap}
section
variable {w:aK}
def Qnc {qual:Str} {st:aM} {f:aB} {ps:List Str} {k:Nat} {m:MS} (F:Fun K x qual st f fd) (S:FnScope N ps (Q9 st))
  (hb:∀ (G:aA) (A:aP) (outer:List eG) (s:aC) (H:Hp) (E:XK),Room k (A.deeper (eH qual (Q9 st) s.heap.objs.size f G))->SimB (cxD P w K mg base N qual (Q9 st) f G A outer s H E) E (Zz st) m) :
  FnOk P w K mg base (CXD P w) (k + 1) f fd ps (spF mg ps.length (Jx m N.length)):=by
 refine Fun.okD F S (λvs H Q E h=>h.1) λG A outer s H vs Q E hr Y=>⟨_,Q3m,?_⟩
 obtain ⟨hl,ρ,J,O,R,Z,q⟩:=Y;refine (hb G A outer s H E hr).run _ (L2.start N vs) H ρ J _ R (Q5c Z) ?_;unfold Jx at q;cases I:m (O.map zo ++ bg (N.length - O.length) zl) J with
 | rt v B=>rw [I] at q; exact λv H' ρ' x U r=>q H' ρ' x U v r
 | nx Γ B=>rw [I] at q; exact λa1 H' ρ' x' U G'=>q H' ρ' x' U .non rfl
 | bk Γ B=>rw [I] at q; exact q.elim
 | ct Γ B=>rw [I] at q; exact q.elim
 | stuck=>rw [I] at q; exact q.elim
 | exc y B=>rw [I] at q; exact q
end
def Qi3 {P:aL} {w:aK} {mg:zAG} {base:Heap} {qual:Str} {st:aM} {f:aB} {ps:List Str} {k nl:Nat} {m:MS} {FF:FN} (F:Fun K x qual st f fd) (S:FnScope N ps (Q9 st)) (I:ps.length=n) (B:N.length=nl) (J:FF=Jx m nl)
  (G:∀ (q:aA) (A:aP) (outer:List eG) (s:aC) (H:Hp) (E:XK),Room k (A.deeper (eH qual (Q9 st) s.heap.objs.size f q))->SimB (cxD P w K mg base N qual (Q9 st) f q A outer s H E) E (Zz st) m) :
  FnOk P w K mg base (CXD P w) (k + 1) f fd ps (spF mg n FF):=by
 subst I; subst B; subst J;exact Qnc F S G
end Sm
namespace Sm
open PySem PySem.Spec PyProof.Rows L2
end Sm
namespace Sm
open PySem PySem.Spec L2
variable {p:PV} {v:V}
def Qkh {k:Nat} {A:aP} (r:Room k A):A.units + 1 < aX:=by have:=r.un; omega
variable {H0 H:Hp} {ρ0 ρ:Tk} {st:Q0} {a:aB} {ps:List (Key × PV)} {vs:List (Key × V)}
def Qh5 (R0:Rel H0 ρ0 st) (x:Ext H0 ρ0 H ρ) {B:Q0} (R:Rel H ρ B) (O:a∈ρ.hid) (Z:H0 a=zl) (ha:H a=zo (.dK vs)) (r:RepD H ρ ps vs) :
  Ext H0 ρ0 H ⟨ρ.tr ++ [a],ρ0.hid⟩/\Rel H ⟨ρ.tr ++ [a],ρ0.hid⟩ (B ++ [.dic ps])/\Rep H ⟨ρ.tr ++ [a],ρ0.hid⟩ (.ref B.length) (.ref a):=by
 have Y:a∉ρ0.hid:=λz=>by
  obtain ⟨o,e,_⟩:=R0.hd a z;rw [Z] at e; cases e
 refine ⟨⟨x.pre.trans (ce _ _),λ_ h=>h,λ_ h=>.inl h,x.keep,λb J=>?_,x.old,x.frz⟩,⟨?_,?_,λb J=>R.hd b (x.hidM b J),λb J z=>?_,λi b c h1 h2=>?_⟩,a,?_,rfl⟩
 ·rcases E6.mp J with z | z
  ·exact x.new b z
  ·have:b=a:=by simpa using z
   subst this; exact .inr Z
 ·show (ρ.tr ++ [a]).length=_;rw [D4,D4,R.len]; rfl
 ·show (ρ.tr ++ [a]).Nodup;refine dU.mpr ⟨R.nd,by simp,λb J c hc e=>?_⟩;have:c=a:=by simpa using hc
  subst this; subst e;exact R.ap b O J
 ·rcases E6.mp z with z | z
  ·exact R.ap b (x.hidM b J) z
  ·have:b=a:=by simpa using z
   subst this; exact Y J
 ·have h1:(ρ.tr ++ [a])[i]?=zo b:=h1
  by_cases hi:i < B.length
  ·rw [O4 (by rw [R.len]; exact hi)] at h1;rw [O4 hi] at h2;have q:=R.cell i b c h1 h2;cases c with
   | lst U=>
    obtain ⟨us,I,G⟩:=q;exact ⟨us,I,G.trk O x.hidM⟩
   | dic U=>
    obtain ⟨us,I,G⟩:=q;exact ⟨us,I,G.1,G.2.trk O x.hidM⟩
   | dtp U=>
    obtain ⟨us,I,G⟩:=q;exact ⟨us,I,G.1,G.2.trk O x.hidM⟩
   | frd U=>
    obtain ⟨us,I,G⟩:=q;exact ⟨us,I,G.1,G.2.trk O x.hidM⟩
   | obj C U=>
    obtain ⟨us,I,G⟩:=q;exact ⟨us,I,G.1,G.2.trk O x.hidM⟩
  ·rw [D0 (by rw [R.len]; omega)] at h1;rw [D0 ()] at h2;have e0:i - B.length=0:=by
    rcases fS (i - B.length) with z | z
    ·exact z
    ·rw [dS (by simp; omega)] at h2; cases h2
   rw [R.len,e0] at h1;rw [e0] at h2;simp at h1 h2;subst h1; subst h2;exact ⟨vs,ha,r.1,r.2.trk O x.hidM⟩
 ·show (ρ.tr ++ [a])[B.length]?=zo a;rw [<- R.len,D0 (O6 _),cJ]; rfl
def Qy (kvs:List (Key × PV)) (k:Key):Option PV:=(kvs.find? λkv=>decide (kv.1=k)).map (·.2)
def Kx (kvs:List (Key × PV)) (k:Key) (v:PV):List (Key × PV):=
 if (kvs.any λkv=>decide (kv.1=k))=zi then kvs.map (λkv=>if kv.1=k then (kv.1,v) else kv) else kvs ++ [(k,v)]
def Xz:PV->Option Key
 | .int i=>zo (.inl i)
 | .str x=>zo (.inr x)
 | _=>zl
def zc {k:Key} (e:Xz p=zo k) (r:Rep H ρ p v):v=kV k:=by
 cases p with
 | int i=>cases e; exact r
 | str x=>cases e; exact r
 | _=>cases e
theorem ja {H:Hp} {ρ:Tk}:∀ {kvs:List (Key × PV)} {vs:List (Key × V)},RepD H ρ kvs vs->∀ k:Key,(Qy kvs k=zl/\Kq vs k=zl)\/∃ p v,Qy kvs k=zo p/\Kq vs k=zo v/\Rep H ρ p v
 | [],[],_,k=>.inl ⟨rfl,rfl⟩
 | [],_ :: _,r,_=>by have:=r.length; cases this
 | _ :: _,[],r,_=>by have:=r.length; cases this
 | (k1,G) :: kvs,(k2,B) :: vs,r,k=>by
  obtain ⟨r1,v,t,e,I,r3⟩:=r;have Y:k2=k1/\vs.map bh=kvs.map bh:=by
   have:k2 :: vs.map bh=k1 :: kvs.map bh:=r1;exact dW this
  have U:B :: vs.map cA=v :: t:=e;cases U;obtain ⟨rfl,O⟩:=Y
  by_cases q:k2=k
  ·exact .inr ⟨G,B,by simp [Qy,q],by simp [Kq,q],I⟩
  ·have ih:=ja (kvs:=kvs) (vs:=vs) ⟨O,r3⟩ k;have J:Qy ((k2,G) :: kvs) k=Qy kvs k:=by simp [Qy,G8,q]
   have Z:Kq ((k2,B) :: vs) k=Kq vs k:=by simp [Kq,G8,q]
   rw [J,Z]; exact ih
def y9 (st:Q0):PV->Option (List (Key × PV))
 | .ref i=>match st[i]? with
  | some (.dic kvs)=>zo kvs
  | some (.frd kvs)=>zo kvs
  | _=>zl
 | _=>zl
def Ki {kvs:List (Key × PV)} (R:Rel H ρ st) (r:Rep H ρ p v) (e:y9 st p=zo kvs):∃ i a vs,p=.ref i/\v=.ref a/\ρ.tr[i]?=zo a/\Rd H a (.dK vs)/\RepD H ρ kvs vs:=by
 cases p with
 | ref i=>
  obtain ⟨a,G,rfl⟩:=r;unfold y9 at e;cases z:st[i]? with
  | none=>simp only [z] at e; cases e
  | some c=>
   simp only [z] at e;cases c with
   | dic q=>
    cases e;obtain ⟨b,vs,B,J,I⟩:=R.dic z;rw [G] at B;cases B;exact ⟨i,a,vs,rfl,rfl,G,.inl J,I⟩
   | frd q=>
    cases e;obtain ⟨b,vs,o,B,J,I⟩:=R.frd z;rw [G] at B;cases B;exact ⟨i,a,vs,rfl,rfl,G,.inr ⟨o,J⟩,I⟩
   | lst xs=>cases e
   | dtp xs=>cases e
   | obj C xs=>cases e
 | _=>cases e
def jy (st:Q0) (i:Nat):Option (List (Key × PV)):=match st[i]? with
 | some (.dic kvs)=>zo kvs
 | _=>zl
def Q0e {i:Nat} {kvs:List (Key × PV)} (e:jy st i=zo kvs):st[i]?=zo (.dic kvs):=by
 unfold jy at e
 split at e
 ·rename_i q; cases e; exact q
 ·cases e
def DGet.kr {kvs:List (Key × V)} {k:Key} (e:Rd H a (.dK kvs)):DGet H a (kV k) (Kq kvs k):=.inl ⟨kvs,k,e,rfl,rfl⟩
def Qf0 {X:Cx}:V1 X (.builtin "len") (λxs H Q=>∃ a kvs,xs=[V.ref a]/\Rd H a (.dK kvs)/\Q (.int kvs.length) H):=by
 intro pins s σ H xs us Q I r h;obtain ⟨a,kvs,rfl,e,q⟩:=h;obtain ⟨u,rfl,B⟩:=Xc r;cases B;exact Qwk I e λt s' G=>⟨.int kvs.length,H,G,⟨t,rfl⟩,q⟩
def Q85 {kvs:List (Key × PV)} (r:RepD H ρ kvs vs) (k:Key) (O:Rep H ρ p v):RepD H ρ (Kx kvs k p) (K9 vs k v):=by
 have U:(kvs.any λkv=>decide (kv.1=k))=vs.any λkv=>decide (kv.1=k):=by
  have B:(kvs.any λkv=>decide (kv.1=k))=(kvs.map bh).any λx=>decide (x=k):=by rw [cy]; rfl
  have I:(vs.any λkv=>decide (kv.1=k))=(vs.map bh).any λx=>decide (x=k):=by rw [cy]; rfl
  rw [B,I,r.1]
 unfold Kx K9;rw [<- U]
 by_cases q:(kvs.any λkv=>decide (kv.1=k))=zi
 ·rw [bX q,bX q];have J:∀ (kvs:List (Key × PV)) (vs:List (Key × V)),RepD H ρ kvs vs->RepD H ρ (kvs.map λkv=>if kv.1=k then (kv.1,p) else kv) (vs.map λkv=>if kv.1=k then (kv.1,v) else kv):=by
   intro kvs
   induction kvs with
   | nil=>
    intro vs r;cases vs with
    | nil=>exact r
    | cons _ _=>have:=r.length; cases this
   | cons a kvs ih=>
    intro vs r;cases vs with
    | nil=>have:=r.length; cases this
    | cons b vs=>
     obtain ⟨r1,x,t,e,Y,r3⟩:=r;obtain ⟨B,I⟩:=dW (show b.1 :: vs.map bh=a.1 :: kvs.map bh from r1);obtain ⟨Z,e4⟩:=dW (show b.2 :: vs.map cA=x :: t from e);subst Z; subst e4;obtain ⟨i1,i2⟩:=ih vs ⟨I,r3⟩
     by_cases z:a.1=k
     ·have G:b.1=k:=B.trans z;refine ⟨?_,?_⟩
      ·rw [O5,O5,O5,O5,bX z,bX G];show b.1 :: _=a.1 :: _;rw [B,i1]
      ·rw [O5,O5,O5,O5,bX z,bX G];exact RepL.cons O i2
     ·have G:¬ b.1=k:=λh=>z (B.symm.trans h)
      refine ⟨?_,?_⟩
      ·rw [O5,O5,O5,O5,bY z,bY G];show b.1 :: _=a.1 :: _;rw [B,i1]
      ·rw [O5,O5,O5,O5,bY z,bY G];exact RepL.cons Y i2
  exact J kvs vs r
 ·rw [bY q,bY q];refine ⟨?_,?_⟩
  ·rw [F5,F5,r.1]; rfl
  ·rw [F5,F5];exact r.2.append (RepL.cons O RepL.nil)
variable {X:Cx} {E:XK} {pos dpos tpos:Pos} {e o:aH} {m mi mo:ME}
section
variable {i k:aH} {mk:ME}
def Q6y (neg:Bool):OP:=λst p q=>match y9 st q,Xz p with
 | some kvs,zo k=>.ok (.bl ((Qy kvs k).isSome != neg)) st
 | _,_=>.stuck
def Qr8 (hu:X.A.units + 1 < aX):OpS X E (aU .In) (Q6y zb):=⟨λH ρ st p q x y Q R Z rq h=>by
 unfold Q6y at h
 split at h
 ·rename_i kvs k Y U;obtain ⟨n,a,vs,rfl,rfl,_,hb,O⟩:=Ki R rq Y;have ek:=zc U Z;subst ek;intro pins s σ v u I rv J;cases J;refine Qyn hu I (DGet.kr hb) rv λs' I'=>⟨.bl _,H,I',rfl,?_⟩
  have:(Kq vs k).isSome=(Qy kvs k).isSome:=by
   rcases ja O k with ⟨B,G⟩ | ⟨p,v,B,G,_⟩ <;> rw [B,G] <;> rfl
  rw [this];rw [gy] at h;exact now R h rfl
 ·exact h.elim⟩
def Qdk (hu:X.A.units + 1 < aX):OpS X E (aU .NotIn) (Q6y zi):=⟨λH ρ st p q x y Q R Z rq h=>by
 unfold Q6y at h
 split at h
 ·rename_i kvs k Y U;obtain ⟨n,a,vs,rfl,rfl,_,hb,O⟩:=Ki R rq Y;have ek:=zc U Z;subst ek;intro pins s σ v u I rv J;cases J;refine Qng hu I (DGet.kr hb) rv λs' I'=>⟨.bl _,H,I',rfl,?_⟩
  have:(Kq vs k).isSome=(Qy kvs k).isSome:=by
   rcases ja O k with ⟨B,G⟩ | ⟨p,v,B,G,_⟩ <;> rw [B,G] <;> rfl
  rw [this];have hh:((Qy kvs k).isSome != zi)=!(Qy kvs k).isSome:=by cases (Qy kvs k).isSome <;> rfl
  rw [hh] at h;exact now R h rfl
 ·exact h.elim⟩
def Um (st:Q0) (p q:PV):Res PV:=match y9 st p,Xz q with
 | some kvs,zo k=>match Qy kvs k with
  | some v=>.ok v st
  | none=>.stuck
 | _,_=>.stuck
def Zu (mo mi:ME):ME:=λΓ st=>(mo Γ st).bind λp st1=>(mi Γ st1).bind λq st2=>Um st2 p q
def Qg2 (hu:X.A.units + 1 < aX) (U:SimE X E o mo) (hi:SimE X E i mi) (hs:Qt6 i):SimE X E (.Subscript o i pos) (Zu mo mi):=
 ⟨λΓ σ H ρ st Q R G h=>WE.of (Qma hu Zc Zc hs) (U.use R G h.bind λp Z H1 ρ1 v1 x1 R1 J r1 h1=>hi.use R1 J h1.bind λq a5 H2 a4 v2 x2 R2 G2 r2 h2=>by
  unfold Um at h2
  split at h2
  ·rename_i kvs k O e2
   split at h2
   ·rename_i w B;obtain ⟨n,a,vs,rfl,rfl,_,hb,rd⟩:=Ki R2 (r1.ext x2) O;have Y:=zc e2 r2;subst Y;rcases ja rd k with ⟨I,_⟩ | ⟨p,v,I,a2,a3⟩
    ·rw [I] at B; cases B
    ·rw [I] at B;cases B;exact ⟨a,v,rfl,by have:=DGet.kr (k:=k) hb; rwa [a2] at this,now R2 h2 a3⟩
   ·exact h2.elim
  ·exact h2.elim)⟩
def qt (st:Q0) (p q v:PV):Option Q0:=match p,Xz q with
 | .ref n,zo k=>match jy st n with
  | some kvs=>if kvs.length < lim then zo (st.set n (.dic (Kx kvs k v))) else zl
  | none=>zl
 | _,_=>zl
def jq (mo mi m:ME):MS:=λΓ st=>(m Γ st).sbind λv st1=>(mo Γ st1).sbind λp st2=>(mi Γ st2).sbind λq st3=>match qt st3 p q v with
 | some st4=>.nx Γ st4
 | none=>.stuck
def Qju (hu:X.A.units + 1 < aX) (he:SimE X E e m) (ho:SimE X E o mo) (hi:SimE X E i mi) (hs:swapsWith e (zo (.Subscript o i tpos)) pos.line X.env=pure zb):SimS X E (.Assign [.Subscript o i tpos] e pos) (jq mo mi m):=
 ⟨λΓ σ H ρ st D R G h=>WS.of (Qkw hu Zc Zc Zc hs) (he.use R G h.bind λv a1 H1 ρ1 z x1 R1 G1 r1 h1=>ho.use R1 G1 h1.bind λp a4 H2 a2 x x2 R2 G2 r2 h2=>hi.use R2 G2 h2.bind λq I U B y x3 R3 G3 r3 O=>by
  cases es:qt I p q v with
  | none=>rw [es] at O; exact O.elim
  | some a3=>
   rw [es] at O;unfold qt at es
   split at es
   ·rename_i n k e2
    split at es
    ·rename_i kvs e1
     split at es
     ·rename_i hl;cases es;obtain ⟨a,Z,rfl⟩:=r2.ext x3;have Y:=Q0e e1;obtain ⟨b,vs,eb,hb,rd⟩:=R3.dic Y;rw [Z] at eb;cases eb;have ek:=zc e2 r3;subst ek;have J:Ext U B (upd U a (.dK (K9 vs k z))) B:=Ext.put (D8 Z) hb;have rz:=(r1.ext (x2.trans x3)).ext J;have R4:Rel (upd U a (.dK (K9 vs k z))) B (I.set n (.dic (Kx kvs k v))):=R3.putC Z hb ⟨_,Qm,Q85 (rd.ext J) k rz⟩;refine ⟨a,_,rfl,DPut.k hb (by rw [<- rd.length]; exact D7 hl Qat),O σ _ B J R4 (G3.ext J)⟩
     ·cases es
    ·cases es
   ·cases es)⟩
def Q9p:CF:=λst ps=>match ps with
 | [p]=>match y9 st p with
  | some kvs=>.ok (.int (kvs.length:Nat)) st
  | none=>.stuck
 | _=>.stuck
def Qnj:CallS X E (.builtin "len") Q9p:=⟨λH ρ st ps xs Q R q h=>by
 unfold Q9p at h
 split at h
 ·rename_i p;obtain ⟨v,rfl,r⟩:=Zb q
  split at h
  ·rename_i kvs e;obtain ⟨n,a,vs,rfl,rfl,_,B,G⟩:=Ki R r e;rw [G.length] at h;exact WC.of Qf0 ⟨a,vs,rfl,B,now R h rfl⟩
  ·exact h.elim
 ·exact h.elim⟩
def Q71 (mk m:ME):ME:=λΓ st=>(mk Γ st).bind λpk st1=>(m Γ st1).bind λpv st2=>match Xz pk with
 | some k=>.ok (.ref st2.length) (st2 ++ [.dic [(k,pv)]])
 | none=>.stuck
def Qg0 (hk:SimE X E k mk) (he:SimE X E e m):SimE X E (.Dict [zo k] [e] dpos) (Q71 mk m):=by
 refine ⟨λΓ σ H ρ st Q R G h=>WE.of (Qm9 (Qgs Zc Zc Qky) rfl rfl (by simp) (by simp)) ?_⟩;intro p O;have x0:Ext H ρ (upd H p (.dK [])) (ρ.hide p):=Ext.hide O;refine hk.use' (R.hide O) (G.hide O) (h.bind.later x0) λY Z H1 ρ1 v1 f1 x1 R1 G1 r1 _=>?_
 have h:=h;unfold Q71 at h;rw [f1] at h;have h:Acc X.mg E H ρ (QV Q) ((m Γ Z).bind λpv q=>match Xz Y with
  | some k=>.ok (.ref q.length) (q ++ [.dic [(k,pv)]])
  | none=>.stuck):=h
 refine he.use' R1 G1 (h.bind.later (x0.trans x1)) λa2 q H2 I U f2 x2 R2 G2 r2 _=>?_
 rw [f2] at h;cases kk:Xz Y with
 | none=>
  have h:Acc X.mg E H ρ (QV Q) (match Xz Y with
   | some k=>.ok (.ref q.length) (q ++ [.dic [(k,a2)]])
   | none=>.stuck):=h
  rw [kk] at h; exact h.elim
 | some J=>
  have h:Acc X.mg E H ρ (QV Q) (match Xz Y with
   | some k=>.ok (.ref q.length) (q ++ [.dic [(k,a2)]])
   | none=>.stuck):=h
  rw [kk] at h;have ek:=zc kk r1;subst ek;have xe:Ext (upd H p (.dK [])) (ρ.hide p) H2 I:=x1.trans x2;have a3:p∉(ρ.hide p).tr:=λz=>R.fresh O (.inl z)
  have a4:H2 p=zo (.dK []):=xe.keep p _ Qm a3;have B:p∈I.hid:=xe.hidM p E3;refine ⟨a4,[(J,U)],rfl,by simp,?_⟩;have hm:U4 [] [(J,U)]=[(J,U)]:=by simp [U4,K9]
  rw [hm];have y:Ext H ρ (upd H2 p (.dK [(J,U)])) I:=(x0.trans xe).put0 O;have g2:=r2.rehide (o:=.dK [(J,U)]) B;obtain ⟨x5,R5,r5⟩:=Qh5 (ps:=[(J,a2)]) R y (R2.rehide B) B O Qm ⟨rfl,RepL.cons g2 RepL.nil⟩;exact h _ _ x5 R5 _ r5
end
def Qf2:aZ "dict" = zo (.type "dict"):=by decide +kernel
def kP:Key->PV
 | .inl i=>.int i
 | .inr x=>.str x
def Qge (k:Key):Rep H ρ (kP k) (kV k):=by cases k <;> rfl
def je:List PV->Option (List (Key × PV))
 | []=>zo []
 | .tup [k,v] :: xs=>match Xz k with
  | some k=>(je xs).map ((k,v) :: ·)
  | none=>zl
 | _ :: _=>zl
def Q6z (kvs more:List (Key × PV)):List (Key × PV):=more.foldl (λacc kv=>Kx acc kv.1 kv.2) kvs
theorem Q3i {H:Hp} {ρ:Tk}:∀ {more:List (Key × PV)} {mv:List (Key × V)} {kvs:List (Key × PV)} {vs:List (Key × V)},RepD H ρ more mv->RepD H ρ kvs vs->RepD H ρ (Q6z kvs more) (U4 vs mv)
 | [],[],_,_,_,r=>r
 | [],_ :: _,_,_,r,_=>by have:=r.length; cases this
 | _ :: _,[],_,_,r,_=>by have:=r.length; cases this
 | (k,p) :: more,(q,v) :: mv,kvs,vs,r,s=>by
  obtain ⟨U,x,t,e,B,Y⟩:=r;obtain ⟨J,I⟩:=dW (show q :: mv.map bh=k :: more.map bh from U);obtain ⟨G,O⟩:=dW (show v :: mv.map cA=x :: t from e);subst J; subst G; subst O;exact Q3i (more:=more) (mv:=mv) ⟨I,Y⟩ (Q85 s q B)
theorem jd {H:Hp} {ρ:Tk}:∀ {xs:List PV} {vs:List V} {kvs:List (Key × PV)},je xs=zo kvs->RepL H ρ xs vs->∃ q:List (Key × V),RepD H ρ kvs q/\aY (λ(v:V) (kv:Key × V)=>∃ a,v=.ref a/\H a=zo (.tup [kV kv.1,kv.2])) vs q
 | [],vs,kvs,e,r=>by cases e; cases r; exact ⟨[],⟨rfl,rfl⟩,.nil⟩
 | .tup [k,p] :: xs,vs,kvs,e,⟨v,t,e1,r1,Y⟩=>by
  have e:(match Xz k with | some k=>(je xs).map ((k,p) :: ·) | none=>zl)=zo kvs:=e
  cases B:Xz k with
  | none=>rw [B] at e; cases e
  | some U=>
   rw [B] at e;cases z:je xs with
   | none=>rw [z] at e; cases e
   | some G=>
    rw [z] at e;cases e;obtain ⟨q,I,g2⟩:=jd z Y;obtain ⟨a,us,rfl,O,_,J⟩:=r1;obtain ⟨u1,Z,rfl,q1,q2⟩:=j9 J;have ek:=zc B q1;subst ek;subst e1;exact ⟨(U,Z) :: q,⟨by rw [O5,O5,I.1],RepL.cons q2 I.2⟩,.cons ⟨a,rfl,O⟩ g2⟩
 | .tup [] :: _,_,_,e,_=>by cases e
 | .tup [_] :: _,_,_,e,_=>by cases e
 | .tup (_ :: _ :: _ :: _) :: _,_,_,e,_=>by cases e
 | .non :: _,_,_,e,_=>by cases e
 | .bl _ :: _,_,_,e,_=>by cases e
 | .int _ :: _,_,_,e,_=>by cases e
 | .str _ :: _,_,_,e,_=>by cases e
 | .lst _ :: _,_,_,e,_=>by cases e
 | .fro _ :: _,_,_,e,_=>by cases e
 | .ref _ :: _,_,_,e,_=>by cases e
 | .dic :: _,_,_,e,_=>by cases e
variable {tg:aH}
section
variable {i k:aH} {mk:ME}
def yt:CF:=λst ps=>match ps with
 | [p]=>match Z9 st p with
  | some xs=>match je xs with
   | some kvs=>.ok (.ref st.length) (st ++ [.dic (Q6z [] kvs)])
   | none=>.stuck
  | none=>.stuck
 | _=>.stuck
def Qih (U:X.calm=zi):CallS X E (.type "dict") yt:=⟨λH ρ st ps xs Q R G h=>by
 unfold yt at h
 split at h
 ·rename_i p;obtain ⟨v,rfl,r⟩:=Zb G
  split at h
  ·rename_i ys J
   split at h
   ·rename_i kvs O;obtain ⟨a,vs,rfl,I,B⟩:=X4 R r J;obtain ⟨q,Y,g2⟩:=jd O B;refine WC.of (Qb8 U) ⟨a,vs,q,rfl,.inl I,g2,λd hd=>?_⟩;have x:Ext H ρ (upd H d (.dK (U4 [] q))) (ρ.add d):=Ext.addT hd;refine h _ _ x (R.addC hd ⟨_,Qm,(Q3i Y (show RepD H ρ [] [] from ⟨rfl,RepL.nil⟩)).ext x⟩) _ ⟨d,?_,rfl⟩;show (ρ.tr ++ [d])[st.length]?=zo d;rw [<- R.len,D0 (O6 _),cJ]; rfl
   ·exact h.elim
  ·exact h.elim
 ·exact h.elim⟩
def jp:ME:=λΓ st=>.ok (.ref st.length) (st ++ [.dic []])
def Qg1:SimE X E (.Dict [] [] dpos) jp:=⟨λΓ σ H ρ st Q R G h=>WE.of Qh0 λd hd=>by
 have x:Ext H ρ (upd H d (.dK [])) (ρ.add d):=Ext.addT hd;refine h _ _ x (R.addC hd ⟨_,Qm,rfl,rfl⟩) _ ⟨d,?_,rfl⟩;show (ρ.tr ++ [d])[st.length]?=zo d;rw [<- R.len,D0 (O6 _),cJ]; rfl⟩
def Uv (st:Q0):PV->Option (List PV × Nat × List (Key × PV))
 | .ref i=>match jy st i with
  | some kvs=>zo (kvs.map (λkv=>kP kv.1),i,kvs)
  | none=>zl
 | _=>zl
def qk (m:ME):MI:=λΓ st=>(m Γ st).bind λp st1=>match Uv st1 p with
 | some (ks,i,kvs)=>if ks.length<=lim then .ok (ks,[(i,.frd kvs)]) (st1.set i (.frd kvs)) else .stuck
 | none=>.stuck
def Qk6 (ha:SimE X E e m):SimI X E tg e (qk m):=⟨λΓ σ H ρ st P R' R G h k=>by
 have hb:Acc X.mg E H ρ _ (m Γ st):=Acc.bind h;refine WI.of (Qm3 Zc) (ha.use' R G hb λp B H1 ρ1 v eq x1 R1 G1 r1 _=>?_);have Y:qk m Γ st=(match Uv B p with
  | some (ks,i,kvs)=>if ks.length<=lim then Res.ok (ks,[(i,.frd kvs)]) (B.set i (.frd kvs)) else .stuck
  | none=>.stuck):=by unfold qk; rw [eq]; rfl
 rw [Y] at h;cases p with
 | ref i=>
  cases Z:jy B i with
  | none=>
   have:Uv B (.ref i)=zl:=by simp only [Uv,Z]
   rw [this] at h; exact h.elim
  | some kvs=>
   have ek:Uv B (.ref i)=zo (kvs.map (λkv=>kP kv.1),i,kvs):=by simp only [Uv,Z]
   rw [ek] at h Y;have h:Acc X.mg E H ρ P (if (kvs.map (λkv=>kP kv.1)).length<=lim then Res.ok (kvs.map (λkv=>kP kv.1),[(i,.frd kvs)]) (B.set i (.frd kvs)) else .stuck):=h
   by_cases hl:(kvs.map (λkv=>kP kv.1)).length<=lim
   ·rw [bX hl] at h;have Y:qk m Γ st=Res.ok (kvs.map (λkv=>kP kv.1),[(i,.frd kvs)]) (B.set i (.frd kvs)):=Y.trans (bX hl);obtain ⟨a,ea,rfl⟩:=r1;obtain ⟨b,vs,eb,J,rd⟩:=R1.dic (Q0e Z);rw [ea] at eb;cases eb;refine ⟨a,vs,rfl,J,λo hn=>?_⟩;have mem:=D8 ea;have x2:Ext H1 ρ1 (upd H1 a (.frz o (.dK vs))) ρ1:=Ext.put mem J;have R2:Rel (upd H1 a (.frz o (.dK vs))) ρ1 (B.set i (.frd kvs)):=R1.putC ea J ⟨vs,⟨o,Qm⟩,rd.ext x2⟩;have hi:i < B.length:=(O0.mp (Q0e Z)).1;refine k (kvs.map (λkv=>kP kv.1),[(i,.frd kvs)]) (B.set i (.frd kvs)) _ ρ1 _ Y (x1.trans x2) R2 (G1.ext x2) (λy hy=>?_) (Ws hl) ?_ (h _ _ (x1.trans x2) R2)
    ·have:y=(i,.frd kvs):=by simpa using hy
     subst this;rw [D6 hi]
    ·have kl:vs.map bh=kvs.map bh:=rd.1;have len:kvs.length=vs.length:=rd.length;refine ⟨λH2 O U x R ok=>⟨x.frz a o _ Qm,by simp [len]⟩,λH2 O U x R ok j hj=>⟨x.frz a o _ Qm,by rw [<- len]; simpa using hj⟩,λH2 O U x R ok j p hp y H3 hy=>?_⟩
     obtain ⟨rfl,kv,a1,rfl⟩:=hy;refine ⟨Same.refl _,?_⟩;rw [E2] at hp;have I:(kvs.map bh)[j]?=zo kv.1:=by rw [<- kl,E2,a1]; rfl
     rw [E2] at I;cases z:kvs[j]? with
     | none=>rw [z] at I; cases I
     | some q=>
      rw [z] at I hp;cases hp;have I:q.1=kv.1:=bm I;rw [<- I];exact Qge q.1
   ·rw [bY hl] at h; exact h.elim
 | _=>exact h.elim⟩
def Ue (st st':Q0):Nat->Q0
 | 0=>st'
 | n + 1=>match st[n]?,(Ue st st' n)[n]? with
  | some (.dic _),zo (.frd kvs)=>(Ue st st' n).set n (.dic kvs)
  | _,_=>Ue st st' n
def jm (m:MS):MS:=λΓ st=>match m Γ st with
 | .nx Γ' st'=>.nx Γ' (Ue st st' st.length)
 | r=>r
theorem Qbi {pins:zAC} {σ G:St} {H H':Hp} {ρ ρ':Tk} {st st':Q0} {Y:Gam} {s0:aC} (I:Inv X pins σ H s0) (R:Rel H ρ st) (x:Ext H ρ H' ρ') (R':Rel H' ρ' st') (G':EnvR H' ρ' Y G) :
  ∀ n,∃ B,Ext H ρ B ρ'/\Rel B ρ' (Ue st st' n)/\EnvR B ρ' Y G/\∀ pins s',Inv X pins G H' s'->Inv X pins G B s'
 | 0=>⟨H',x,R',G',λ_ _ h=>h⟩
 | n + 1=>by
  obtain ⟨H1,J,Z,G1,h1⟩:=Qbi I R x R' G' n;rw [Ue]
  split
  ·rename_i a1 kvs e1 e2;obtain ⟨a,a2,ea,ha,_⟩:=R.dic e1;obtain ⟨b,vs,o,eb,hb,rd⟩:=Z.frd e2;have U:ρ'.tr[n]?=zo a:=by
    obtain ⟨more,em⟩:=x.pre;rw [<- em,O4 (O0.mp ea).1]; exact ea
   rw [U] at eb;cases eb;have O:=D8 U;have mem:=D8 ea;refine ⟨upd H1 a (.dK vs),⟨J.pre,J.hidM,J.hidN,λb u q nb=>?_,J.new,λb u q=>?_,λb u w q=>?_⟩,Z.putC U hb ⟨vs,Qm,rd.1,rd.2.retr O⟩,G1.retr O,λpins s' h=>(h1 pins s' h).thaw hb (I.noFrz ha)⟩
   ·rw [Q6 (show b≠a from λz=>nb (by rw [z]; exact mem))]; exact J.keep b u q nb
   ·by_cases z:b=a
    ·exact ⟨_,by rw [z]; exact Qm⟩
    ·rw [Q6 z]; exact J.old b u q
   ·rw [Q6 (show b≠a from λz=>by rw [z,ha] at q; cases q)]; exact J.frz b u w q
  ·exact ⟨H1,J,Z,G1,h1⟩
def Qjs {s:aM} {m:MS} (h:SimS X E s m):SimS X E s (jm m):=⟨λΓ σ H ρ st D R G J pins s0 I=>by
 let D1:Ends:={ D with nx:=λB H'=>∃ q,(∀ pins s',Inv X pins B H' s'->Inv X pins B q s')/\D.nx B q }
 have a1:AccS X.mg E D1 H ρ (m Γ st):=by
  unfold jm at J;cases U:m Γ st with
  | nx Y O=>
   rw [U] at J;intro B H' ρ' x R' G';obtain ⟨q,x2,R2,G2,h2⟩:=Qbi I R x R' G' st.length;exact ⟨q,h2,J B q ρ' x2 R2 G2⟩
  | ct Y O=>rw [U] at J; exact J
  | bk Y O=>rw [U] at J; exact J
  | rt v O=>rw [U] at J; exact J
  | exc y O=>rw [U] at J; exact J
  | stuck=>rw [U] at J; exact J.elim
 refine thn (h.run Γ σ H ρ st D1 R G a1 pins s0 I) λf s' Z=>?_
 cases f with
 | next=>
  obtain ⟨B,H',I',q,h1,h2⟩:=Z;exact ⟨B,q,h1 pins s' I',h2⟩
 | brk=>exact Z
 | cont=>exact Z
 | ret u=>exact Z⟩
@[simp] theorem Qti (Γ:Gam) (st:Q0):jp Γ st=.ok (.ref st.length) (st ++ [.dic []]):=rfl
end
def Ui:List PV->Option (List Int)
 | []=>zo []
 | .int i :: xs=>(Ui xs).map (i :: ·)
 | _ :: _=>zl
def Q2v:List PV->Option (List (List Int))
 | []=>zo []
 | .tup ys :: xs=>match Ui ys with
  | some (n :: ns)=>(Q2v xs).map ((n :: ns) :: ·)
  | _=>zl
 | _ :: _=>zl
def Jm (ns:List Int):PV:=.tup (ns.map .int)
theorem Q08 {H:Hp} {ρ:Tk}:∀ {xs:List PV} {ns:List Int} {vs:List V},Ui xs=zo ns->RepL H ρ xs vs->vs=ns.map V.int/\xs=ns.map PV.int
 | [],_,_,e,r=>by cases e; exact ⟨r,rfl⟩
 | .int i :: xs,ns,_,e,⟨v,t,G,q,B⟩=>by
  have e:(Ui xs).map (i :: ·)=zo ns:=e;cases z:Ui xs with
  | none=>rw [z] at e; cases e
  | some I=>
   rw [z] at e;cases e;obtain ⟨h1,h2⟩:=Q08 z B;have q:v=.int i:=q;exact ⟨by rw [G,q,h1]; rfl,by rw [h2]; rfl⟩
 | .non :: _,_,_,e,_=>by cases e
 | .bl _ :: _,_,_,e,_=>by cases e
 | .str _ :: _,_,_,e,_=>by cases e
 | .tup _ :: _,_,_,e,_=>by cases e
 | .lst _ :: _,_,_,e,_=>by cases e
 | .fro _ :: _,_,_,e,_=>by cases e
 | .ref _ :: _,_,_,e,_=>by cases e
 | .dic :: _,_,_,e,_=>by cases e
theorem Q7q {H:Hp} {ρ:Tk}:∀ {xs:List PV} {nss:List (List Int)} {vs:List V},Q2v xs=zo nss->RepL H ρ xs vs->xs=nss.map Jm/\aY (λ(v:V) (ns:List Int)=>ns≠[]/\∃ a,v=.ref a/\H a=zo (.tup (ns.map V.int))) vs nss
 | [],_,_,e,r=>by cases e; cases r; exact ⟨rfl,.nil⟩
 | .tup ys :: xs,nss,vs,e,⟨v,t,O,U,J⟩=>by
  have e:(match Ui ys with | some (n :: ns)=>(Q2v xs).map ((n :: ns) :: ·) | _=>zl)=zo nss:=e
  cases q:Ui ys with
  | none=>rw [q] at e; cases e
  | some ms=>
   cases ms with
   | nil=>rw [q] at e; cases e
   | cons n ns=>
    rw [q] at e;cases z:Q2v xs with
    | none=>rw [z] at e; cases e
    | some B=>
     rw [z] at e;cases e;obtain ⟨h1,h2⟩:=Q7q z J;obtain ⟨a,us,rfl,I,_,G⟩:=U;obtain ⟨Y,g2⟩:=Q08 q G;subst O;exact ⟨by rw [h1,g2]; rfl,.cons ⟨by simp,a,rfl,by rw [I,Y]⟩ h2⟩
 | .int _ :: _,_,_,e,_=>by cases e
 | .non :: _,_,_,e,_=>by cases e
 | .bl _ :: _,_,_,e,_=>by cases e
 | .str _ :: _,_,_,e,_=>by cases e
 | .lst _ :: _,_,_,e,_=>by cases e
 | .fro _ :: _,_,_,e,_=>by cases e
 | .ref _ :: _,_,_,e,_=>by cases e
 | .dic :: _,_,_,e,_=>by cases e
theorem Q5i {H:Hp} {ρ:Tk} {nss:List (List Int)} {vs:List V} (r:RepL H ρ (nss.map Jm) vs):∀ (q:List Nat),(∀ x∈q,x < vs.length)->RepL H ρ ((q.map λi=>nss.getD i []).map Jm) (q.map λi=>vs.getD i .non)
 | [],_=>rfl
 | x :: q,h=>by
  have J:=h x (by simp);have hl:=r.length;rw [O3] at hl;have I:(nss.map Jm)[x]?=zo (Jm (nss.getD x [])):=by
   rw [E2,O2 (),D5,O2 ()]; rfl
  have G:vs[x]?=zo (vs.getD x .non):=by rw [D5,O2 J]; rfl
  exact RepL.cons (r.i I G) (Q5i r q λy B=>h y (O7 _ B))
end Sm
namespace Sm
open PySem PySem.Spec PyProof.Rows L2
variable {X:Cx} {E:XK}
def Qh9:OpR X (aa .FloorDiv) (rI (λ_ j=>0 < j/\j < 1267650600228229401496703205376) λi j=>.int (i / j)):=opI λi j _ _ _ _ _ B q=>by
 have h1:(0:Int) < j:=B.1;have h2:j < 1267650600228229401496703205376:=B.2;refine floordiv_int () (by rw [fu i ()]; exact q) (.inl (PyProof.noPylong_of_log2 ?_));have:j.natAbs.log2 < 100:=(Nat.log2_lt ()).mpr (by
  rw [show (2:Nat) ^ 100=1267650600228229401496703205376 by decide];omega)
 omega
def Qby:OP:=λst p q=>match p,q with
 | .int a,.int b=>if 0 < b/\b < 1267650600228229401496703205376 then .ok (.int (a / b)) st else .stuck
 | _,_=>.stuck
def Qmg:OpS X E (aa .FloorDiv) Qby:=⟨λH ρ st p q x y Q R B I h=>by
 unfold Qby at h
 split at h
 ·cases B; cases I
  split at h
  ·rename_i G;exact WO.of Qh9 ⟨_,_,rfl,rfl,G,now R h rfl⟩
  ·exact h.elim
 ·exact h.elim⟩
@[simp] theorem Qtd (st:Q0) (a b:Int):Qby st (.int a) (.int b)=if 0 < b/\b < 1267650600228229401496703205376 then .ok (.int (a / b)) st else .stuck:=rfl
def Qrt:MS:=λ_ _=>.stuck
def Qpi {s:aM}:SimS X E s Qrt:=⟨λΓ σ H ρ st D R G h=>h.elim⟩
end Sm
namespace Sm
open PySem PySem.Spec L2
variable {H:Hp} {ρ:Tk} {st:Q0} {p:PV} {v:V} {ns:List Int} {K:be}
def Q9r:aZ "sorted" = zo (.builtin "sorted"):=by decide +kernel
variable {X:Cx} {E:XK} {pos apos tp:Pos} {e:aH} {m:ME} {elts:List aH} {kt:Nat}
def X5 (st:Q0):PV->Option (List PV × Nat × List (Key × PV))
 | .ref i=>match jy st i with
  | some kvs=>zo (kvs.map (λkv=>.tup [kP kv.1,kv.2]),i,kvs)
  | none=>zl
 | _=>zl
def yh (m:ME):MI:=λΓ st=>(m Γ st).bind λp st1=>match X5 st1 p with
 | some (ks,i,kvs)=>if ks.length<=lim then .ok (ks,[(i,.frd kvs)]) (st1.set i (.frd kvs)) else .stuck
 | none=>.stuck
def Qfu (ha:SimE X E e m) (J:bF e "items" X.env (aO e X.env)=aO e X.env) (U:(apos.endLine == pos.line)=zi) :
  SimI X E (.Tuple elts kt tp) (.Call (.Attribute e "items" apos) [] [] pos) (yh m):=⟨λΓ σ H ρ st P R' R G h k=>by
 have hb:Acc X.mg E H ρ _ (m Γ st):=Acc.bind h;refine WI.of (Qgu Zc J U) (ha.use' R G hb λp B H1 ρ1 v eq x1 R1 G1 r1 _=>?_);have hm:yh m Γ st=(match X5 B p with
  | some (ks,i,kvs)=>if ks.length<=lim then Res.ok (ks,[(i,.frd kvs)]) (B.set i (.frd kvs)) else .stuck
  | none=>.stuck):=by unfold yh; rw [eq]; rfl
 rw [hm] at h;cases p with
 | ref i=>
  cases ew:jy B i with
  | none=>
   have:X5 B (.ref i)=zl:=by simp only [X5,ew]
   rw [this] at h; exact h.elim
  | some kvs=>
   have ek:X5 B (.ref i)=zo (kvs.map (λkv=>.tup [kP kv.1,kv.2]),i,kvs):=by simp only [X5,ew]
   rw [ek] at h hm;have h:Acc X.mg E H ρ P (if (kvs.map (λkv=>PV.tup [kP kv.1,kv.2])).length<=lim then Res.ok (kvs.map (λkv=>PV.tup [kP kv.1,kv.2]),[(i,.frd kvs)]) (B.set i (.frd kvs)) else .stuck):=h
   by_cases hl:(kvs.map (λkv=>PV.tup [kP kv.1,kv.2])).length<=lim
   ·rw [bX hl] at h;have hm:yh m Γ st=Res.ok (kvs.map (λkv=>PV.tup [kP kv.1,kv.2]),[(i,.frd kvs)]) (B.set i (.frd kvs)):=hm.trans (bX hl);obtain ⟨a,ea,rfl⟩:=r1;obtain ⟨b,vs,eb,O,rd⟩:=R1.dic (Q0e ew);rw [ea] at eb;cases eb;refine ⟨a,vs,rfl,O,λo hn=>?_⟩;have mem:=D8 ea;have x2:Ext H1 ρ1 (upd H1 a (.frz o (.dK vs))) ρ1:=Ext.put mem O;have R2:Rel (upd H1 a (.frz o (.dK vs))) ρ1 (B.set i (.frd kvs)):=R1.putC ea O ⟨vs,⟨o,Qm⟩,rd.ext x2⟩;have hi:i < B.length:=(O0.mp (Q0e ew)).1;refine k (kvs.map (λkv=>PV.tup [kP kv.1,kv.2]),[(i,.frd kvs)]) (B.set i (.frd kvs)) _ ρ1 _ hm (x1.trans x2) R2 (G1.ext x2) (λy hy=>?_) (Ws hl) ?_ (h _ _ (x1.trans x2) R2)
    ·have:y=(i,.frd kvs):=by simpa using hy
     subst this;rw [D6 hi]
    ·have kl:vs.map bh=kvs.map bh:=rd.1;have len:kvs.length=vs.length:=rd.length;refine ⟨λH2 I a2 x R ok=>⟨x.frz a o _ Qm,by simp [len]⟩,λH2 I a2 x R ok j hj=>⟨x.frz a o _ Qm,by rw [<- len]; simpa using hj⟩,λH2 I a2 x R ok j p Z y H3 hy=>?_⟩
     obtain ⟨q,kv,Y,rfl,a1,rfl⟩:=hy;have sm:Same H2 (upd H2 q (.tup [kV kv.1,kv.2])):=Q3b Y;refine ⟨sm,?_⟩;rw [E2] at Z;cases z:kvs[j]? with
     | none=>rw [z] at Z; cases Z
     | some q'=>
      rw [z] at Z;cases Z;have e1:q'.1=kv.1:=by
       have e1:(kvs.map bh)[j]?=zo kv.1:=by rw [<- kl,E2,a1]; rfl
       rw [E2,z] at e1;exact bm e1
      have rv:Rep H2 I q'.2 kv.2:=by
       have r2:=(rd.2.ext x2).ext x;exact r2.i (by rw [E2,z]; rfl) (by rw [E2,a1]; rfl)
      refine ⟨q,_,rfl,Qm,R.fresh Y,RepL.cons ?_ (RepL.cons (rv.ext (Ext.same sm)) RepL.nil)⟩;rw [<- e1];exact Qge q'.1
   ·rw [bY hl] at h; exact h.elim
 | _=>exact h.elim⟩
def Q38 (st:Q0):PV->Option (List Int)
 | .tup xs=>Ui xs
 | p=>(Z9 st p).bind Ui
variable {a:aH} {ma:ME}
def Q02 (ma:ME):ME:=λΓ st=>(ma Γ st).bind λp st1=>match Q38 st1 p with
 | some ns=>if ns.length<=4000/\(Ys ns).length < 64 then .ok (.lst ((Ux (Ys ns)).map PV.int)) st1 else .stuck
 | none=>.stuck
def Qn4 (R:Rel H ρ st) (r:Rep H ρ p v) (e:(Z9 st p).bind Ui=zo ns):∃ c,v=.ref c/\(SqL K H c (ns.map V.int)\/SqT K H c (ns.map V.int)):=by
 cases q:Z9 st p with
 | none=>rw [q] at e; cases e
 | some xs=>
  rw [q] at e;obtain ⟨c,vs,rfl,B,I⟩:=X4 R r q;obtain ⟨G,_⟩:=Q08 (show Ui xs=zo ns from e) I;subst G;exact ⟨c,rfl,.inl (.inl B)⟩
def Qka (R:Rel H ρ st) (r:Rep H ρ p v) (e:Q38 st p=zo ns):∃ c,v=.ref c/\(SqL K H c (ns.map V.int)\/SqT K H c (ns.map V.int)):=by
 cases p with
 | tup xs=>
  obtain ⟨c,us,rfl,B,_,q⟩:=r;obtain ⟨G,_⟩:=Q08 (show Ui xs=zo ns from e) q;subst G;exact ⟨c,rfl,.inr (.inl (.inl B))⟩
 | _=>exact Qn4 R r e
theorem Q3h {H:Hp} {ρ:Tk}:∀ ns:List Int,RepL H ρ (ns.map PV.int) (ns.map V.int)
 | []=>rfl
 | n :: ns=>RepL.cons rfl (Q3h ns)
def Qa8 {p I pos':Pos} (ha:SimE X E a ma) (Z:X.calm=zi) (hg:Gl X "sorted") (hm:X.mg "sorted" = zl) (O:aZ "sorted" = zo (.builtin "sorted")) (U:Gl X "set") (Y:X.mg "set" = zl) (hb:aZ "set" = zo (.type "set")) (he:aQ [a] X.env=(zb,aO a X.env) :: aQ [] X.env)
  (B:aQ [.Call (.Name "set" I) [a] [] pos'] X.env=(zb,aO (.Call (.Name "set" I) [a] [] pos') X.env) :: aQ [] X.env):SimE X E (.Call (.Name "sorted" p) [.Call (.Name "set" I) [a] [] pos'] [] pos) (Q02 ma):=
 ⟨λΓ σ H ρ st Q R G hq=>WE.of (Q3s (Q7c Z) hg hm O (ze (Q0w (Qev Z) U Y hb (ze Zc Q3u he) (by decide) (by decide) he rfl) Q3u B) (by decide) (by decide) B rfl) (ha.use' R G hq.bind λq J H1 ρ1 v e1 x1 R1 G1 r1 h1=>by
  split at h1
  ·rename_i ns f
   split at h1
   ·rename_i hl;obtain ⟨c,rfl,hs⟩:=Qka (K:=X.K) R1 r1 f;refine ⟨c,ns,rfl,hs,hl.1,λl hn=>⟨l,Ys ns,rfl,Qm,hl.2,λd hd=>?_⟩⟩
    have x2:Ext H1 ρ1 (upd H1 l (Qee X.prog X.w l (Ys ns))) (ρ1.hide l):=Ext.hide hn;have R2:Rel (upd H1 l (Qee X.prog X.w l (Ys ns))) (ρ1.hide l) J:=R1.hide hn (by intro _ z; unfold Qee at z; cases z);exact h1 _ _ (x2.trans (Ext.add hd)) (R2.add hd) _ ⟨d,_,rfl,Qm,R2.fresh hd,Q3h _⟩
   ·exact h1.elim
  ·exact h1.elim)⟩
end Sm
namespace Sm
open PySem PySem.Spec PyProof.Rows L2
end Sm
namespace Sm
open PySem PySem.Spec L2 SeqAt
variable {vs:List (Key × V)}
def dEq (ks ls:List (Key × PV)):Bool:=decide (ks.length=ls.length) && ks.all λkv=>match Qy ls kv.1 with
 | none=>zb
 | some v=>peq kv.2 v
def Q0v (ks:List (Key × PV)):Bool:=ks.all λkv=>Za 0 kv.2
def Q5p (op:Bool) (st:Q0) (p q:PV):Res PV:=match y9 st p,y9 st q with
 | some ks,zo ls=>if Q0v ks=zi/\Q0v ls=zi then .ok (.bl (dEq ks ls == op)) st else .stuck
 | _,_=>.stuck
section
variable {X:Cx} {E:XK}
def Qn8 {us:List (Key × aA)} (r:KV vs us):us.map bh=vs.map bh:=by
 induction r with
 | nil=>rfl
 | cons q _ B=>rw [O5,O5,B,q.1]
theorem Q2f {β:Type}:∀ {l:List (Key × β)} {k:Key} {v:β},(l.map bh).Nodup->(k,v)∈l->(l.find? λkv=>decide (kv.1=k)).map (·.2)=zo v
 | [],_,_,_,h=>by cases h
 | a :: l,k,v,nd,h=>by
  rw [O5,cT] at nd;rw [G8];rcases D3.mp h with e | h
  ·subst e; simp
  ·have:a.1≠k:=λz=>nd.1 (by rw [z]; exact L9.mpr ⟨_,h,rfl⟩)
   rw [bZ this];exact Q2f nd.2 h
def Q0p {H:Hp} {ρ:Tk} {ks:List (Key × PV)} {I:List (Key × aA)} (r:RepD H ρ ks vs) (kv:KV vs I) (O:Q0v ks=zi) (k:Key):(Qy ks k=zl/\af I k=zl)\/∃ p v u,Qy ks k=zo p/\af I k=zo u/\Rep H ρ p v/\RelV v u/\Za 0 p=zi:=by
 have B:=kv.val k;rcases ja r k with ⟨G,J⟩ | ⟨p,v,G,J,U⟩
 ·left
  rw [J] at B;refine ⟨G,?_⟩;cases z:af I k with
  | none=>rfl
  | some u=>rw [z] at B; exact B.elim
 ·right
  rw [J] at B;cases z:af I k with
  | none=>rw [z] at B; exact B.elim
  | some u=>
   rw [z] at B;refine ⟨p,v,u,G,rfl,U,B,?_⟩;unfold Qy at G;cases f:ks.find? (λkv=>decide (kv.1=k)) with
   | none=>rw [f] at G; cases G
   | some q=>
    rw [f] at G;cases G;exact E8.mp O q (List.mem_of_find?_eq_some f)
def Qbv (op:Bool) (hu:X.A.units + 64 < aX):OpS X E (aU (if op=zi then .Eq else .NotEq)) (Q5p op):=⟨λH ρ st p q x y Q R rp rq h=>by
 unfold Q5p at h
 split at h
 ·rename_i ks G e1 e2
  split at h
  ·rename_i hp;obtain ⟨_,a,va,rfl,rfl,_,ha,ra⟩:=Ki R rp e1;obtain ⟨_,b,vb,rfl,rfl,_,hb,rb⟩:=Ki R rq e2;intro pins s σ v u I rv ru;cases rv;cases ru;obtain ⟨_,sa,O,ka,da⟩:=Q1n I.hok ha;obtain ⟨_,sb,wb,kb,db⟩:=Q1n I.hok hb;have a1:(O.map bh).Nodup:=by obtain ⟨_,_,_,_,_,_,_,_,n⟩:=da; exact n
   have U:O.map bh=ks.map bh:=(Qn8 ka).trans ra.1;have a2:(ks.map bh).Nodup:=by rw [<- U]; exact a1
   have Z:decide (O.length=wb.length)=decide (ks.length=G.length):=by rw [<- ka.length,<- kb.length,ra.length,rb.length]
   refine Qnf op (e:=λk=>match Qy ks k,Qy G k with | some p,zo q=>peq p q | _,_=>zb) sa sb da db () (λk v u hm hv=>?_) ⟨.bl _,H,I,rfl,?_⟩
   ·have h1:af O k=zo v:=Q2f a1 hm;rcases Q0p ra ka hp.1 k with ⟨_,z⟩ | ⟨p,x,v',z1,z2,z3,z4,z5⟩
    ·rw [z] at h1; cases h1
    ·rw [h1] at z2;cases z2;rcases Q0p rb kb hp.2 k with ⟨_,z⟩ | ⟨q,y,u',y1,J,y3,y4,y5⟩
     ·rw [z] at hv; cases hv
     ·rw [hv] at J;cases J;rw [z1,y1];exact (Q9c 0 I z5 y5 (by rw [Around.in1_units]; omega) z3 z4 y3 y4).1
   ·have Y:O.all (Q55 wb λk=>match Qy ks k,Qy G k with | some p,zo q=>peq p q | _,_=>zb)=ks.all λkv=>match Qy G kv.1 with | none=>zb | some v=>peq kv.2 v:=by
     have e3:∀ (g:Key->Bool) (l:List (Key × aA)),(l.all λkv=>g kv.1)=(l.map bh).all g:=λg l=>by rw [cC]; rfl
     have e4:∀ (g:Key->Bool) (l:List (Key × PV)),(l.all λkv=>g kv.1)=(l.map bh).all g:=λg l=>by rw [cC]; rfl
     have e5:=e3 (λk=>match af wb k with | none=>zb | some _=>match Qy ks k,Qy G k with | some p,zo q=>peq p q | _,_=>zb) O;rw [U,<- e4] at e5;refine Eq.trans e5 ?_;rw [fU,E8,E8];have pt:∀ kv∈ks,(match af wb kv.1 with | none=>zb | some _=>match Qy ks kv.1,Qy G kv.1 with | some p,zo q=>peq p q | _,_=>zb)=(match Qy G kv.1 with | none=>zb | some v=>peq kv.2 v):=λkv B=>by
      have h0:Qy ks kv.1=zo kv.2:=Q2f a2 B;rcases Q0p rb kb hp.2 kv.1 with ⟨y1,J⟩ | ⟨q,y,u',y1,J,_⟩
      ·rw [y1,J]
      ·rw [y1,J,h0]
     constructor
     ·intro hh kv B; rw [<- pt kv B]; exact hh kv B
     ·intro hh kv B; rw [pt kv B]; exact hh kv B
    rw [Y,Z];exact now R h rfl
  ·exact h.elim
 ·exact h.elim⟩
variable {o:aH} {mo:ME} {apos cpos:Pos}
end
section
variable {X:Cx} {E:XK}
def Qw0 (ks:List (Key × PV)):Bool:=ks.all λkv=>match kv.1 with
 | .inl _=>zi
 | .inr _=>zb
def Qdj:∀ {p:PV},Za 0 p=zi->peq p p=zi
 | .non,_=>rfl
 | .bl _,_=>by simp [peq]
 | .int _,_=>by simp [peq]
 | .str _,_=>by simp [peq]
 | .tup _,h=>by cases h
 | .lst _,h=>by cases h
 | .fro _,h=>by cases h
 | .ref _,h=>by cases h
 | .dic,h=>by cases h
variable {e o i:aH} {m mo mi:ME} {pos tpos:Pos}
end
end Sm
namespace L2
open PySem PySem.Spec PyProof.Rows
def Qef {X:Cx}:Qwx X (Qqg X.K):=by
 intro pins s σ H x y v u Q I Z U h;obtain ⟨p,xs,i,z,rfl,rfl,hq,he,q⟩:=h;cases Z;obtain ⟨t,rfl⟩:=U;obtain ⟨its,r,J,hz⟩:=I.list hq;obtain ⟨j,h1,h2,h3,h4,Y⟩:=atI_get he;obtain ⟨w,O,G⟩:=r.get h2;have hl:=r.length;have hn:=yi;have fin:EP X pins σ Q w s:=⟨z,H,I,G,q⟩
 by_cases h0:0<=i
 ·have B:i.toNat=j:=by
   rw [seqIndex_of h0 Y] at h1;exact bm h1
  exact wpAny_getItem_list J.isList h0 () (by rw [B]; simpa using O) fin
 ·have B:(i + (its.toArray.size:Int)).toNat=j:=by
   rw [seqIndex_neg () h4] at h1;have:=bm h1;simp; omega
  exact wpAny_getItem_list_neg J.isList () (by simp; omega) (by simp; omega) (by rw [B]; simpa using O) fin
end L2
namespace Sm
open PySem PySem.Spec PyProof.Rows L2
variable {X:Cx} {E:XK} {pos:Pos} {e:aH} {m:ME}
def Qc6 (mo mi:ME) (f:Int->Int->Int) (m:ME):MS:=λΓ st=>(mo Γ st).sbind λo st1=>(mi Γ st1).sbind λi st2=>match Z9 st2 o,i with
 | some xs,.int j=>match atI xs j with
  | some (.int a)=>(m Γ st2).sbind λv st4=>match v with
   | .int b=>match Uf st4 o i (.int (f a b)) with
    | some st5=>.nx Γ st5
    | none=>.stuck
   | _=>.stuck
  | _=>.stuck
 | _,_=>.stuck
def Qjv {o i:aH} {mo mi:ME} {tpos:Pos} {op:Operator} {f:Int->Int->Int} (hp:PIp X op (ipI f)) (ho:SimE X E o mo) (hi:SimE X E i mi) (he:SimE X E e m)
  (ha:∀ B I new,augStore i B I new=(do aw [new,B,I] (setItem B I new); release [new,B,I] []; pure .next)) :
  SimS X E (.AugAssign (.Subscript o i tpos) op e pos) (Qc6 mo mi f m):=
 ⟨λΓ σ H ρ st D R G h=>WS.of (Qkx Zc Zc Qef Zc hp Q7y ha) (ho.use R G h.bind λB a1 H1 ρ1 x x1 R1 G1 r1 h1=>hi.use R1 G1 h1.bind λI a3 H2 a2 y x2 R2 G2 r2 h2=>by
  split at h2
  ·rename_i xs j el
   split at h2
   ·rename_i a ea;obtain ⟨b,vs,rfl,hb,rb⟩:=X4 R2 (r1.ext x2) el;obtain ⟨z,ez,rz⟩:=rb.atI ea;cases rz;have ey:=r2;cases r2;refine ⟨b,vs,j,_,rfl,rfl,.inl hb,ez,he.use R2 G2 h2.bind λp O H4 U w Z R4 G4 r4 q=>?_⟩;cases p with
    | int c=>
     cases r4;dsimp only at q;cases es:Uf O B (.int j) (.int (f a c)) with
     | none=>rw [es] at q; exact q.elim
     | some a4=>
      rw [es] at q;obtain ⟨a',J,k',j',e1,e2,f1,f2,Y,R5⟩:=Qbp (p:=.int (f a c)) (z:=.int (f a c)) R4 (r1.ext (x2.trans Z)) (ey.ext Z) rfl es;exact ⟨a,c,rfl,rfl,a',J,k',j',e1,e2,f1,f2,q σ _ U Y R5 (G4.ext Y)⟩
    | _=>exact q.elim
   ·exact h2.elim
  ·exact h2.elim)⟩
@[simp] theorem Qvx (mo mi:ME) (f:Int->Int->Int) (m:ME) (Γ:Gam) (st:Q0):Qc6 mo mi f m Γ st=(mo Γ st).sbind λo B=>(mi Γ B).sbind λi q=>(match Z9 q o,i with
 | some xs,.int j=>(match atI xs j with
  | some (.int a)=>(m Γ q).sbind λv I=>(match v with
   | .int b=>(match Uf I o i (.int (f a b)) with
    | some G=>.nx Γ G
    | none=>.stuck)
   | _=>.stuck)
  | _=>.stuck)
 | _,_=>.stuck):=rfl
end Sm
namespace Sm
open PySem PySem.Spec L2
variable {X:Cx} {E:XK} {o:aH} {mo:ME} {apos cpos:Pos} {to:TE}
def Qr2 (Y:PE X o to) (G:bF o "clear" X.env (aO o X.env)=aO o X.env:=by rfl) (B:(apos.endLine == cpos.line)=zi:=by rfl):PE X (.Call (.Attribute o "clear" apos) [] [] cpos)
  (λσ H Q=>to σ H λx H1=>(tyV X.K "list" x H1/\WM X "list.clear" x [] H1 Q)\/(tyV X.K "dict" x H1/\WM X "dict.clear" x [] H1 Q)):=by
 intro pins s σ H Q I h;refine wpAny_Call_method0_late G B (thn (Y pins s σ H _ I h) λv s1 ⟨x,H1,O,J,q⟩=>?_)
 rcases q with ⟨ty,U⟩ | ⟨ty,U⟩
 ·obtain ⟨h1,h2⟩:=Q9v O J ty;exact ⟨"list", "list.clear",fW,PySem.F.slot_list_clear,PySem.F.type_list_clear,h1,h2,Calls.callWith_builtin rfl (fI (Qrq pins s1 σ H1 x [] v [] Q O J .nil U))⟩
 ·obtain ⟨h1,h2⟩:=Q9v O J ty;exact ⟨"dict", "dict.clear",PySem.F.plainAttrs_dict,gX,PySem.F.type_dict_clear,h1,h2,Calls.callWith_builtin rfl (fI (Qrq pins s1 σ H1 x [] v [] Q O J .nil U))⟩
def Qe2 (mo:ME):ME:=λΓ st=>(mo Γ st).bind λp st1=>match p with
 | .ref i=>match st1[i]? with
  | some (.lst _)=>.ok .non (st1.set i (.lst []))
  | some (.dic _)=>.ok .non (st1.set i (.dic []))
  | _=>.stuck
 | _=>.stuck
def Qq8 (ho:SimE X E o mo) (I:bF o "clear" X.env (aO o X.env)=aO o X.env) (B:(apos.endLine == cpos.line)=zi):SimE X E (.Call (.Attribute o "clear" apos) [] [] cpos) (Qe2 mo):=
 ⟨λΓ σ H ρ st Q R G h=>WE.of (Qr2 Zc I B) (ho.use R G h.bind λp q H1 ρ1 v x1 J G1 Y h1=>by
  split at h1
  ·rename_i i
   split at h1
   ·rename_i xs e;have el:Z9 q (.ref i)=zo xs:=Qe4 e;obtain ⟨a,vs,rfl,hr,_⟩:=X4 J Y el;refine .inl ⟨.inl ⟨rfl,vs,.inl hr⟩,ms_clear.run (E:=E) H1 ρ1 q (.ref i) [] _ [] Q J Y rfl ?_⟩;have:Q2a q (.ref i) []=.ok .non (q.set i (.lst [])):=by
     simp only [Q2a,chg,e]
    rw [this]; exact h1
   ·rename_i kvs e;obtain ⟨a,U,rfl⟩:=Y;obtain ⟨b,vs,Z,O,rd⟩:=J.dic e;rw [U] at Z;cases Z;refine .inr ⟨.inr (.inr (.inl ⟨rfl,.inl ⟨vs,O⟩⟩)),WM.of Qds ⟨a,vs,rfl,rfl,O,?_⟩⟩;have x2:Ext H1 ρ1 (upd H1 a (.dK [])) ρ1:=Ext.put (D8 U) O;exact h1 _ ρ1 x2 (J.putC U O ⟨_,Qm,rfl,rfl⟩) _ rfl
   ·exact h1.elim
  ·exact h1.elim)⟩
def Q4j:CF:=λst ps=>match ps with
 | [p]=>match Z9 st p with
  | some xs=>match Q2v xs with
   | some nss=>if nss.length < 64 then .ok (.ref st.length) (st ++ [.lst ((xc nss).map Jm)]) else .stuck
   | none=>.stuck
  | none=>.stuck
 | _=>.stuck
def Qig:CallS X E (.builtin "sorted") Q4j:=⟨λH ρ st ps xs Q R J h=>by
 unfold Q4j at h
 split at h
 ·rename_i p;obtain ⟨v,rfl,r⟩:=Zb J
  split at h
  ·rename_i ys U
   split at h
   ·rename_i nss en
    split at h
    ·rename_i Z;obtain ⟨a,vs,rfl,O,q⟩:=X4 R r U;obtain ⟨g1,g2⟩:=Q7q en q;subst g1;have hl:=q.length;rw [O3] at hl;refine WC.of Q7b ⟨a,vs,nss,rfl,.inl O,by omega,g2,λd B hd I Y=>?_⟩;have G:=Q5i q B λx hx=>by have:=I.mem_iff.mp hx; simpa using this
     rw [Y] at G;have x:Ext H ρ (upd H d (.lst (B.map λi=>vs.getD i .non))) (ρ.add d):=Ext.addT hd;refine h _ _ x (R.addC hd ⟨_,Qm,G.ext x⟩) _ ⟨d,?_,rfl⟩;show (ρ.tr ++ [d])[st.length]?=zo d;rw [<- R.len,D0 (O6 _),cJ]; rfl
    ·exact h.elim
   ·exact h.elim
  ·exact h.elim
 ·exact h.elim⟩
end Sm
namespace Sm
open PySem PySem.Spec PyProof.Rows L2
end Sm
namespace Sm
open PySem PySem.Spec L2
variable {K:be} {mg:zAG} {h:Heap} {st s:aM} {ps:List Str} {f a:aB} {oc:aA} {P:aL} {fd:aR} {n:Nat} {F:FN} {α:Type} {o:Obj}
def tgN:aH->List Str
 | .Name x _=>[x]
 | .Tuple es _ _=>es.flatMap λe=>match e with
  | .Name x _=>[x]
  | _=>[]
 | _=>[]
def Q1r (N:List Str) (tg:aH) (cap:zAE):List Str:=tgN tg ++ cap.filterMap λo=>o.bind (N[·]?)
def Qvq {l:List Str} (h:decide l.Nodup=zi):l.Nodup:=of_decide_eq_true h
structure KR (b:Bool):Prop where
 h:b=zi
variable {X:Cx} {E:XK} {pos:Pos} {tg iter elt:aH} {ifs:List aH} {sc:Scope} {ga:GA} {mi:MI} {mt:MT} {me:ME} {x:Str} {px cpos:Pos}
section
variable {cap:zAE} {i:Nat}
def Qfs (q:X.calm=zi) (U:KR (compOkC X.N (Q1r X.N tg cap) sc X.env.scope cap)) (hs:∀ x,bI iter X.env x=pure x) (O:Q1t cap ga) (hi:SimI X E tg iter mi) (G:∀ cl C B H0 ex,SimG (Yz X (Q1r X.N tg cap) sc cl C B H0 ex) tg ga) (J:∀ cl C B H0 ex,SimE (Yz X (Q1r X.N tg cap) sc cl C B H0 ex) E0 elt me) (I:∀ cl C B H0 ex,SimTs (Yz X (Q1r X.N tg cap) sc cl C B H0 ex) ifs mt):SimN X E (.ListComp elt [⟨tg,iter,ifs,0⟩] sc pos) (J3 cap ga mi mt me):=
 Qk2 cap _ q hi G J I O rfl rfl U.h hs
def Qd0 (O:swapsWith (.ListComp elt [⟨tg,iter,ifs,0⟩] sc cpos) (zo (.Name x px)) pos.line X.env=pure zi) (J:X.N.Nodup) (q:X.calm=zi) (I:X.N[i]?=zo x) (hx:Loc X.env.scope x) (hc:KR (compOkC X.N (Q1r X.N tg cap) sc X.env.scope cap)) (hs:∀ x,bI iter X.env x=pure x) (G:X.fn x=zi\/X.env.scope.names.lookup x=zo .local) (hf:Q1t cap ga) (hi:SimI X E tg iter mi) (U:∀ cl C B H0 ex,SimG (Yz X (Q1r X.N tg cap) sc cl C B H0 ex) tg ga) (Z:∀ cl C B H0 ex,SimE (Yz X (Q1r X.N tg cap) sc cl C B H0 ex) E0 elt me) (Y:∀ cl C B H0 ex,SimTs (Yz X (Q1r X.N tg cap) sc cl C B H0 ex) ifs mt):SimS X E (.Assign [.Name x px] (.ListComp elt [⟨tg,iter,ifs,0⟩] sc cpos) pos) (Qr i (Wr (J3 cap ga mi mt me))):=
 Qfn cap _ i J q hi U Z Y hf I hx O rfl rfl hc.h hs G
end
structure AtS (K:be) (mg:zAG) (name:Str) (st:aM) (ps:List Str) (f:aB) (fd:aR):Prop where
 F:Fun K name name st f fd
 m:mg name=zo (.ref f)
 b:Binds K fd ps []
def Qsy {name:Str} {st:aM} {ps:List Str} {f:aB} {oc:aA} {U J:Option aB} {O:Array (Option aA)} {kV B I q ct:aA} (X:K.In h) (G:h.Ns aV mg)
  (a:bo K aV name=zo (zo (.ref f))) (l:K.lookup f=zo ⟨oc,U,.func (bu name name (Wn st) (Zz st) (Q9 st) .none kV B I J q ct),O⟩) (c:cm K q name=zi) (k:cS K (.ref f)=zi)
  (b:∀ (kV B I:aA) (J:Option aB) (q ct:aA) (us:List aA),us.length=ps.length->bindArgs (bu name name (Wn st) (Zz st) (Q9 st) .none kV B I J q ct) ⟨us,[]⟩=pure (ps.zip us)) :
  AtS K mg name st ps f (bu name name (Wn st) (Zz st) (Q9 st) .none kV B I J q ct):=
 have F:=Qi4 (st:=st) l c k
 ⟨F,dX X G a,F.binds b⟩
def AtS.def {w:aK} {base:Heap} {name:Str} {k:Nat} (a:AtS K mg name st ps f fd) (q:ps.length=n) (G:FnOk P w K mg base (CXD P w) k f fd ps (spF mg n F)):DefS P w K mg base k name n F:=
 ⟨f,fd,ps,G,a.m,a.F.kp,a.b,q⟩
def FL (K:be) (x ql:Str) (s:aM) (f:aB):Prop:=∃ (oc:aA) (od:Option aB) (kV dc pm:aA) (an:Option aB) (cd ct:aA) (sl:Array (Option aA)),K.lookup f=zo ⟨oc,od,.func (bu x ql (Wn s) (Zz s) (Q9 s) .none kV dc pm an cd ct),sl⟩/\cm K cd ql=zi/\cS K (.ref f)=zi
def FL.fn {q:Str} (h:FL K x q s f):∃ fd,Fun K x q s f fd:=let ⟨_,_,_,_,_,_,_,_,_,l,c,k⟩:=h; ⟨_,Qi4 l c k⟩
def FA (K:be) (x:Str) (s:aM) (f:aB):Prop:=bo K aV x=zo (zo (.ref f))/\FL K x x s f
def FA.mk {G I:Option aB} {sl:Array (Option aA)} {kV q B cd ct:aA} (a:bo K aV x=zo (zo (.ref f))) (l:K.lookup f=zo ⟨oc,G,.func (bu x x (Wn s) (Zz s) (Q9 s) .none kV q B I cd ct),sl⟩) (c:cm K cd x=zi) (k:cS K (.ref f)=zi):FA K x s f:=⟨a,_,_,_,_,_,_,_,_,_,l,c,k⟩
def ln1 {l:List α} (h:l.length=1):∃ a,l=[a]:=match l,h with | [_],_=>⟨_,rfl⟩
def ln2 {l:List α} (h:l.length=2):∃ a b,l=[a,b]:=match l,h with | [_,_],_=>⟨_,_,rfl⟩
def ln3 {l:List α} (h:l.length=3):∃ a b c,l=[a,b,c]:=match l,h with | [_,_,_],_=>⟨_,_,_,rfl⟩
def ln4 {l:List α} (h:l.length=4):∃ a b c d,l=[a,b,c,d]:=match l,h with | [_,_,_,_],_=>⟨_,_,_,_,rfl⟩
def ln5 {l:List α} (h:l.length=5):∃ a b c d e,l=[a,b,c,d,e]:=match l,h with | [_,_,_,_,_],_=>⟨_,_,_,_,_,rfl⟩
def ln6 {l:List α} (h:l.length=6):∃ a b c d e f,l=[a,b,c,d,e,f]:=match l,h with | [_,_,_,_,_,_],_=>⟨_,_,_,_,_,_,rfl⟩
def ln7 {l:List α} (h:l.length=7):∃ a b c d e f g,l=[a,b,c,d,e,f,g]:=match l,h with | [_,_,_,_,_,_,_],_=>⟨_,_,_,_,_,_,_,rfl⟩
def FL.bd {q:Str} {ps:List Str} (h:FL K x q s f)
  (b:∀ (kV B J:aA) (I:Option aB) (G ct:aA) (us:List aA),us.length=ps.length->bindArgs (bu x q (Wn s) (Zz s) (Q9 s) .none kV B J I G ct) ⟨us,[]⟩=pure (ps.zip us)):∃ fd,Fun K x q s f fd/\Binds K fd ps []:=
 let ⟨_,F⟩:=h.fn
 ⟨_,F,F.binds b⟩
def Wv {name:Str} (ps:List Str) (X:K.In h) (G:h.Ns aV mg) (a:FA K name st f)
  (b:∀ (kV q J:aA) (O:Option aB) (I ct:aA) (us:List aA),us.length=ps.length->bindArgs (bu name name (Wn st) (Zz st) (Q9 st) .none kV q J O I ct) ⟨us,[]⟩=pure (ps.zip us):=by
   intro _ _ _ _ _ _ us hl
   first | (obtain ⟨_,rfl⟩:=ln1 hl; rfl) | (obtain ⟨_,_,rfl⟩:=ln2 hl; rfl)):∃ fd,AtS K mg name st ps f fd:=
 let ⟨a,l⟩:=a
 let ⟨_,F,B⟩:=l.bd b
 ⟨_,F,dX X G a,B⟩
def AtS.d {name:Str} {k:Nat} (a:AtS K mg name st ps f fd) (P:aL) (w:aK) (base:Heap) (q:ps.length=n) (G:FnOk P w K mg base (CXD P w) k f fd ps (spF mg n F)):DefS P w K mg base k name n F:=a.def q G
def noL (K:be):Bool:=K.all λp=>match p.2.data with
 | .seq _ _=>(match p.2.cls with
  | .type n=>!(n == ("list" : Str))
  | _=>zi)
 | _=>zi
def Qaq (h:K.lookup a=zo o):(a,o)∈K:=by
 induction K with
 | nil=>cases h
 | cons p K q=>
  obtain ⟨b,u⟩:=p;rw [cK] at h;cases e:a == b with
  | true=>
   rw [e] at h;have:a=b:=by simpa using e
   subst this;cases h;exact E3
  | false=>
   rw [e] at h;exact O7 _ (q h)
def Qrp {its:Array aA} (q:noL K=zi) (h:K.lookup a=zo o) (B:o.cls=.type "list") (hd:o.data=.seq its n):False:=by
 have:=E8.mp q _ (Qaq h);simp [B,hd] at this
theorem Q5j {H:Hp} {ρ:Tk}:∀ ns:List Int,RepL H ρ (ns.map .int) (ns.map V.int)
 | []=>rfl
 | n :: ns=>⟨_,_,rfl,rfl,Q5j ns⟩
def Qkk (H:Hp):Rel H Tk.nil []:=⟨rfl,fY,λa h=>(by cases h),λa h=>(by cases h),λi a c h=>(by simp [Tk.nil] at h)⟩
def Q6m (K:be):Sp:=λvs H Q _=>∃ (a:aB) (ns:List Int),vs=[.ref a]/\SqL K H a (ns.map V.int)/\ns.length<=63/\∀ H',Q (.bl zi) H'
def Qn6 {w:aK} {base:Heap} {CX:CXT} {k:Nat} {FL:FN} (G:noL K=zi) (F:FnOk P w K mg base CX k f fd ps (spF mg 1 FL)) (q:∀ ns:List Int,ns.length<=63->∃ st',FL [.fro (ns.map .int)] []=.ok (.bl zi) st'):FnOk P w K mg base CX k f fd ps (Q6m K):=F.imp λvs H Q E ⟨a,ns,e,B,hl,J⟩=>by
 subst e;obtain ⟨st',O⟩:=q ns hl;have U:Rd H a (.lst (ns.map V.int)):=by
  rcases B with h | ⟨o,its,n,h1,h2,Y,I,_⟩
  ·exact h
  ·exact (Qrp G h1 h2 I).elim
 refine ⟨rfl,Tk.nil,[],[.fro (ns.map .int)],Qkk H,⟨_,_,rfl,⟨a,_,rfl,U,Tk.not_nil a,Q5j ns⟩,rfl⟩,?_⟩;rw [O];intro H' ρ' x R v r;have e:v=.bl zi:=r;subst e;exact J H'
def Qie {w:aK} {H:Hp} {s:aC} {e:aA} {s':aC} (h:CXD P w [] H s (λ_ _ _=>False) e s'):False:=by
 obtain ⟨_,_,_,_,_,_,_,_,_,z⟩:=h;exact z
def walkS {l:fB} {k:Nat} {q:aL} {B:List Str} {XP:(Str->Option aA)->Heap->Prop} {I:aK->Heap->Prop} {d:DefRec} {K:Params->be} (Y:l.most=zo 63) (O:Room k callerA) (G:d.params.defaults=[])
  (Z:∀ (w:aK) (h:Heap),I w h->(K w.params).In h)
  (F:∀ (w:aK) (mg:zAG) (J:aB) (h:Heap),(K w.params).In h->h.Ns aV mg->mg d.name=zo (.ref J) ->
   ∃ fd:aR,(∀ (s:aC) (u:aA),BindsTo s fd ⟨[u],[]⟩ [("script",u)])/\∀ base:Heap,(K w.params).In base->base.Ns aV mg->FnOk l.prog w (K w.params) mg base (CXD l.prog w) k J fd ["script"] (Q6m (K w.params))) :
  gI q B XP I l.row.toRowW d [] (λf vs=>eu f vs):=
 L2.walk_of (n:=63) (k:=k) (x := "script") (CX:=λw=>CXD l.prog w) (sp:=λw=>Q6m (K w.params)) Y (by decide) G O Z F (λ_ _ a ns hl _ U=>⟨a,ns,rfl,U,hl,λ_=>rfl⟩) λ_ _ _ _ _ z=>Qie z
end Sm
namespace Lw
open PySem PySem.Spec L2 Sm
variable {f:zAH} {fd:aR} {b n M R j D h T A Hh Mm:Nat} {S st S1 S2 S' S3:Q0} {L:List (Nat × Nat × Nat)} {ns xs ys:List Int} {c mt:MT} {x mo am:Int} {α:Type} {ga:GA} {me:ME} {zs:List (PV × Bool)} {rs:zAB} {v:PV} {Γ:Gam} {r:SR} {mr:ML} {ps:List PV} {p:Nat × Option Nat} {mi:MI} {ks:List (Key × PV)}
def top (i:Nat):aM:=PySem.Challenge.pw_lendwharf_k43_whole_gathered_first.main.body.getD i (.Pass ⟨0,0,0,0⟩)
abbrev yd:aM:=top 5
abbrev Kw:aM:=top 6
abbrev j7:aM:=top 7
abbrev Q0r:aM:=top 11
abbrev W7:aM:=top 12
abbrev j8:aM:=top 13
abbrev Ku:aM:=top 14
abbrev yf:aM:=top 15
abbrev j6:aM:=top 16
abbrev Us:aM:=top 17
abbrev Xf:aM:=top 18
abbrev Xg:aM:=top 19
abbrev Q6q:aM:=top 21
abbrev Vy:aM:=top 22
abbrev Qg5:aM:=top 23
abbrev Kv:aM:=top 24
abbrev ye:aM:=top 25
abbrev Xe:aM:=top 26
abbrev Q3c:aM:=top 27
abbrev Q0s:aM:=top 28
abbrev Vz:aM:=top 30
abbrev Xj:aM:=top 31
abbrev W9:aM:=top 32
abbrev U1:aM:=top 33
abbrev Xi:aM:=top 34
abbrev U0:aM:=top 35
abbrev Ut:aM:=top 36
abbrev K2:aM:=top 37
abbrev Wq:aM:=top 38
abbrev U2:aM:=top 39
abbrev V4:aM:=top 40
abbrev Xh:aM:=top 41
abbrev W8:aM:=top 42
abbrev xm:aM:=top 43
structure Txt (mg:zAG):Prop where
 b_all:mg "all" = zl
 b_any:mg "any" = zl
 b_bool:mg "bool" = zl
 b_dict:mg "dict" = zl
 b_enumerate:mg "enumerate" = zl
 b_int:mg "int" = zl
 b_isinstance:mg "isinstance" = zl
 b_len:mg "len" = zl
 b_list:mg "list" = zl
 b_max:mg "max" = zl
 b_min:mg "min" = zl
 b_range:mg "range" = zl
 b_set:mg "set" = zl
 b_sorted:mg "sorted" = zl
 b_sum:mg "sum" = zl
 b_tuple:mg "tuple" = zl
 b_zip:mg "zip" = zl
 c_MOST_HOUSES:∃ t,mg "MOST_HOUSES" = zo (.int 8 t)
 c_MOST_ROUNDS:∃ t,mg "MOST_ROUNDS" = zo (.int 40 t)
local macro_rules|`(tactic|fail "m")=>do let a:=(("Qpw Qkf Qqc Qq6 Qke Qqa Qkd Qud Qpk Quc Qpg Qk9 Qeh Qeg Qi7 Qi6 Qqb Qq9 Qd8 Quf Qg3 Qq8 Qq7 Qg2 Qg1 Qg0 Qd7 Qkc Que Qq5 Qq4 Qq3 Qq2 Qq1 Qfz Qa8 Qq0 Qpz Qpy Qpx Qps Qfv Qk8 Qk7 Qfu Qk6 Qd6 Qd5 Qpr Qpq Qk1 Qpp Qk0 Qjz Qpn Qjv Qfp Qju Qjt Qpm Qub Qpi Qph Qjs Qfm Qfk Qpf Qpe Qjp Qjn Qpd Qjj Qua Qpb".splitOn " ").map λn=>Lean.mkIdent (.mkSimple n)).toArray;`(tactic|with_reducible first $[|apply $a]* | refine Q39 (T := "dict") (o:=yt) ?_ ?_ ?_ ?_ ?_ ?_ ?_ ?_ ?_ | refine Q39 (T := "list") (o:=Uy) ?_ ?_ ?_ ?_ ?_ ?_ ?_ ?_ ?_ | refine Q39 (T := "tuple") (o:=qi) ?_ ?_ ?_ ?_ ?_ ?_ ?_ ?_ ?_ | apply Qg4 | apply Qfs | apply SimW.t)
local macro_rules|`(tactic|fail "o")=>do let a:=(("Qsq Qsp Qih Qsn Qnj Qni Qsm Qsk Qig Qsj Qif Qs8 Qs7 Qra Qr9 Qmg Qv7 Qv6 Qv5 Qv4 Qr8 Qv3 Qh7 Qv2 Qv1 Qr7 Qr6 Qv0 Qh6 Qdk Qr5 Qr4".splitOn " ").map λn=>Lean.mkIdent (.mkSimple n)).toArray;`(tactic|first | (with_reducible first $[|apply $a]*) | exact Qbv zi (Room.units ‹_›) | exact Qbv zb (Room.units ‹_›))
local macro_rules | `(tactic| fail "r")=>`(tactic| first | rfl | assumption | decide | exact .inl rfl | exact .inr rfl | exact .inr (.inl rfl) | exact .inr (.inr rfl) | exact λ_=>rfl | exact λ_ _=>rfl | exact λ_ _ _=>rfl | exact ⟨by kernel_rfl⟩ | exact Qai _ | exact Room.mono ‹_› (by decide) | exact Qh3 | exact Qme | exact PassesOwn.leaving | exact FnScope.nd ‹_› | exact Qvq (by kernel_rfl) | exact Qkh ‹_› | exact Room.units ‹_› | exact Qgg | with_unfolding_all rfl)
local macro_rules | `(tactic| fail "s")=>`(tactic| first | (with_reducible first | exact PySem.boot_len | exact Qj3 | exact Qj2 | exact Qf3 | exact Qf2 | exact Qj1 | exact Q69 | exact Qj0 | exact Qiz | exact Qiy | exact Q9r | exact Qix | exact Qb9) | rfl | (fail "m" <;> fail "s") | (fail "o" <;> fail "r") | ((first | apply Qd0 | apply ss_compTA | apply Qpj) <;> fail "s") | fail "r" | (intro _ _ _ _ _; fail "s"))
local macro_rules | `(tactic| fail "k")=>`(tactic| (refine Qnd ‹_› ‹_› rfl rfl rfl ?_; fail "j"))
local macro_rules | `(tactic| fail "K")=>`(tactic| (refine Qi3 ‹_› ‹_› rfl rfl rfl ?_; fail "j"))
local macro_rules | `(tactic| fail "j")=>`(tactic| (intros; rcases ‹Txt _› with ⟨_,_,_,_,_,_,_,_,_,_,_,_,_,_,_,_,_,⟨_,_⟩,⟨_,_⟩⟩; show SimB _ _ (_ :: _) _; fail "s"))
local macro_rules | `(tactic| fail "c")=>`(tactic| exact ⟨rfl,rfl,rfl,by decide +kernel,rfl,by decide +kernel,by decide +kernel⟩)
variable {P:aL} {K:be} {mg:zAG} {base:Heap}
section
variable {w:aK}
def yg:MS:=(Qz (jr (qc "int" (Q1 0)) (Qn2 (qc "bool" (Q1 0)))))
def Ua:FN:=Qn yg 1
def Q8c {f:aB} (F:Fun K "is_whole" "is_whole" yd f fd) (T:Txt mg)   : FnOk P w K mg base (CXD P w) 1 f fd ["thing"] (spF mg 1 Ua):=by
 have:FnScope ["thing"] ["thing"] (Q9 yd):=by fail "c"
 delta Ua yg
 fail "k"
def q9:MS:=(Qz (jr (Qg 1 Ua (Q2 (Q1 0) Q7)) (qd (oI λa b=>.bl (decide (a<=b))) (oI λa b=>.bl (decide (a<=b))) (Q1 1) (Q1 0) (Q1 2))))
def Ja:FN:=Qn q9 3
def Q52 {f:aB} (F:Fun K "is_between" "is_between" Kw f fd) (T:Txt mg)  (q:DefS P w K mg base 1 "is_whole" 1 Ua):FnOk P w K mg base (CXD P w) 2 f fd ["thing", "least", "most"] (spF mg 3 Ja):=by
 have:FnScope ["thing", "least", "most"] ["thing", "least", "most"] (Q9 Kw):=by fail "c"
 delta Ja q9
 fail "k"
def Ub:ME:=(mOp oLt (Q1 0) (Q1 1))
def jh:MS:=(Qz (Qj (K6 λns=>.bl (ns.all id)) (Q2 (Wr (J3 [zl,zl] (Z2 (Qa (Q3 0) (Qa (Q3 1) Z3))) (Q8r (Q2 (Q1 0) (Q2 (mSl (Q1 0) (jn (mC (.int 1))) X2) Q7))) Z1 Ub)) Q7)))
def We:FN:=Qn jh 1
def Q6w {f:aB} (F:Fun K "is_rising" "is_rising" j7 f fd) (T:Txt mg)   : FnOk P w K mg base (CXD P w) 1 f fd ["things"] (spF mg 1 We):=by
 have:FnScope ["things"] ["things"] (Q9 j7):=by fail "c"
 delta We jh Ub
 fail "k"
def V9:ME:=(Qg 3 Ja (Q2 (Q1 0) (Q2 (mC (.int 0)) (Q2 (mOp (oI λa b=>.int (a - b)) (Q1 1) (mC (.int 1))) Q7))))
def zh : MS := (Q5 (J9 (Vw (Yb (toB (qc "tuple" (Q1 1)))) (toB (mOp oNe (Qj J4 (Q2 (Q1 1) Q7)) (mC (.int 2))))) (Qz (mC (.bl zb))) Qs)
  (Qz (jr (Qj (K6 λns=>.bl (ns.all id)) (Q2 (Wr (J3 [zl,zo 0] (Q3 0) (Vv (Q1 1)) Z1 V9)) Q7)) (mOp oNe (mOp oIx (Q1 1) (mC (.int 0))) (mOp oIx (Q1 1) (mC (.int 1)))))))
def Yy:FN:=Qn zh 2
def Qaf {f:aB} (F:Fun K "is_road" "is_road" Q0r f fd) (T:Txt mg)  (q:DefS P w K mg base 2 "is_between" 3 Ja):FnOk P w K mg base (CXD P w) 3 f fd ["n", "thing"] (spF mg 2 Yy):=by
 have:FnScope ["n", "thing"] ["n", "thing"] (Q9 Q0r):=by fail "c"
 delta Yy zh V9
 fail "k"
def Zh:ME:=(Qg 2 Yy (Q2 (Q1 1) (Q2 (Q1 0) Q7)))
def Y6 : MS := (Q5 (J9 (Yb (toB (qc "tuple" (Q1 1)))) (Qz (mC (.bl zb))) Qs)
  (Qz (jr (Qj (K6 λns=>.bl (ns.all id)) (Q2 (Wr (J3 [zl,zo 0] (Q3 0) (Vv (Q1 1)) Z1 Zh)) Q7)) (Qg 1 We (Q2 (Q1 1) Q7)))))
def Qq:FN:=Qn Y6 2
def qv {f:aB} (F:Fun K "are_roads_of_round" "are_roads_of_round" W7 f fd) (T:Txt mg)  (B:DefS P w K mg base 3 "is_road" 2 Yy) (q:DefS P w K mg base 1 "is_rising" 1 We):FnOk P w K mg base (CXD P w) 4 f fd ["n", "thing"] (spF mg 2 Qq):=by
 have:FnScope ["n", "thing"] ["n", "thing"] (Q9 W7):=by fail "c"
 delta Qq Y6 Zh
 fail "k"
def Uc:ME:=(Qg 2 Qq (Q2 (Q1 1) (Q2 (Q1 0) Q7)))
def ji : MS := (Q5 (J9 (Yb (toB (Qg 3 Ja (Q2 (Q1 0) (Q2 (mC (.int 1)) (Q2 (mC (.int 8)) Q7)))))) (Qz (mC (.bl zb))) Qs)
  (Q5 (J9 (Vw (Yb (toB (qc "list" (Q1 1)))) (toB (mOp (oI λa b=>.bl (decide (b < a))) (Qj J4 (Q2 (Q1 1) Q7)) (mC (.int 40))))) (Qz (mC (.bl zb))) Qs)
  (Qz (Qj (K6 λns=>.bl (ns.all id)) (Q2 (Wr (J3 [zl,zo 0] (Q3 0) (Vv (Q1 1)) Z1 Uc)) Q7)))))
def Wg:FN:=Qn ji 2
def Q6x {f:aB} (F:Fun K "are_roads" "are_roads" j8 f fd) (T:Txt mg)  (B:DefS P w K mg base 2 "is_between" 3 Ja) (q:DefS P w K mg base 4 "are_roads_of_round" 2 Qq):FnOk P w K mg base (CXD P w) 5 f fd ["n", "thing"] (spF mg 2 Wg):=by
 have:FnScope ["n", "thing"] ["n", "thing"] (Q9 j8):=by fail "c"
 delta Wg ji Uc
 fail "k"
def Kz : MS := (Q5 (J9 (Yb (toB (Qg 2 Wg (Q2 (Q1 0) (Q2 (Q1 1) Q7))))) Qrt Qs)
  (J9 (Yb (toB (Qg 3 Ja (Q2 (Q1 2) (Q2 (mC (.int 0)) (Q2 (mOp (oI λa b=>.int (a - b)) (Q1 0) (mC (.int 1))) Q7)))))) Qrt Qs))
def Zm:FN:=Qn Kz 3
def Q50 {f:aB} (F:Fun K "need_roads" "need_roads" Ku f fd) (T:Txt mg)  (B:DefS P w K mg base 5 "are_roads" 2 Wg) (q:DefS P w K mg base 2 "is_between" 3 Ja):FnOk P w K mg base (CXD P w) 6 f fd ["n", "roads", "house"] (spF mg 3 Zm):=by
 have:FnScope ["n", "roads", "house"] ["n", "roads", "house"] (Q9 Ku):=by fail "c"
 delta Zm Kz
 fail "k"
def Vr:MS:=(J9 (V8 (toB (mOp (Q6y zi) (Q1 6) (Q1 3))) (V8 (toB (mOp (Q6y zb) (Q1 5) (Q1 3))) (toB (mOp (oI λa b=>.bl (decide (a<=b))) (mOp oIx (Zu (Q1 3) (Q1 5)) (mC (.int 0))) (Q1 4))))) (jq (Q1 3) (Q1 6) (Q01 (Q2 (mOp Y1 (Q1 4) (mC (.int 1))) (Q2 (Q1 5) Q7)))) Qs)
def Vs:MS:=(Vi (Z2 (Qa (Q3 5) (Qa (Q3 6) Z3))) (Vv (mOp oIx (Q1 0) (Q1 4))) Vr)
def Xr : MS := (Q5 (Qr 3 (Q71 (Q1 1) (Q01 (Q2 (Q1 2) (Q2 (mC .non) Q7)))))
  (Q5 (Vi (Q3 4) (zj (Q2 (Q1 2) (Q2 (Qj J4 (Q2 (Q1 0) Q7)) Q7))) Vs)
  (Qz (Q1 3))))
def Ya:FN:=Jx Xr 7
def Q8e {f:aB} (F:Fun K "arrivals" "arrivals" yf f fd) (T:Txt mg)   : FnOk P w K mg base (CXD P w) 1 f fd ["roads", "house", "moment"] (spF mg 3 Ya):=by
 have:FnScope ["roads", "house", "moment", "found", "number", "i", "j"] ["roads", "house", "moment"] (Q9 yf):=by fail "c"
 delta Ya Xr Vs Vr
 fail "K"
def Xy:MS:=(Qz (mIf (toB (mOp (Q6y zb) (Q1 1) (Q1 0))) (mOp oIx (Zu (Q1 0) (Q1 1)) (mC (.int 0))) (mC .non)))
def Zp:FN:=Qn Xy 2
def Q6v {f:aB} (F:Fun K "moment_of" "moment_of" j6 f fd) (T:Txt mg)   : FnOk P w K mg base (CXD P w) 1 f fd ["found", "house"] (spF mg 2 Zp):=by
 have:FnScope ["found", "house"] ["found", "house"] (Q9 j6):=by fail "c"
 delta Zp Xy
 fail "k"
def W0:ME:=(Q01 (Q2 (Q1 0) (Q2 (Qg 2 Zp (Q2 (Q1 1) (Q2 (Q1 0) Q7))) Q7)))
def Yt : MS := (Q5 (Qr 3 (Qg 3 Ya (Q2 (Q1 1) (Q2 (Q1 2) (Q2 (mC (.int 0)) Q7)))))
  (Qz (Qj yt (Q2 (Wr (J3 [zl,zo 3] (Q3 0) (Zg (Q2 (Q1 0) Q7)) Z1 W0)) Q7))))
def Qk:FN:=Jx Yt 4
def Q0y {f:aB} (F:Fun K "asked_moments" "asked_moments" Us f fd) (T:Txt mg)  (B:DefS P w K mg base 1 "arrivals" 3 Ya) (q:DefS P w K mg base 1 "moment_of" 2 Zp):FnOk P w K mg base (CXD P w) 2 f fd ["n", "roads", "house"] (spF mg 3 Qk):=by
 have:FnScope ["n", "roads", "house", "found"] ["n", "roads", "house"] (Q9 Us):=by fail "c"
 delta Qk Yt W0
 fail "K"
def Zq:MS:=(jq (Q1 3) (Q1 4) (mIf (toB (mOp oIs (Q1 5) (mC .non))) (mC .non) (Qg 2 Zp (Q2 (Qg 3 Ya (Q2 (Q1 1) (Q2 (Q1 4) (Q2 (Q1 5) Q7)))) (Q2 (Q1 2) Q7)))))
def Wa : MS := (Q5 (Qr 3 jp)
  (Q5 (Vi (Z2 (Qa (Q3 4) (Qa (Q3 5) Z3))) (yh (Qg 3 Qk (Q2 (Q1 0) (Q2 (Q1 1) (Q2 (Q1 2) Q7))))) Zq)
  (Qz (Q1 3))))
def Zw:FN:=Jx Wa 6
def Q1y {f:aB} (F:Fun K "home_moments" "home_moments" Xf f fd) (T:Txt mg)  (q:DefS P w K mg base 2 "asked_moments" 3 Qk) (B:DefS P w K mg base 1 "moment_of" 2 Zp) (G:DefS P w K mg base 1 "arrivals" 3 Ya):FnOk P w K mg base (CXD P w) 3 f fd ["n", "roads", "house"] (spF mg 3 Zw):=by
 have:FnScope ["n", "roads", "house", "moments", "one", "moment"] ["n", "roads", "house"] (Q9 Xf):=by fail "c"
 delta Zw Wa Zq
 fail "K"
def Yh:MS:=(Qc6 (Q1 2) (Q1 4) (λi j=>i - j) (Q1 6))
def Yg:MS:=(Qc6 (Q1 2) (Q1 5) (λi j=>i + j) (Q1 6))
def Zs : MS := (Q5 (Qr 2 (jj (qb (Q1 0))))
  (Q5 (Vi (Z2 (Qa (Q3 3) (Qa (Q3 4) (Qa (Q3 5) (Qa (Q3 6) Z3))))) (Vv (Q1 1)) Yh)
  (Q5 (J9 (toB (mOp oLt (Qj Qir (Q2 (Q1 2) Q7)) (mC (.int 0)))) (Qz (mC .non)) Qs)
  (Q5 (Vi (Z2 (Qa (Q3 3) (Qa (Q3 4) (Qa (Q3 5) (Qa (Q3 6) Z3))))) (Vv (Q1 1)) Yg)
  (Qz (Q1 2))))))
def Zx:FN:=Qn Zs 7
def Q1z {f:aB} (F:Fun K "behind_round" "behind_round" Xg f fd) (T:Txt mg)   : FnOk P w K mg base (CXD P w) 1 f fd ["has", "moves"] (spF mg 2 Zx):=by
 have:FnScope ["has", "moves", "left", "number", "i", "j", "k"] ["has", "moves"] (Q9 Xg):=by fail "c"
 delta Zx Zs Yg Yh
 fail "k"
def Q2b:MS:=(Qz (jr (mOp V6 (Q1 0) (mC .non)) (mOp (oI λa b=>.bl (decide (a<=b))) (Q1 0) (Q1 1))))
def X8:FN:=Qn Q2b 2
def Qhb {f:aB} (F:Fun K "is_by" "is_by" Q6q f fd) (T:Txt mg)   : FnOk P w K mg base (CXD P w) 1 f fd ["moment", "last"] (spF mg 2 X8):=by
 have:FnScope ["moment", "last"] ["moment", "last"] (Q9 Q6q):=by fail "c"
 delta X8 Q2b
 fail "k"
def Yq:ME:=(Q1 0)
def Ym:MT:=(toB (Qg 2 X8 (Q2 (Zu (Q1 2) (Q1 0)) (Q2 (Q1 1) Q7))))
def Yd:MS:=(Qz (Wr (J3 [zl,zo 1,zo 0] (Q3 0) (qk (Q1 0)) Ym Yq)))
def Ju:FN:=Qn Yd 2
def xq {f:aB} (F:Fun K "houses_home_by" "houses_home_by" Vy f fd) (T:Txt mg)  (q:DefS P w K mg base 1 "is_by" 2 X8):FnOk P w K mg base (CXD P w) 2 f fd ["homes", "moment"] (spF mg 2 Ju):=by
 have:FnScope ["homes", "moment"] ["homes", "moment"] (Q9 Vy):=by fail "c"
 delta Ju Yd Ym Yq
 fail "k"
def Q0i : MS := (Q5 (Xs (mBM Uh (Q1 5) (Q2 (Q01 (Q2 (mOp (oI λa b => .int (a - b)) (mOp oIx (Zu (Q1 4) (Q1 6)) (mC (.int 0))) (mC (.int 1))) (Q2 (mOp oIx (Zu (Q1 4) (Q1 6)) (mC (.int 1))) (Q2 (Q1 6) Q7)))) Q7)))
  (Qr 6 (mOp oIx (Zu (Q1 4) (Q1 6)) (mC (.int 1)))))
def Uz:MT:=(toB (mOp V6 (mOp oIx (Zu (Q1 4) (Q1 6)) (mC (.int 1))) (mC .non)))
def Q8q : MS := (Q5 (Qr 4 (Qg 3 Ya (Q2 (Q1 0) (Q2 (Q1 1) (Q2 (Q1 2) Q7)))))
  (Q5 (Qr 5 (jj (y0 Q7)))
  (Q5 (Qr 6 (Q1 3))
  (Q5 (Xb Uz Q0i 100000)
  (Qz (Q1 5))))))
def Q9u:FN:=Qn Q8q 7
def Qrk {f:aB} (F:Fun K "way" "way" Qg5 f fd) (T:Txt mg)  (q:DefS P w K mg base 1 "arrivals" 3 Ya):FnOk P w K mg base (CXD P w) 2 f fd ["roads", "house", "moment", "to"] (spF mg 4 Q9u):=by
 have:FnScope ["roads", "house", "moment", "to", "found", "taken", "at"] ["roads", "house", "moment", "to"] (Q9 Qg5):=by fail "c"
 delta Q9u Q8q Uz Q0i
 fail "k"
def Wc:ME:=(mOp Y1 (Q1 0) (Q01 (Q2 (mOp oIx (Q1 1) (Q1 2)) Q7)))
def Zv:MS:=(J9 (toB (mOp (oI λa b=>.bl (decide (b < a))) (mOp oIx (Q1 0) (Q1 7)) (mC (.int 0)))) (Xs (mBM Xp (Q1 6) (Q2 (Wr (J3 [zl,zo 0,zo 7] (Q3 0) (Vv (Qg 4 Q9u (Q2 (Q1 1) (Q2 (Q1 7) (Q2 (Zu (Q1 4) (Q1 7)) (Q2 (Q1 2) Q7)))))) Z1 Wc)) Q7))) Qs)
def Vf : MS := (Q5 (Qr 4 (Qg 3 Qk (Q2 (Qj J4 (Q2 (Q1 0) Q7)) (Q2 (Q1 1) (Q2 (Q1 2) Q7)))))
  (Q5 (Qr 5 (Qg 3 Zw (Q2 (Qj J4 (Q2 (Q1 0) Q7)) (Q2 (Q1 1) (Q2 (Q1 2) Q7)))))
  (Q5 (Qr 6 (jj (y0 Q7)))
  (Q5 (Vi (Q3 7) (Vv (Qg 2 Ju (Q2 (Q1 5) (Q2 (Q1 3) Q7)))) Zv)
  (Qz (Qj Q4j (Q2 (Q1 6) Q7)))))))
def Vu:FN:=Jx Vf 8
def Q51 {f:aB} (F:Fun K "moves_home" "moves_home" Kv f fd) (T:Txt mg)  (B:DefS P w K mg base 2 "asked_moments" 3 Qk) (G:DefS P w K mg base 3 "home_moments" 3 Zw) (q:DefS P w K mg base 2 "houses_home_by" 2 Ju) (I:DefS P w K mg base 2 "way" 4 Q9u):FnOk P w K mg base (CXD P w) 4 f fd ["rights", "roads", "house", "moment"] (spF mg 4 Vu):=by
 have:FnScope ["rights", "roads", "house", "moment", "asks", "homes", "moves", "one"] ["rights", "roads", "house", "moment"] (Q9 Kv):=by fail "c"
 delta Vu Vf Zv Wc
 fail "K"
def X7:ME:=(mOp oIx (Q1 1) (Q1 0))
def Vq:MS:=(jm (J9 (toB (mOp (oI λa b=>.bl (decide (b<=a))) (Qj (Vp λns=>zo (.int ns.sum)) (Q2 (Wr (J3 [zl,zo 0] (Q3 0) (Vv (Qg 2 Ju (Q2 (Q1 4) (Q2 (Q1 5) Q7)))) Z1 X7)) Q7)) (Q1 3))) (Qz (Q01 (Q2 (mC (.str "gathered")) (Q2 (Q1 5) (Q2 (Qg 4 Vu (Q2 (Q1 0) (Q2 (Q1 1) (Q2 (Q1 2) (Q2 (Q1 5) Q7))))) Q7))))) Qs))
def qa : MS := (Q5 (Xs (Qg 3 Zm (Q2 (Qj J4 (Q2 (Q1 0) Q7)) (Q2 (Q1 1) (Q2 (Q1 2) Q7)))))
  (Q5 (Qr 4 (Qg 3 Zw (Q2 (Qj J4 (Q2 (Q1 0) Q7)) (Q2 (Q1 1) (Q2 (Q1 2) Q7)))))
  (Q5 (Vi (Q3 5) (Zg (Q2 (mOp Y1 (Qj J4 (Q2 (Q1 1) Q7)) (mC (.int 1))) Q7)) Vq)
  (Qz (Q01 (Q2 (mC (.str "short")) (Q2 (Qg 3 Qk (Q2 (Qj J4 (Q2 (Q1 0) Q7)) (Q2 (Q1 1) (Q2 (Q1 2) Q7)))) (Q2 (Q1 4) Q7))))))))
def Wf:FN:=Jx qa 6
def Q8d {f:aB} (F:Fun K "gathered" "gathered" ye f fd) (T:Txt mg)  (I:DefS P w K mg base 6 "need_roads" 3 Zm) (G:DefS P w K mg base 3 "home_moments" 3 Zw) (q:DefS P w K mg base 2 "houses_home_by" 2 Ju) (J:DefS P w K mg base 4 "moves_home" 4 Vu) (B:DefS P w K mg base 2 "asked_moments" 3 Qk):FnOk P w K mg base (CXD P w) 7 f fd ["rights", "roads", "house", "amount"] (spF mg 4 Wf):=by
 have:FnScope ["rights", "roads", "house", "amount", "homes", "moment"] ["rights", "roads", "house", "amount"] (Q9 ye):=by fail "c"
 delta Wf qa Vq X7
 fail "K"
def Je : MS := (Q5 (Qr 4 (mOp oIx (Q1 3) (mC (.int 0))))
  (Q5 (J9 (Vw (Yb (toB (qd (oI λa b=>.bl (decide (a<=b))) oLt (mC (.int 0)) (Q1 4) (Q1 2)))) (toB (mOp (oIn zi) (mSl (Q1 3) (jn (mC (.int 1))) (jn (mC (.int 3)))) (mOp oIx (Q1 0) (Q1 4))))) (Qz (mC (.bl zb))) Qs)
  (Qz (jr (mOp (oI λa b=>.bl (decide (b<=a))) (mOp oIx (Q1 3) (mC (.int 3))) (mC (.int 1))) (Qg 2 X8 (Q2 (Zu (Q1 1) (mOp oIx (Q1 3) (mC (.int 1)))) (Q2 (Q1 4) Q7)))))))
def Yj:FN:=Qn Je 5
def Q1x {f:aB} (F:Fun K "may_be_moved" "may_be_moved" Xe f fd) (T:Txt mg)  (q:DefS P w K mg base 1 "is_by" 2 X8):FnOk P w K mg base (CXD P w) 2 f fd ["roads", "asks", "moment", "move"] (spF mg 4 Yj):=by
 have:FnScope ["roads", "asks", "moment", "move", "number"] ["roads", "asks", "moment", "move"] (Q9 Xe):=by fail "c"
 delta Yj Je
 fail "k"
def qg:ME:=(Q1 0)
def Kr:MT:=(toB (mOp oEq (mOp oIx (Q1 0) (mC (.int 0))) (Q1 1)))
def Wd : MS := (Q5 (Qr 3 (Qg 2 Zx (Q2 (Q1 3) (Q2 (Wr (J3 [zl, zo 4] (Q3 0) (Vv (Q1 1)) Kr qg)) Q7))))
  (J9 (toB (mOp oIs (Q1 3) (mC .non))) (Qz (mC .non)) Qs))
def Xq : MS := (Q5 (Qr 3 (Qj Uy (Q2 (Q1 0) Q7)))
  (Q5 (Vi (Q3 4) (Zg (Q2 (Q1 2) Q7)) Wd)
  (Qz (Q1 3))))
def Kp:FN:=Qn Xq 5
def Qdp {f:aB} (F:Fun K "has_at" "has_at" Q3c f fd) (T:Txt mg)  (q:DefS P w K mg base 1 "behind_round" 2 Zx):FnOk P w K mg base (CXD P w) 2 f fd ["rights", "moves", "moment"] (spF mg 3 Kp):=by
 have:FnScope ["rights", "moves", "moment", "has", "number"] ["rights", "moves", "moment"] (Q9 Q3c):=by fail "c"
 delta Kp Xq Wd Kr qg
 fail "k"
def Va:ME:=(mOp oLt (mOp oIx (Q1 1) (mC (.int 0))) (mOp oIx (Q1 0) (mC (.int 0))))
def Uk:ME:=(Qg 4 Yj (Q2 (Q1 1) (Q2 (Q1 2) (Q2 (Q1 3) (Q2 (Q1 0) Q7)))))
def U6 : MS := (Q5 (Xs (Qg 3 Zm (Q2 (Qj J4 (Q2 (Q1 0) Q7)) (Q2 (Q1 1) (Q2 (Q1 2) Q7)))))
  (Q5 (J9 (Yb (toB (qd (oI λa b=>.bl (decide (a<=b))) (oI λa b=>.bl (decide (a<=b))) (mC (.int 0)) (Q1 4) (Qj J4 (Q2 (Q1 1) Q7))))) (Qz (mC (.bl zb))) Qs)
  (Q5 (J9 (toB (Qj (K6 λns=>.bl (ns.any id)) (Q2 (Wr (J3 [zl,zl] (Z2 (Qa (Q3 0) (Qa (Q3 1) Z3))) (Q8r (Q2 (Q1 5) (Q2 (mSl (Q1 5) (jn (mC (.int 1))) X2) Q7))) Z1 Va)) Q7))) (Qz (mC (.bl zb))) Qs)
  (Q5 (Qr 6 (Qg 3 Qk (Q2 (Qj J4 (Q2 (Q1 0) Q7)) (Q2 (Q1 1) (Q2 (Q1 2) Q7)))))
  (Q5 (J9 (Yb (toB (Qj (K6 λns=>.bl (ns.all id)) (Q2 (Wr (J3 [zl,zo 1,zo 6,zo 4] (Q3 0) (Vv (Q1 5)) Z1 Uk)) Q7)))) (Qz (mC (.bl zb))) Qs)
  (Q5 (Qr 7 (Qg 3 Kp (Q2 (Q1 0) (Q2 (Q1 5) (Q2 (Q1 4) Q7)))))
  (Qz (jr (mOp V6 (Q1 7) (mC .non)) (mOp (oI λa b=>.bl (decide (b<=a))) (mOp oIx (Q1 7) (Q1 2)) (Q1 3))))))))))
def Xa:FN:=Qn U6 8
def Qag {f:aB} (F:Fun K "gathers" "gathers" Q0s f fd) (T:Txt mg)  (G:DefS P w K mg base 6 "need_roads" 3 Zm) (q:DefS P w K mg base 2 "asked_moments" 3 Qk) (B:DefS P w K mg base 2 "may_be_moved" 4 Yj) (I:DefS P w K mg base 2 "has_at" 3 Kp):FnOk P w K mg base (CXD P w) 7 f fd ["rights", "roads", "house", "amount", "moment", "moves"] (spF mg 6 Xa):=by
 have:FnScope ["rights", "roads", "house", "amount", "moment", "moves", "asks", "has"] ["rights", "roads", "house", "amount", "moment", "moves"] (Q9 Q0s):=by fail "c"
 delta Xa U6 Uk Va
 fail "k"
def Wj : MS := (Q5 (J9 (toB (mOp (oI λa b => .bl (decide (b <= a))) (Q1 0) (mOp Q8f (mC (.int 10)) (mC (.int 18))))) (Qz (Q1 0)) Qs)
  (Q5 (Qr 2 (mOp xx (mOp Y1 (mOp Y1 (mOp qy (mOp xx (Q1 0) (mC (.int 998244353))) (mC (.int 51749))) (mOp qy (Q1 1) (mC (.int 7919)))) (mC (.int 3))) (mC (.int 1000000007))))
  (Q5 (Qr 3 (mOp xx (mOp Y1 (mOp Y1 (mOp Y1 (mOp qy (Q1 2) (Q1 2)) (mOp qy (mC (.int 32749)) (Q1 2))) (Q1 1)) (mC (.int 5))) (mC (.int 2147483629))))
  (Q5 (Qr 4 (mOp xx (mOp Y1 (mOp Y1 (mOp qy (Q1 3) (Q1 3)) (mOp qy (mC (.int 61)) (Q1 1))) (Q1 2)) (mC (.int 2147483587))))
  (Qz (mOp Y1 (mOp qy (Q1 3) (mC (.int 2147483587))) (Q1 4)))))))
def Jd:FN:=Qn Wj 5
def xr {f:aB} (F:Fun K "_law_e_stirred" "_law_e_stirred" Vz f fd) (T:Txt mg)   : FnOk P w K mg base (CXD P w) 1 f fd ["cell", "place"] (spF mg 2 Jd):=by
 have:FnScope ["cell", "place", "first", "second", "third"] ["cell", "place"] (Q9 Vz):=by fail "c"
 delta Jd Wj
 fail "k"
def Wb : MS := (Q5 (J9 (toB (mOp oLt (mOp oIx (Q1 0) (mC (.int 2))) (Q1 1))) (Q5 (Qr 2 (mOp oIx (Q1 0) (mC (.int 1))))
  (Q5 (Qr 3 (Q1 2))
  (Q5 (J9 (toB (mOp oLt (Q1 2) (Qj J4 (Q2 (mOp oIx (Q1 0) (mC (.int 0))) Q7)))) (Qr 3 (mOp oIx (mOp oIx (Q1 0) (mC (.int 0))) (Q1 2))) (J9 (toB (mOp (oI λa b=>.bl (decide (b < a))) (Qj J4 (Q2 (mOp oIx (Q1 0) (mC (.int 0))) Q7)) (mC (.int 0)))) (Qr 3 (mOp Y1 (mOp xx (mOp oIx (mOp oIx (Q1 0) (mC (.int 0))) (mOp xx (mOp qy (Q1 2) (mC (.int 3))) (Qj J4 (Q2 (mOp oIx (Q1 0) (mC (.int 0))) Q7)))) (mOp Q8f (mC (.int 10)) (mC (.int 9)))) (mOp qy (Q1 2) (mC (.int 1000000))))) Qs))
  (Q5 (Uu (Q1 0) (mC (.int 1)) (mOp Y1 (Q1 2) (mC (.int 1))))
  (Uu (Q1 0) (mC (.int 2)) (Qg 2 Jd (Q2 (Q1 3) (Q2 (Q1 2) Q7)))))))) Qs)
  (Q5 (Qr 4 (mOp xx (mOp oIx (Q1 0) (mC (.int 2))) (Q1 1)))
  (Q5 (Uu (Q1 0) (mC (.int 2)) (mOp Qby (mOp oIx (Q1 0) (mC (.int 2))) (Q1 1)))
  (Qz (Q1 4)))))
def Qf:FN:=Qn Wb 5
def Q22 {f:aB} (F:Fun K "_law_e_digit" "_law_e_digit" Xj f fd) (T:Txt mg)  (q:DefS P w K mg base 1 "_law_e_stirred" 2 Jd):FnOk P w K mg base (CXD P w) 2 f fd ["tape", "many"] (spF mg 2 Qf):=by
 have:FnScope ["tape", "many", "place", "cell", "digit"] ["tape", "many"] (Q9 Xj):=by fail "c"
 delta Qf Wb
 fail "k"
def Jf:ME:=(Q01 (Q2 (Q1 1) (Q2 (Q1 0) Q7)))
def J2:MT:=(V8 (toB (mOp oNe (Q1 0) (Q1 1))) (toB (mOp oLt (Qg 2 Qf (Q2 (Q1 3) (Q2 (mC (.int 8)) Q7))) (Q1 2))))
def J5:MS:=(Xs (mBM Xp (Q1 6) (Q2 (Wr (J3 [zl,zo 7,zo 3,zo 0] (Q3 0) (Zg (Q2 (Q1 1) Q7)) J2 Jf)) Q7)))
def Jg : MS := (Q5 (Qr 6 (jj (y0 Q7)))
  (Q5 (Vi (Q3 7) (Zg (Q2 (Q1 1) Q7)) J5)
  (Xs (mBM Uh (Q1 4) (Q2 (Qj qi (Q2 (Q1 6) Q7)) Q7)))))
def Z0 : MS := (Q5 (Qr 3 (mOp Y1 (mC (.int 1)) (Qg 2 Qf (Q2 (Q1 0) (Q2 (mC (.int 6)) Q7)))))
  (Q5 (Qr 4 (jj (y0 Q7)))
  (Q5 (Vi (Q3 5) (Zg (Q2 (Qg 2 Qf (Q2 (Q1 0) (Q2 (mOp Y1 (Q1 2) (mC (.int 1))) Q7))) Q7)) Jg)
  (Qz (Q1 4)))))
def Z8:FN:=Jx Z0 8
def qx {f:aB} (F:Fun K "_law_e_drawn_roads" "_law_e_drawn_roads" W9 f fd) (T:Txt mg)  (q:DefS P w K mg base 2 "_law_e_digit" 2 Qf):FnOk P w K mg base (CXD P w) 3 f fd ["tape", "n", "most"] (spF mg 3 Z8):=by
 have:FnScope ["tape", "n", "most", "often", "roads", "turn", "one", "i"] ["tape", "n", "most"] (Q9 W9):=by fail "c"
 delta Z8 Z0 Jg J5 J2 Jf
 fail "K"
def Jt : MS := (Q5 (J9 (Vw (Yb (toB (qc "int" (Q1 2)))) (Vw (toB (qc "bool" (Q1 2))) (Vw (toB (mOp oLt (Q1 2) (mC (.int 0)))) (toB (mOp (oI λa b => .bl (decide (b <= a))) (Q1 2) (Q1 1)))))) (Qz (mC (.bl zb))) Qs)
  (J9 (V8 (toB (mOp V6 (Zu (Q1 0) (Q1 2)) (mC .non))) (Vw (Yb (toB (qc "int" (Zu (Q1 0) (Q1 2))))) (toB (qc "bool" (Zu (Q1 0) (Q1 2)))))) (Qz (mC (.bl zb))) Qs))
def U7 : MS := (Q5 (J9 (Vw (Yb (toB (qc "dict" (Q1 0)))) (toB (mOp oNe (Qj Q9p (Q2 (Q1 0) Q7)) (Q1 1)))) (Qz (mC (.bl zb))) Qs)
  (Q5 (jm (Vi (Q3 2) (qk (Q1 0)) Jt))
  (Qz (mC (.bl zi)))))
def Jw:FN:=Qn U7 3
def xu {f:aB} (F:Fun K "_law_e_is_dict" "_law_e_is_dict" U1 f fd) (T:Txt mg)   : FnOk P w K mg base (CXD P w) 1 f fd ["found", "n"] (spF mg 2 Jw):=by
 have:FnScope ["found", "n", "k"] ["found", "n"] (Q9 U1):=by fail "c"
 delta Jw U7 Jt
 fail "k"
def Wm:ME:=(Q1 1)
def Wh:MT:=(toB (mOp (oIn zb) (Q1 0) (Q1 2)))
def U9 : MS := (Q5 (J9 (toB (mOp (oIn zb) (Q1 3) (Q1 4))) (Qz (Q1 5)) Qs)
  (J9 (toB (mOp oLt (Q1 5) (Qj J4 (Q2 (Q1 0) Q7)))) (Qr 4 (Q02 (mOp Y1 (Q1 4) (Wr (J3 [zl,zl,zo 4] (Z2 (Qa (Q3 0) (Qa (Q3 1) Z3))) (Vv (mOp oIx (Q1 0) (Q1 5))) Wh Wm))))) Qs))
def Vh : MS := (Q5 (Qr 4 (Q8t (Q2 (Q1 1) Q7)))
  (Q5 (Vi (Q3 5) (zj (Q2 (Q1 2) (Q2 (mOp Y1 (Qj J4 (Q2 (Q1 0) Q7)) (mC (.int 1))) Q7))) U9)
  (Qz (mC .non))))
def Jh:FN:=Qn Vh 6
def Q21 {f:aB} (F:Fun K "_law_e_first" "_law_e_first" Xi f fd) (T:Txt mg)   : FnOk P w K mg base (CXD P w) 1 f fd ["roads", "start", "moment", "end"] (spF mg 4 Jh):=by
 have:FnScope ["roads", "start", "moment", "end", "there", "turn"] ["roads", "start", "moment", "end"] (Q9 Xi):=by fail "c"
 delta Jh Vh U9 Wh Wm
 fail "k"
def V7 : MS := (Q5 (jq (Q1 3) (Q1 5) (Qg 4 Jh (Q2 (Q1 1) (Q2 (Q1 2) (Q2 (mC (.int 0)) (Q2 (Q1 5) Q7))))))
  (Q5 (jq (Q1 4) (Q1 5) (mC .non))
  (J9 (toB (mOp V6 (Zu (Q1 3) (Q1 5)) (mC .non))) (jq (Q1 4) (Q1 5) (Qg 4 Jh (Q2 (Q1 1) (Q2 (Q1 5) (Q2 (Zu (Q1 3) (Q1 5)) (Q2 (Q1 2) Q7)))))) Qs)))
def Wk : MS := (Q5 (Qr 3 jp)
  (Q5 (Qr 4 jp)
  (Q5 (Vi (Q3 5) (Zg (Q2 (Q1 0) Q7)) V7)
  (Qz (Q01 (Q2 (Q1 3) (Q2 (Q1 4) Q7)))))))
def Jv:FN:=Jx Wk 6
def xt {f:aB} (F:Fun K "_law_e_moments" "_law_e_moments" U0 f fd) (T:Txt mg)  (q:DefS P w K mg base 1 "_law_e_first" 4 Jh):FnOk P w K mg base (CXD P w) 2 f fd ["n", "roads", "house"] (spF mg 3 Jv):=by
 have:FnScope ["n", "roads", "house", "moments", "homes", "k"] ["n", "roads", "house"] (Q9 U0):=by fail "c"
 delta Jv Wk V7
 fail "K"
def Qt : MS := (Q5 (J9 (Vw (toB (mOp oLt (Q1 8) (Q1 7))) (Vw (toB (mOp (oI λa b => .bl (decide (b <= a))) (Q1 8) (Q1 5))) (Vw (toB (mOp oLt (Q1 11) (mC (.int 1)))) (toB (mOp (oIn zi) (Q01 (Q2 (Q1 9) (Q2 (Q1 10) Q7))) (mOp oIx (Q1 1) (Q1 8))))))) (Qz (mC (.bl zb))) Qs)
  (Q5 (J9 (Vw (toB (mOp oIs (Zu (Q1 2) (Q1 9)) (mC .non))) (toB (mOp (oI λa b=>.bl (decide (b < a))) (Zu (Q1 2) (Q1 9)) (Q1 8)))) (Qz (mC (.bl zb))) Qs)
  (Qr 7 (Q1 8))))
def W2:ME:=(mOp oIx (Q1 0) (mC (.int 3)))
def Y5:MT:=(V8 (toB (mOp oEq (mOp oIx (Q1 0) (mC (.int 0))) (Q1 1))) (toB (mOp oEq (mOp oIx (Q1 0) (mC (.int 1))) (Q1 2))))
def Y9:ME:=(Qj (Vp λns=>zo (.int ns.sum)) (Q2 (Wr (J3 [zl,zo 2,zo 0] (Q3 0) (Vv (Q1 1)) Y5 W2)) Q7))
def W1:ME:=(mOp oIx (Q1 0) (mC (.int 3)))
def Y4:MT:=(V8 (toB (mOp oEq (mOp oIx (Q1 0) (mC (.int 0))) (Q1 1))) (toB (mOp oEq (mOp oIx (Q1 0) (mC (.int 2))) (Q1 2))))
def Y8:ME:=(Qj (Vp λns=>zo (.int ns.sum)) (Q2 (Wr (J3 [zl,zo 2,zo 0] (Q3 0) (Vv (Q1 1)) Y4 W1)) Q7))
def J6 : MS := (Q5 (J9 (toB (mOp (oI λa b => .bl (decide (b < a))) (mOp oIx (Q1 14) (Q1 16)) (mOp oIx (Q1 12) (Q1 16)))) (Qz (mC (.bl zb))) Qs)
  (Uu (Q1 12) (Q1 16) (mOp Y1 (mOp (oI λa b=>.int (a - b)) (mOp oIx (Q1 12) (Q1 16)) (mOp oIx (Q1 14) (Q1 16))) (mOp oIx (Q1 15) (Q1 16)))))
def J7 : MS := (Q5 (Qr 14 (Wr (J3 [zl, zo 6, zo 13] (Q3 0) (Zg (Q2 (Qj J4 (Q2 (Q1 0) Q7)) Q7)) Z1 Y9)))
  (Q5 (Qr 15 (Wr (J3 [zl,zo 6,zo 13] (Q3 0) (Zg (Q2 (Qj J4 (Q2 (Q1 0) Q7)) Q7)) Z1 Y8)))
  (Vi (Q3 16) (Zg (Q2 (Qj J4 (Q2 (Q1 0) Q7)) Q7)) J6)))
def V3 : MS := (Q5 (J9 (Vw (toB (mOp oLt (Q1 5) (mC (.int 0)))) (toB (mOp (oI λa b => .bl (decide (b < a))) (Q1 5) (Qj J4 (Q2 (Q1 1) Q7))))) (Qz (mC (.bl zb))) Qs)
  (Q5 (Qr 7 (mC (.int 0)))
  (Q5 (Vi (Z2 (Qa (Q3 8) (Qa (Q3 9) (Qa (Q3 10) (Qa (Q3 11) Z3))))) (Vv (Q1 6)) Qt)
  (Q5 (Qr 12 (jj (qb (Q1 0))))
  (Q5 (Vi (Q3 13) (Zg (Q2 (Q1 5) Q7)) J7)
  (Qz (mOp (oI λa b=>.bl (decide (b<=a))) (mOp oIx (Q1 12) (Q1 3)) (Q1 4))))))))
def Y3:FN:=Qn V3 17
def Q0z {f:aB} (F:Fun K "_law_e_judged" "_law_e_judged" Ut f fd) (T:Txt mg)   : FnOk P w K mg base (CXD P w) 1 f fd ["sums", "roads", "moments", "house", "amount", "moment", "moves"] (spF mg 7 Y3):=by
 have:FnScope ["sums", "roads", "moments", "house", "amount", "moment", "moves", "last", "turn", "one", "to", "many", "have", "now", "gone", "new", "k"] ["sums", "roads", "moments", "house", "amount", "moment", "moves"] (Q9 Ut):=by fail "c"
 delta Y3 V3 J7 J6 Y8 Y4 W1 Y9 Y5 W2 Qt
 fail "k"
def Yv:ME:=(mOp Y1 (mOp qy (mOp Qmq (Qg 2 Qf (Q2 (Q1 1) (Q2 (mC (.int 3)) Q7))) (mC (.int 2))) (Qg 2 Qf (Q2 (Q1 1) (Q2 (mC (.int 7)) Q7)))) (Qg 2 Qf (Q2 (Q1 1) (Q2 (Q1 2) Q7))))
def Wx : MS := (Q5 (Qr 2 (mOp oIx (Q8t (Q2 (mC (.int 4)) (Q2 (mC (.int 11)) (Q2 (mC (.int 1000)) (Q2 (mOp Q8f (mC (.int 10)) (mC (.int 29))) Q7))))) (Qg 2 Qf (Q2 (Q1 0) (Q2 (mC (.int 4)) Q7)))))
  (Qz (Qj qi (Q2 (Wr (J3 [zl,zo 0,zo 2] (Q3 0) (Zg (Q2 (Q1 1) Q7)) Z1 Yv)) Q7))))
def V0:FN:=Jx Wx 3
def Q3v {f:aB} (F:Fun K "_law_e_sums" "_law_e_sums" K2 f fd) (T:Txt mg)  (q:DefS P w K mg base 2 "_law_e_digit" 2 Qf):FnOk P w K mg base (CXD P w) 3 f fd ["tape", "n"] (spF mg 2 V0):=by
 have:FnScope ["tape", "n", "far"] ["tape", "n"] (Q9 K2):=by fail "c"
 delta V0 Wx Yv
 fail "K"
def J8 : MS := (J9 (V8 (toB (mOp V6 (Zu (Q1 3) (Q1 10)) (mC .non))) (V8 (toB (mOp (oI λa b => .bl (decide (a <= b))) (Zu (Q1 3) (Q1 10)) (Q1 6))) (V8 (toB (mOp (oI λa b => .bl (decide (b < a))) (mOp oIx (Q1 8) (Q1 10)) (mC (.int 0)))) (toB (mOp (oI λa b => .bl (decide (b < a))) (Qg 2 Qf (Q2 (Q1 0) (Q2 (mC (.int 3)) Q7))) (mC (.int 0))))))) (Q5 (Qr 12 (mOp oIx (Q1 8) (Q1 10)))
  (Q5 (J9 (toB (mOp oEq (Qg 2 Qf (Q2 (Q1 0) (Q2 (mC (.int 2)) Q7))) (mC (.int 0)))) (Qr 12 (mOp Y1 (mC (.int 1)) (Qg 2 Qf (Q2 (Q1 0) (Q2 (mOp oIx (Q1 8) (Q1 10)) Q7))))) Qs)
  (Q5 (Uu (Q1 8) (Q1 10) (mOp (oI λa b=>.int (a - b)) (mOp oIx (Q1 8) (Q1 10)) (Q1 12)))
  (Q5 (Uu (Q1 4) (Q1 10) (mOp (oI λa b=>.int (a - b)) (mOp oIx (Q1 4) (Q1 10)) (Q1 12)))
  (Q5 (Uu (Q1 4) (Q1 11) (mOp Y1 (mOp oIx (Q1 4) (Q1 11)) (Q1 12)))
  (Xs (mBM Uh (Q1 5) (Q2 (Q01 (Q2 (Q1 6) (Q2 (Q1 10) (Q2 (Q1 11) (Q2 (Q1 12) Q7))))) Q7)))))))) Qs)
def Jq : MS := (Q5 (Qr 8 (jj (qb (Q1 4))))
  (Q5 (Qr 9 (Qg 2 Qf (Q2 (Q1 0) (Q2 (mOp Y1 (Qj J4 (Q2 (Q1 7) Q7)) (mC (.int 1))) Q7))))
  (Vi (Z2 (Qa (Q3 10) (Qa (Q3 11) Z3))) (Vv (mOp Y1 (mSl (Q1 7) (jn (Q1 9)) X2) (mSl (Q1 7) X2 (jn (Q1 9))))) J8)))
def Zd : MS := (Q5 (Qr 4 (jj (qb (Q1 1))))
  (Q5 (Qr 5 (jj (y0 Q7)))
  (Q5 (Vi (Z2 (Qa (Q3 6) (Qa (Q3 7) Z3))) (Qc5 (Q2 (Q1 2) Q7)) Jq)
  (Qz (Q1 5)))))
def Ze:FN:=Jx Zd 13
def jg {f:aB} (F:Fun K "_law_e_some_moves" "_law_e_some_moves" Wq f fd) (T:Txt mg)  (q:DefS P w K mg base 2 "_law_e_digit" 2 Qf):FnOk P w K mg base (CXD P w) 3 f fd ["tape", "sums", "roads", "moments"] (spF mg 4 Ze):=by
 have:FnScope ["tape", "sums", "roads", "moments", "have", "moves", "turn", "one", "left", "start", "i", "j", "many"] ["tape", "sums", "roads", "moments"] (Q9 Wq):=by fail "c"
 delta Ze Zd Jq J8
 fail "K"
def Yr:ME:=(mOp oIx (Q1 1) (Q1 0))
def Zr:MT:=(V8 (toB (mOp V6 (Zu (Q1 3) (Q1 0)) (mC .non))) (toB (mOp (oI λa b=>.bl (decide (a<=b))) (Zu (Q1 3) (Q1 0)) (Q1 2))))
def Ye:MS:=(Qz (Qj (Vp λns=>zo (.int ns.sum)) (Q2 (Wr (J3 [zl,zo 0,zo 2,zo 1] (Q3 0) (qk (Q1 1)) Zr Yr)) Q7)))
def Qx:FN:=Qn Ye 3
def xw {f:aB} (F:Fun K "_law_e_home_by" "_law_e_home_by" U2 f fd) (T:Txt mg)   : FnOk P w K mg base (CXD P w) 1 f fd ["sums", "homes", "moment"] (spF mg 3 Qx):=by
 have:FnScope ["sums", "homes", "moment"] ["sums", "homes", "moment"] (Q9 U2):=by fail "c"
 delta Qx Ye Zr Yr
 fail "k"
def Z4:ME:=(jr (qc "int" (Q1 0)) (Qn2 (qc "bool" (Q1 0))))
def Z6 : MS := (Q5 (J9 (Vw (Yb (toB (qc "tuple" (Q1 1)))) (toB (mOp oNe (Qj J4 (Q2 (Q1 1) Q7)) (mC (.int 4))))) (Qz (mC (.bl zb))) Qs)
  (J9 (Yb (toB (Qj (K6 λns=>.bl (ns.all id)) (Q2 (Wr (J3 [zl] (Q3 0) (Vv (Q1 1)) Z1 Z4)) Q7)))) (Qz (mC (.bl zb))) Qs))
def Zt : MS := (Q5 (J9 (Yb (toB (qc "list" (Q1 0)))) (Qz (mC (.bl zb))) Qs)
  (Q5 (Vi (Q3 1) (Vv (Q1 0)) Z6)
  (Qz (mC (.bl zi)))))
def Zy:FN:=Qn Zt 2
def zw {f:aB} (F:Fun K "_law_e_are_moves" "_law_e_are_moves" V4 f fd) (T:Txt mg)   : FnOk P w K mg base (CXD P w) 1 f fd ["moves"] (spF mg 1 Zy):=by
 have:FnScope ["moves", "move"] ["moves"] (Q9 V4):=by fail "c"
 delta Zy Zt Z6 Z4
 fail "k"
def Vg : MS := (Q5 (Qhr (Z2 (Qa (Q3 5) (Qa (Q3 6) Z3))) (Qg 3 Jv (Q2 (Qj J4 (Q2 (Q1 0) Q7)) (Q2 (Q1 1) (Q2 (Q1 2) Q7)))))
  (Q5 (J9 (Vw (Yb (toB (qc "tuple" (Q1 4)))) (toB (mOp oNe (Qj J4 (Q2 (Q1 4) Q7)) (mC (.int 3))))) (Qz (mC (.bl zb))) Qs)
  (Q5 (J9 (toB (mOp oEq (mOp oIx (Q1 4) (mC (.int 0))) (mC (.str "short")))) (Q5 (J9 (Vw (Yb (toB (Qg 2 Jw (Q2 (mOp oIx (Q1 4) (mC (.int 1))) (Q2 (Qj J4 (Q2 (Q1 0) Q7)) Q7))))) (Yb (toB (Qg 2 Jw (Q2 (mOp oIx (Q1 4) (mC (.int 2))) (Q2 (Qj J4 (Q2 (Q1 0) Q7)) Q7)))))) (Qz (mC (.bl zb))) Qs)
  (Qz (jr (mOp (Q5p zi) (mOp oIx (Q1 4) (mC (.int 1))) (Q1 5)) (jr (mOp (Q5p zi) (mOp oIx (Q1 4) (mC (.int 2))) (Q1 6)) (mOp oLt (Qg 3 Qx (Q2 (Q1 0) (Q2 (Q1 6) (Q2 (Qj J4 (Q2 (Q1 1) Q7)) Q7)))) (Q1 3)))))) Qs)
  (Q5 (Qr 7 (mOp oIx (Q1 4) (mC (.int 1))))
  (Q5 (J9 (Vw (toB (mOp oNe (mOp oIx (Q1 4) (mC (.int 0))) (mC (.str "gathered")))) (Vw (Yb (toB (qc "int" (Q1 7)))) (Vw (toB (qc "bool" (Q1 7))) (toB (mOp oLt (Q1 7) (mC (.int 0))))))) (Qz (mC (.bl zb))) Qs)
  (Q5 (J9 (V8 (toB (mOp (oI λa b=>.bl (decide (b < a))) (Q1 7) (mC (.int 0)))) (toB (mOp (oI λa b=>.bl (decide (b<=a))) (Qg 3 Qx (Q2 (Q1 0) (Q2 (Q1 6) (Q2 (mOp (oI λa b=>.int (a - b)) (Q1 7) (mC (.int 1))) Q7)))) (Q1 3)))) (Qz (mC (.bl zb))) Qs)
  (Qz (jr (Qg 1 Zy (Q2 (mOp oIx (Q1 4) (mC (.int 2))) Q7)) (Qg 7 Y3 (Q2 (Q1 0) (Q2 (Q1 1) (Q2 (Q1 5) (Q2 (Q1 2) (Q2 (Q1 3) (Q2 (Q1 7) (Q2 (mOp oIx (Q1 4) (mC (.int 2))) Q7))))))))))))))))
def Yk:FN:=Jx Vg 8
def Q20 {f:aB} (F:Fun K "_law_e_right" "_law_e_right" Xh f fd) (T:Txt mg)  (B:DefS P w K mg base 2 "_law_e_moments" 3 Jv) (I:DefS P w K mg base 1 "_law_e_is_dict" 2 Jw) (G:DefS P w K mg base 1 "_law_e_home_by" 3 Qx) (q:DefS P w K mg base 1 "_law_e_are_moves" 1 Zy) (J:DefS P w K mg base 1 "_law_e_judged" 7 Y3):FnOk P w K mg base (CXD P w) 3 f fd ["sums", "roads", "house", "amount", "found"] (spF mg 5 Yk):=by
 have:FnScope ["sums", "roads", "house", "amount", "found", "moments", "homes", "moment"] ["sums", "roads", "house", "amount", "found"] (Q9 Xh):=by fail "c"
 delta Yk Vg
 fail "K"
def Zi:ME:=(Q1 0)
def Zf:MT:=(toB (mOp oLt (mOp oIx (Q1 0) (mC (.int 0))) (Q1 1)))
def Zj : MS := (Q5 (J9 (V8 (toB (mOp oEq (Q1 8) (mOp (oI λa b => .int (a - b)) (Q1 6) (mC (.int 1))))) (toB (mOp oEq (Q1 10) (Q1 2)))) (Qr 5 (mOp Y1 (Q1 5) (Q1 11))) Qs)
  (J9 (V8 (toB (mOp oEq (Q1 8) (mOp (oI λa b=>.int (a - b)) (Q1 6) (mC (.int 1))))) (toB (mOp oEq (Q1 9) (Q1 2)))) (Qr 5 (mOp (oI λa b=>.int (a - b)) (Q1 5) (Q1 11))) Qs))
def Zk : MS := (Q5 (Qr 7 (Wr (J3 [zl, zo 6] (Q3 0) (Vv (Q1 3)) Zf Zi)))
  (Q5 (Vi (Z2 (Qa (Q3 8) (Qa (Q3 9) (Qa (Q3 10) (Qa (Q3 11) Z3))))) (Vv (Q1 7)) Zj)
  (J9 (V8 (toB (mOp (oI λa b=>.bl (decide (b < a))) (Q1 5) (mC (.int 0)))) (Vw (toB (mOp oLt (Q1 6) (Q1 4))) (toB (mOp oEq (Q1 6) (Qj J4 (Q2 (Q1 1) Q7)))))) (Q5 (Qr 12 (Qg 4 Wf (Q2 (Q1 0) (Q2 (Qj Uy (Q2 (Q1 1) Q7)) (Q2 (Q1 2) (Q2 (Q1 5) Q7))))))
  (Q5 (J9 (Vw (toB (mOp oNe (mOp oIx (Q1 12) (mC (.int 0))) (mC (.str "gathered")))) (toB (mOp (oI λa b=>.bl (decide (b < a))) (mOp oIx (Q1 12) (mC (.int 1))) (Q1 6)))) (Qz (mC (.bl zb))) Qs)
  (J9 (toB (mOp V6 (Qg 6 Xa (Q2 (Q1 0) (Q2 (Qj Uy (Q2 (Q1 1) Q7)) (Q2 (Q1 2) (Q2 (Q1 5) (Q2 (Q1 6) (Q2 (Q1 7) Q7))))))) (mC (.bl zi)))) (Qz (mC (.bl zb))) Qs))) Qs)))
def Jz : MS := (Q5 (Qr 5 (mOp oIx (Q1 0) (Q1 2)))
  (Q5 (Vi (Q3 6) (Zg (Q2 (mOp Y1 (Qj J4 (Q2 (Q1 1) Q7)) (mC (.int 1))) Q7)) Zk)
  (Qz (mC (.bl zi)))))
def Z7:FN:=Jx Jz 13
def qw {f:aB} (F:Fun K "_law_e_never_later" "_law_e_never_later" W8 f fd) (T:Txt mg)  (q:DefS P w K mg base 7 "gathered" 4 Wf) (B:DefS P w K mg base 7 "gathers" 6 Xa):FnOk P w K mg base (CXD P w) 8 f fd ["sums", "roads", "house", "moves", "looks"] (spF mg 5 Z7):=by
 have:FnScope ["sums", "roads", "house", "moves", "looks", "have", "moment", "some", "turn", "one", "to", "many", "found"] ["sums", "roads", "house", "moves", "looks"] (Q9 W8):=by fail "c"
 delta Z7 Jz Zk Zj Zf Zi
 fail "K"
def Q2k : MS := (Q5 (Qr 16 (Qg 4 Wf (Q2 (Q1 8) (Q2 (Q1 14) (Q2 (Q1 7) (Q2 (Q1 13) Q7))))))
  (Q5 (J9 (Vw (Yb (toB (Qg 5 Yk (Q2 (Q1 8) (Q2 (Q1 6) (Q2 (Q1 7) (Q2 (Q1 13) (Q2 (Q1 16) Q7)))))))) (toB (mOp oNe (Q1 14) (Q1 6)))) (Qz (mC (.bl zb))) Qs)
  (Xs (Qe2 (mOp oIx (Q1 16) (mC (.int 2)))))))
def Q2m : MS := (Q5 (Qr 14 (Qj Uy (Q2 (Q1 6) Q7)))
  (Vi (Q3 15) (Zg (Q2 (mC (.int 2)) Q7)) Q2k))
def Q0j : MS := (Q5 (J9 (V8 (toB (mOp (oI λa b => .bl (decide (b < a))) (Q1 2) (mC (.int 1)))) (toB (mOp (oI λa b => .bl (decide (b <= a))) (mOp oIx (Q1 1) (mC (.int 1))) (Qj J4 (Q2 (Q1 0) Q7))))) Qhq Qs)
  (Q5 (Qr 3 (mOp Y1 (mC (.int 1)) (Qg 2 Qf (Q2 (Q1 1) (Q2 (mC (.int 5)) Q7)))))
  (Q5 (Qr 4 (mC (.int 6)))
  (Q5 (Qr 5 (Qg 2 Qf (Q2 (Q1 1) (Q2 (mC (.int 6)) Q7))))
  (Q5 (J9 (toB (mOp oEq (Q1 5) (mC (.int 0)))) (Q5 (Qr 3 (mOp Y1 (mC (.int 2)) (Qg 2 Qf (Q2 (Q1 1) (Q2 (mC (.int 2)) Q7)))))
  (Qr 4 (mC (.int 2)))) Qs)
  (Q5 (J9 (toB (mOp oEq (Q1 5) (mC (.int 1)))) (Q5 (Qr 3 (mOp Y1 (mC (.int 6)) (Qg 2 Qf (Q2 (Q1 1) (Q2 (mC (.int 3)) Q7)))))
  (Qr 4 (mC (.int 3)))) Qs)
  (Q5 (Qr 6 (Qg 3 Z8 (Q2 (Q1 1) (Q2 (Q1 3) (Q2 (mOp oIx (Q8t (Q2 (mC (.int 40)) (Q2 (mC (.int 3)) (Q2 (mC (.int 6)) (Q2 (mC (.int 6)) (Q2 (mC (.int 6)) (Q2 (mC (.int 6)) Q7))))))) (Q1 5)) Q7)))))
  (Q5 (Qr 7 (Qg 2 Qf (Q2 (Q1 1) (Q2 (Q1 3) Q7))))
  (Q5 (Qr 8 (Qg 2 V0 (Q2 (Q1 1) (Q2 (Q1 3) Q7))))
  (Q5 (Qhr (Z2 (Qa (Q3 9) (Qa (Q3 10) Z3))) (Qg 3 Jv (Q2 (Q1 3) (Q2 (Q1 6) (Q2 (Q1 7) Q7)))))
  (Q5 (jm (Qr 11 (Qg 3 Qx (Q2 (Q1 8) (Q2 (Q1 10) (Q2 (Qg 2 Qf (Q2 (Q1 1) (Q2 (mOp Y1 (Qj J4 (Q2 (Q1 6) Q7)) (mC (.int 1))) Q7))) Q7))))))
  (Q5 (jm (Qr 12 (Qg 3 Qx (Q2 (Q1 8) (Q2 (Q1 10) (Q2 (Qj J4 (Q2 (Q1 6) Q7)) Q7))))))
  (Q5 (Vi (Q3 13) (Vv (Q8t (Q2 (Qj Qis (Q2 (mC (.int 1)) (Q2 (Q1 11) Q7))) (Q2 (mOp Y1 (Q1 11) (mC (.int 1))) (Q2 (Qj Qis (Q2 (mC (.int 1)) (Q2 (Q1 12) Q7))) (Q2 (mOp Y1 (Q1 12) (mC (.int 1))) (Q2 (mC (.int 1)) Q7))))))) Q2m)
  (J9 (Yb (toB (Qg 5 Z7 (Q2 (Q1 8) (Q2 (Q1 6) (Q2 (Q1 7) (Q2 (Qg 4 Ze (Q2 (Q1 1) (Q2 (Q1 8) (Q2 (Q1 6) (Q2 (Q1 9) Q7))))) (Q2 (Q1 4) Q7)))))))) (Qz (mC (.bl zb))) Qs))))))))))))))
def Qc2 : MS := (Q5 (Qr 1 (jj (y0 (Q2 (Q1 0) (Q2 (mC (.int 0)) (Q2 (mC (.int 0)) Q7))))))
  (Q5 (Vi (Q3 2) (Zg (Q2 (mC (.int 4)) Q7)) Q0j)
  (Qz (mC (.bl zi)))))
def Qct:FN:=Qn Qc2 17
def Qrm {f:aB} (F:Fun K "law" "law" xm f fd) (T:Txt mg)  (U:DefS P w K mg base 2 "_law_e_digit" 2 Qf) (q:DefS P w K mg base 3 "_law_e_drawn_roads" 3 Z8) (Y:DefS P w K mg base 3 "_law_e_sums" 2 V0) (I:DefS P w K mg base 2 "_law_e_moments" 3 Jv) (J:DefS P w K mg base 1 "_law_e_home_by" 3 Qx) (Z:DefS P w K mg base 7 "gathered" 4 Wf) (O:DefS P w K mg base 3 "_law_e_right" 5 Yk) (B:DefS P w K mg base 8 "_law_e_never_later" 5 Z7) (G:DefS P w K mg base 3 "_law_e_some_moves" 4 Ze):FnOk P w K mg base (CXD P w) 9 f fd ["script"] (spF mg 1 Qct):=by
 have:FnScope ["script", "tape", "k", "n", "looks", "way_v", "roads", "house", "sums", "moments", "homes", "by", "most", "amount", "handed", "turn", "found"] ["script"] (Q9 xm):=by fail "c"
 delta Qct Qc2 Q0j Q2m Q2k
 fail "k"
end
def Q78 (a:Int) {b:Int} (h:0 < b):0<=a % b/\a % b < b:=⟨Int.emod_nonneg a (),Int.emod_lt_of_pos a h⟩
def Qvr (x:Int) (h:1<=n):∃ k:Nat,k < n/\x % (n:Int)=(k:Int):=by
 have:=Q78 x (b:=(n:Int)) ();exact ⟨(x % (n:Int)).toNat,by omega,by omega⟩
def upto (n:Nat) (f:Nat->Int):Int:=((bc n).map f).sum
def Qjq (c:Int) (p:Nat) (st:Q0):∃ z:Int,Jd [.int c,.int p] st=.ok (.int z) st:=by
 by_cases q:1000000000000000000<=c
 ·refine ⟨c,?_⟩;simp! [Jd,Qn,Wj,q]
 ·obtain ⟨f,G⟩:∃ f,(c % 998244353 * 51749 + p * 7919 + 3) % 1000000007=f:=⟨_,rfl⟩;have U:=Q78 (c % 998244353 * 51749 + p * 7919 + 3) (b:=1000000007) (by decide);rw [G] at U;obtain ⟨g,B⟩:∃ g:Int,(f * f + 32749 * f + p + 5) % 2147483629=g:=⟨_,rfl⟩;have J:=Q78 (f * f + 32749 * f + p + 5) (b:=2147483629) (by decide);rw [B] at J;have I:-18446744073709551616 < f/\f < 18446744073709551616:=by omega
  have O:-18446744073709551616 < g/\g < 18446744073709551616:=by omega
  refine ⟨g * 2147483587 + (g * g + 61 * p + f) % 2147483587,?_⟩;simp! [Jd,Qn,Wj,q,G,B,I,O]
def TapeAt (S:Q0) (L:Nat) (ns:List Int):Prop:=∃ (p:Nat) (c:Int),S[L]?=zo (.lst [.fro (ns.map .int),.int p,.int c])
def TapeAt.lt {L:Nat} (h:TapeAt S L ns):L < S.length:=let ⟨_,_,e⟩:=h; (O0.mp e).1
def Q2z {L:Nat} {a b c x:PV} (h:S[L]?=zo (.lst [a,b,c])):Uf S (.ref L) (.int 1) x=zo (S.set L (.lst [a,x,c]))/\Uf S (.ref L) (.int 2) x=zo (S.set L (.lst [a,b,x])):=by
 unfold Uf;simp only [h];exact ⟨rfl,rfl⟩
def Q28 {L:Nat} {a b c:PV} (h:S[L]?=zo (.lst [a,b,c])):oIx S (.ref L) (.int 0)=.ok a S/\oIx S (.ref L) (.int 1)=.ok b S/\oIx S (.ref L) (.int 2)=.ok c S:=by
 have q:ListAt S (.ref L) [a,b,c]:=.inr (.inr ⟨L,rfl,h⟩);rw [q.ix,q.ix,q.ix];exact ⟨rfl,rfl,rfl⟩
def Qnm (ns:List Int) (p:Nat) {L:Nat} {c:PV} (hS:S[L]?=zo (.lst [.fro (ns.map .int),.int p,c])) (I J:Option PV):∃ z:Int,(J9 (toB (mOp oLt (Q1 2) (Qj J4 (Q2 (mOp oIx (Q1 0) (mC (.int 0))) Q7)))) (Qr 3 (mOp oIx (mOp oIx (Q1 0) (mC (.int 0))) (Q1 2))) (J9 (toB (mOp (oI λa b=>.bl (decide (b < a))) (Qj J4 (Q2 (mOp oIx (Q1 0) (mC (.int 0))) Q7)) (mC (.int 0)))) (Qr 3 (mOp Y1 (mOp xx (mOp oIx (mOp oIx (Q1 0) (mC (.int 0))) (mOp xx (mOp qy (Q1 2) (mC (.int 3))) (Qj J4 (Q2 (mOp oIx (Q1 0) (mC (.int 0))) Q7)))) (mOp Q8f (mC (.int 10)) (mC (.int 9)))) (mOp qy (Q1 2) (mC (.int 1000000))))) Qs)) [zo (.ref L),I,zo (.int p),zo (.int p),J] S=.nx [zo (.ref L),I,zo (.int p),zo (.int z),J] S:=by
 obtain ⟨B,_,_⟩:=Q28 hS;have hl:(ns.map PV.int).length=ns.length:=O3 _
 by_cases q:p < ns.length
 ·have e:atI (ns.map PV.int) (p:Int)=zo (.int (ns.getD p 0)):=by rw [zr,Sm.atI_get (Js q 0)]; rfl
  refine ⟨ns.getD p 0,?_⟩;generalize ns.getD p 0=x,ns.length=len,ns.map PV.int=O at*;simp! [B,hl,q,e,-zz]
 ·by_cases Y:ns.length=0
  ·refine ⟨p,?_⟩;generalize ns.map PV.int=O at*;rw [Y] at hl;have q0:¬ (p:Int) < 0:=by omega
   simp! [B,hl,q0,-zz]
  ·have G:0 < ns.length:=by omega
   obtain ⟨m,U,Z⟩:=Qvr ((p:Int) * 3) G;have e:atI (ns.map PV.int) (m:Int)=zo (.int (ns.getD m 0)):=by rw [zr,Sm.atI_get (Js U 0)]; rfl
   refine ⟨ns.getD m 0 % 1000000000 + p * 1000000,?_⟩;have q':¬ (p:Int) < (ns.length:Int):=by omega
   generalize ns.getD m 0=x,ns.length=len,ns.map PV.int=O at*;simp! [B,hl,q,q',G,Z,e,-zz]
def Qse {st':Q0} (h:st'.length=st.length) (d:Int):fin st (.int d) st'=.ok (.int d) st':=by
 unfold fin
 by_cases q:st <+: st'
 ·rw [bX q];have:st=st':=q.eq_of_length h.symm;rw [<- this,fz]; rfl
 ·rw [bY q]
structure Mv (L:Nat) (S S':Q0):Prop where
 len:S'.length=S.length
 keep:∀ t,t≠L->S'[t]?=S[t]?
def Z5 {L:Nat} (T:TapeAt S L ns) (m:Nat) (h1:1<=m) (hm:m < 1267650600228229401496703205376):∃ (d:Nat) (S':Q0),d < m/\TapeAt S' L ns/\Mv L S S'/\Qf [.ref L,.int m] S=.ok (.int d) S':=by
 obtain ⟨p,c,Y⟩:=T;have hL:=(O0.mp Y).1;obtain ⟨U,O,S1,a2,a3,I,M1,e1⟩:∃ (U:Nat) (O:Int) (S1:Q0) (a2 a3:Option PV),S1[L]?=zo (.lst [.fro (ns.map .int),.int U,.int O])/\Mv L S S1/\(J9 (toB (mOp oLt (mOp oIx (Q1 0) (mC (.int 2))) (Q1 1))) (Q5 (Qr 2 (mOp oIx (Q1 0) (mC (.int 1))))
  (Q5 (Qr 3 (Q1 2))
  (Q5 (J9 (toB (mOp oLt (Q1 2) (Qj J4 (Q2 (mOp oIx (Q1 0) (mC (.int 0))) Q7)))) (Qr 3 (mOp oIx (mOp oIx (Q1 0) (mC (.int 0))) (Q1 2))) (J9 (toB (mOp (oI λa b=>.bl (decide (b < a))) (Qj J4 (Q2 (mOp oIx (Q1 0) (mC (.int 0))) Q7)) (mC (.int 0)))) (Qr 3 (mOp Y1 (mOp xx (mOp oIx (mOp oIx (Q1 0) (mC (.int 0))) (mOp xx (mOp qy (Q1 2) (mC (.int 3))) (Qj J4 (Q2 (mOp oIx (Q1 0) (mC (.int 0))) Q7)))) (mOp Q8f (mC (.int 10)) (mC (.int 9)))) (mOp qy (Q1 2) (mC (.int 1000000))))) Qs))
  (Q5 (Uu (Q1 0) (mC (.int 1)) (mOp Y1 (Q1 2) (mC (.int 1))))
  (Uu (Q1 0) (mC (.int 2)) (Qg 2 Jd (Q2 (Q1 3) (Q2 (Q1 2) Q7)))))))) Qs) [zo (.ref L),zo (.int m),zl,zl,zl] S=.nx [zo (.ref L),zo (.int m),a2,a3,zl] S1:=by
  obtain ⟨i0,i1,i2⟩:=Q28 Y
  by_cases q:c < (m:Int)
  ·obtain ⟨z,ez⟩:=Qnm ns p Y (zo (.int m)) zl;obtain ⟨t1,_⟩:=Q2z (x:=.int ((p:Int) + 1)) Y;obtain ⟨S2,G⟩:∃ S2,S.set L (.lst [.fro (ns.map .int),.int ((p:Int) + 1),.int c])=S2:=⟨_,rfl⟩;have h2:S2[L]?=zo (.lst [.fro (ns.map .int),.int ((p:Int) + 1),.int c]):=by rw [<- G,D6 hL]
   rw [G] at t1;obtain ⟨y,ey⟩:=Qjq z p S2;obtain ⟨_,t2⟩:=Q2z (x:=.int y) h2;have a5:=(O0.mp h2).1;refine ⟨p + 1,y,S2.set L (.lst [.fro (ns.map .int),.int ((p:Int) + 1),.int y]),zo (.int p),zo (.int z),?_,⟨?_,λt J=>?_⟩,?_⟩
   ·rw [D6 a5]; push_cast; rfl
   ·rw [L3,<- G,L3]
   ·rw [E4 (λu=>J u.symm),<- G,E4 (λu=>J u.symm)]
   ·have J:(toB (mOp oLt (mOp oIx (Q1 0) (mC (.int 2))) (Q1 1))) [zo (.ref L),zo (.int m),zl,zl,zl] S=.ok zi S:=by
     simp! [i2,q,-zz]
    have s1:∀ X:MS,(Q5 (Qr 2 (mOp oIx (Q1 0) (mC (.int 1)))) (Q5 (Qr 3 (Q1 2)) X)) [zo (.ref L),zo (.int m),zl,zl,zl] S=X [zo (.ref L),zo (.int m),zo (.int p),zo (.int p),zl] S:=λX=>by
     simp! [i1,-zz]
    rw [Q70,J,Yc,bX rfl,s1,Yf,ez];show Q5 _ _ _ _=_;simp! [t1,ey,t2,-xg]
  ·refine ⟨p,c,S,zl,zl,Y,⟨rfl,λ_ _=>rfl⟩,?_⟩;simp! [i2,q,-zz]
 obtain ⟨_,_,j2⟩:=Q28 I;obtain ⟨d,hd,ed⟩:=Qvr O h1;obtain ⟨_,t2⟩:=Q2z (x:=.int (O / (m:Int))) I;have a4:=(O0.mp I).1;obtain ⟨S3,B⟩:∃ S3,S1.set L (.lst [.fro (ns.map .int),.int U,.int (O / (m:Int))])=S3:=⟨_,rfl⟩;have h3:S3[L]?=zo (.lst [.fro (ns.map .int),.int U,.int (O / (m:Int))]):=by rw [<- B,D6 a4]
 have M3:Mv L S S3:=⟨by rw [<- B,L3,M1.len],λt J=>by rw [<- B,E4 (λu=>J u.symm),M1.keep t J]⟩;rw [B] at t2;refine ⟨d,S3,hd,⟨U,_,h3⟩,M3,?_⟩;have a1:0 < m:=h1;have Z:(m:Int) < 1267650600228229401496703205376:=by omega
 have step:Wb [zo (.ref L),zo (.int m),zl,zl,zl] S=.rt (.int d) S3:=by
  unfold Wb;rw [Yf,e1];show Q5 _ _ _ _=_;simp! [j2,a1,Z,ed,t2,-zz,-xg]
 show Qn Wb 5 _ S=_;unfold Qn;rw [show (([PV.ref L,.int m]:List PV).map zo ++ bg (5 - [PV.ref L,.int m].length) zl)=[zo (.ref L),zo (.int m),zl,zl,zl] from rfl,step];exact Qse M3.len d
def Q75 (i:Int) (st:Q0):Ua [.int i] st=.ok (.bl zi) st:=by
 simp [Ua,Qn,yg,isI,tyN]
def Qb3 (g:α->PV) {xs:List α} (I:Nat->List PV->Q0->Prop) {ga:GA} {mt:MT} {me:ME} {w:Wt} {Γ0:Gam} (hw:∀ i out st,I i out st->wOk w st)
  (h:∀ (i:Nat) x out st,xs[i]?=zo x->I i out st->∃ G,ga (g x) Γ0=zo G/\∃ b q,mt G st=.ok b q/\(b=zi->∃ v B,me G q=.ok v B/\I (i + 1) (out ++ [v]) B)/\(b=zb->I (i + 1) out q)) {st:Q0} (h0:I 0 [] st):∃ out st',J0 ga mt me w Γ0 (xs.map g) st=.ok out st'/\I xs.length out st':=by
 have Y:∀ (ys:List α) (k:Nat) (pre:List PV) (st:Q0),(∀ i,ys[i]?=xs[k + i]?)->k + ys.length=xs.length->I k pre st->∃ out st',J0 ga mt me w Γ0 (ys.map g) st=.ok out st'/\I xs.length (pre ++ out) st':=by
  intro ys
  induction ys with
  | nil=>
   intro k pre st e Z i;refine ⟨[],st,by simp [J0,hw k pre st i],?_⟩;rw [E9,<- Z]; exact i
  | cons y ys ih=>
   intro k pre st e Z i;obtain ⟨G,h1,b,q,h2,h3,h4⟩:=h k y pre st (by have:=e 0; simpa using this.symm) i;have e':∀ i,ys[i]?=xs[k + 1 + i]?:=λi=>by have:=e (i + 1); rw [dq] at this; rw [this]; congr 1; omega
   have J:k + 1 + ys.length=xs.length:=by rw [<- Z,E7]; omega
   rw [O5,J0,bX (hw k pre st i),h1];simp only [h2,J1];cases b with
   | true=>
    obtain ⟨v,B,h5,h6⟩:=h3 rfl;obtain ⟨out,st',U,O⟩:=ih (k + 1) (pre ++ [v]) B e' J h6;refine ⟨v :: out,st',?_,by rw [F4] at O; exact O⟩;rw [bX rfl,h5];simp only [J1,U]
   | false=>
    obtain ⟨out,st',U,O⟩:=ih (k + 1) pre q e' J (h4 rfl);refine ⟨out,st',?_,O⟩;rw [bY (by simp),U]
 obtain ⟨out,st',h1,h2⟩:=Y xs 0 [] st (λi=>by simp) (by simp) h0;exact ⟨out,st',h1,h2⟩
def Q2j (x a b:Int) (st:Q0):Ja [.int x,.int a,.int b] st=.ok (.bl (decide (a<=x) && decide (x<=b))) st:=by
 have:=Q75 x st
 by_cases q:a<=x <;> simp [Ja,Qn,q9,this,q]
def Quh {n:Int} {a b:PV} {u v:Bool} (I:Ja [a,.int 0,.int (n - 1)] st=.ok (.bl u) st) (J:Ja [b,.int 0,.int (n - 1)] st=.ok (.bl v) st):((u && v)=zb->Yy [.int n,.tup [a,b]] st=.ok (.bl zb) st)/\((u && v)=zi->∀ w,oNe st a b=.ok (.bl w) st->Yy [.int n,.tup [a,b]] st=.ok (.bl w) st):=by
 have G:J0 (Q3 0) Z1 V9 [] (Jp [zl,zo 0] [zo (.int n),zo (.tup [a,b])]) [a,b] st=.ok [.bl u,.bl v] st:=by
  have:=Yw (ga:=Q3 0) (me:=V9) (w:=[]) (Γ0:=Jp [zl,zo 0] [zo (.int n),zo (.tup [a,b])]) (st:=st) (λz:PV × Bool=>z.1) (λz=>PV.bl z.2) (by simp) (ys:=[(a,u),(b,v)]) (λz hz=>⟨_,rfl,by
   rcases D3.mp hz with rfl | hz
   ·simp [Jp,V9,I]
   ·rw [G6.mp hz];simp [Jp,V9,J]⟩)
  exact this
 have B:K6 (λns=>.bl (ns.all id)) st [.lst [.bl u,.bl v]]=.ok (.bl (u && v)) st:=by cases u <;> cases v <;> rfl
 refine ⟨λq=>?_,λq w O=>?_⟩
 ·rw [q] at B;simp! [Yy,Qn,zh,isI,tyN,G,B,Qv]
 ·rw [q] at B;simp! [Yy,Qn,zh,isI,tyN,G,B,Qv,atI,ixN,O]
def rdV (r:Nat × Nat):PV:=.tup [.int r.1,.int r.2]
def Qbf (n:Nat) (r:Nat × Nat):Prop:=r.1 < n/\r.2 < n/\r.1≠r.2
def Qki {r:Nat × Nat} (h:Qbf n r) (st:Q0):Yy [.int n,rdV r] st=.ok (.bl zi) st:=by
 obtain ⟨h1,h2,B⟩:=h;have q:¬ ((r.1:Int)=r.2):=by omega
 refine (Quh (Q2j _ _ _ st) (Q2j _ _ _ st)).2 ?_ zi ?_
 ·simp; omega
 ·simp [q]
def lx (a b:Nat × Nat):Bool:=HT.lexLt [(a.1:Int),a.2] [(b.1:Int),b.2]
def LxP (a b:Nat × Nat):Prop:=a.1 < b.1\/(a.1=b.1/\a.2 < b.2)
def Qvy (a b:Nat × Nat) (st:Q0):oLt st (rdV a) (rdV b)=.ok (.bl (lx a b)) st:=rfl
def Q3f (rs:zAB):Bool:=(rs.zip (rs.drop 1)).all λz=>lx z.1 z.2
def Qkj (rs:zAB) (hl:rs.length<=1000) (st:Q0):We [.tup (rs.map rdV)] st=.ok (.bl (Q3f rs)) st:=by
 have B:cut (rs.map rdV) (zo 1) zl=(rs.drop 1).map rdV:=by
  rw [Qci];exact congrArg _ (Q4g rs 1)
 have G:J0 (Z2 (Qa (Q3 0) (Qa (Q3 1) Z3))) Z1 Ub [] (Jp [zl,zl] [zo (.tup (rs.map rdV))]) ((rs.zip (rs.drop 1)).map λz=>.tup [rdV z.1,rdV z.2]) st=.ok (((rs.zip (rs.drop 1)).map λz=>lx z.1 z.2).map .bl) st:=by
  rw [G7];refine Yw _ _ (by simp) λz hz=>⟨_,rfl,?_⟩
  have:=Qvy z.1 z.2 st;show _=Res.ok (PV.bl (lx z.1 z.2)) st;generalize rdV z.1=J,rdV z.2=U at*;simp [Jp,Ub,this]
 have I:Q3f rs=((rs.zip (rs.drop 1)).map λz=>lx z.1 z.2).all id:=by unfold Q3f; rw [cC]; rfl
 have q:(rs.map rdV).length<=1000000:=by rw [O3]; omega
 rw [I];rw [<- Q7m] at G;generalize ((rs.zip (rs.drop 1)).map λz=>lx z.1 z.2)=bs at*
 generalize (rs.drop 1).map rdV=ds,rs.map rdV=O at*;simp! [We,Qn,jh,B,q,Qv,G]
def Qrx (a b:Nat × Nat):lx a b=zi <-> LxP a b:=by
 unfold lx LxP;rw [HT.lexLt_cons,HT.lexLt_cons,HT.lexLt_nil_nil]
 by_cases h1:(a.1:Int)=b.1
 ·rw [bX h1]
  by_cases h2:(a.2:Int)=b.2
  ·rw [bX h2];constructor
   ·intro z; cases z
   ·intro z; omega
  ·rw [bY h2,decide_eq_true_iff]; omega
 ·rw [bY h1,decide_eq_true_iff]; omega
def Qda (x y:Nat × Nat) (t:zAB):Q3f (x :: y :: t)=(lx x y && Q3f (y :: t)):=rfl
theorem Qbr:∀ {rs:zAB},rs.Pairwise LxP->Q3f rs=zi
 | [],_=>rfl
 | [_],_=>rfl
 | x :: y :: t,h=>by
  rw [Qda,Qbr (F9.mp h).2,(Qrx x y).mpr ((F9.mp h).1 y (by simp))]; rfl
structure RsOk (n:Nat) (rs:zAB):Prop where
 ok:∀ r∈rs,Qbf n r
 inc:rs.Pairwise LxP
 len:rs.length<=100
 sq:rs.length<=n * n
def Qg9 (hl:zs.length<=1000) (st:Q0) (h:∀ z∈zs,Yy [.int n,z.1] st=.ok (.bl z.2) st):((zs.map cA).all id=zb->Qq [.int n,.tup (zs.map bh)] st=.ok (.bl zb) st)/\((zs.map cA).all id=zi->∀ w,We [.tup (zs.map bh)] st=.ok (.bl w) st->Qq [.int n,.tup (zs.map bh)] st=.ok (.bl w) st):=by
 have G:J0 (Q3 0) Z1 Zh [] (Jp [zl,zo 0] [zo (.int n),zo (.tup (zs.map bh))]) (zs.map bh) st=.ok ((zs.map cA).map .bl) st:=by
  rw [G7];refine Yw _ _ (by simp) λz hz=>⟨_,rfl,?_⟩
  have:=h z hz;show _=Res.ok (PV.bl z.2) st;generalize zs.map bh=J at*;simp [Jp,Zh,this]
 have B:(zs.map bh).length<=1000000:=by rw [O3]; omega
 generalize zs.map bh=J,zs.map cA=bs at*;refine ⟨λq=>?_,λq w I=>?_⟩
 ·simp! [Qq,Qn,Y6,isI,tyN,B,Qv,G,q]
 ·simp! [Qq,Qn,Y6,isI,tyN,B,Qv,G,q,I]
def Qp (rs:zAB):PV:=.tup (rs.map rdV)
def Qg8 (h:∀ r∈rs,Qbf n r) (hl:rs.length<=900) (st:Q0):Qq [.int n,Qp rs] st=.ok (.bl (Q3f rs)) st:=by
 have B:(rs.map λr=>(rdV r,zi)).map bh=rs.map rdV:=by rw [G7]; rfl
 have G:((rs.map λr=>(rdV r,zi)).map cA).all id=zi:=by rw [G7,cC,E8]; intro r _; rfl
 have:=(Qg9 (n:=n) (zs:=rs.map λr=>(rdV r,zi)) (by rw [O3]; omega) st (λz hz=>by
  obtain ⟨r,q,rfl⟩:=L9.mp hz;exact Qki (h r q) st)).2 G
 rw [B] at this;exact this _ (Qkj rs () st)
def Qga (h1:1<=n) (h8:n<=8) (hl:zs.length<=40) {V:PV} (I:ListAt st V (zs.map bh)) (h:∀ z∈zs,Qq [.int n,z.1] st=.ok (.bl z.2) st):Wg [.int n,V] st=.ok (.bl ((zs.map cA).all id)) st:=by
 obtain ⟨wt,B,hw⟩:=I.src;have q:=I.len;rw [O3] at q;have Y:Ke st V=zb:=by rcases I with rfl | rfl | ⟨i,rfl,e⟩ <;> first | rfl | simp [e]
 have G:isI "list" (dpv st V)=zi:=by rcases I with rfl | rfl | ⟨i,rfl,e⟩ <;> first | rfl | simp [e,isI,tyN]
 have hc:J0 (Q3 0) Z1 Uc wt (Jp [zl,zo 0] [zo (.int n),zo V]) (zs.map bh) st=.ok ((zs.map cA).map .bl) st:=by
  rw [G7];refine Yw _ _ hw λz hz=>⟨_,rfl,?_⟩
  have:=h z hz;show _=Res.ok (PV.bl z.2) st;simp [Jp,Uc,this]
 have Z:=Q2j (n:Int) 1 8 st;have O:(decide ((1:Int)<=n) && decide ((n:Int)<=8))=zi:=by simp; omega
 rw [O] at Z;have J:(zs.map bh).length<=1000000:=by rw [O3]; omega
 have U:¬ (40:Int) < (zs.length:Int):=by omega
 generalize zs.length=len,zs.map bh=zv,zs.map cA=bs at*;simp! [Wg,Qn,ji,Z,Y,G,q,U,B,J,Qv,hc]
def Mv.refl (L:Nat) (S:Q0):Mv L S S:=⟨rfl,λ_ _=>rfl⟩
def Mv.trans {L:Nat} (a:Mv L S S1) (b:Mv L S1 S2):Mv L S S2:=⟨b.len.trans a.len,λt q=>(b.keep t q).trans (a.keep t q)⟩
def TapeAt.of {L:Nat} (h:TapeAt S L ns) (e:S'[L]?=S[L]?):TapeAt S' L ns:=let ⟨p,c,q⟩:=h; ⟨p,c,by rw [e]; exact q⟩
def Qsr {L:Nat} (T:TapeAt S L ns) (i n:Nat) (I:Int) (Γ:Gam) (U:Γ[7]?=zo (zo (.int i))) (h3:Γ[3]?=zo (zo (.int I))) (h0:Γ[0]?=zo (zo (.ref L))) :
  ∃ (B:List Nat) (S':Q0),TapeAt S' L ns/\Mv L S S'/\(∀ j∈B,j < n/\j≠i)/\B.Pairwise (· < ·)/\B.length<=n/\J0 (Q3 0) J2 Jf [] (Jp [zl,zo 7,zo 3,zo 0] Γ) (Jr 0 n) S=.ok (B.map λj=>rdV (i,j)) S':=by
 rw [Yn];obtain ⟨out,S',e,B,rfl,O,J,h1,h2,h4⟩:=Qb3 (λk:Nat=>PV.int (k:Int)) (xs:=bc n) (ga:=Q3 0) (mt:=J2) (me:=Jf) (w:=[]) (Γ0:=Jp [zl,zo 7,zo 3,zo 0] Γ) (st:=S)
  (λk out st'=>∃ B:List Nat,out=B.map (λj=>rdV (i,j))/\TapeAt st' L ns/\Mv L S st'/\(∀ j∈B,j < k/\j≠i)/\B.Pairwise (· < ·)/\B.length<=k)
  (λ_ _ _ _=>by simp)
  (λk x out st' Y ⟨B,e1,O,J,h1,h2,h4⟩=>by
   have a1:k < n:=by simpa using (O0.mp Y).1
   have Z:x=k:=by
    rw [L8 a1] at Y;exact (bm Y).symm
   subst Z;subst e1
   by_cases q:x=i
   ·refine ⟨_,rfl,zb,st',?_,λz=>(by cases z),λ_=>⟨B,rfl,O,J,λj G=>⟨by have:=(h1 j G).1; omega,(h1 j G).2⟩,h2,by omega⟩⟩
    simp! [Jp,J2,U,h3,h0,q]
   ·have q':¬ ((x:Int)=i):=by omega
    obtain ⟨d,S2,hd,T2,M2,e2⟩:=Z5 O 8 (by decide) (by decide);rw [show ((8:Nat):Int)=8 from rfl] at e2;refine ⟨_,rfl,decide ((d:Int) < I),S2,?_,λhb=>⟨rdV (i,x),S2,?_,B ++ [x],by rw [F5]; rfl,T2,J.trans M2,λj G=>?_,?_,by simp; omega⟩,λ_=>⟨B,rfl,T2,J.trans M2,λj G=>⟨by have:=(h1 j G).1; omega,(h1 j G).2⟩,h2,by omega⟩⟩
    ·simp! [Jp,J2,U,h3,h0,q,q',e2]
    ·unfold rdV;simp! [Jp,Jf,U,Qv]
    ·rcases E6.mp G with G | G
     ·have:=h1 j G;exact ⟨by omega,this.2⟩
     ·rw [G6.mp G]; exact ⟨by omega,q⟩
    ·rw [dz];refine ⟨h2,by simp,λa ha b hb=>?_⟩;rw [G6.mp hb];exact (h1 a ha).1)
  ⟨[],rfl,T,Mv.refl L S,λj G=>(by cases G),cW,by simp⟩
 rw [F7] at h1 h4;exact ⟨B,S',O,J,h1,h2,h4,e⟩
abbrev drΓ (L n mo:Nat) (often:Int) (R:Nat) (a5 a6 a7:Option PV):Gam:=[zo (.ref L),zo (.int n),zo (.int mo),zo (.int often),zo (.ref R),a5,a6,a7]
structure Mv2 (L M:Nat) (S S':Q0):Prop where
 len:S'.length=S.length
 keep:∀ t,t≠L->t≠M->S'[t]?=S[t]?
def Qve {L:Nat} (T:TapeAt S L ns) (O:L≠M) (hM:S[M]?=zo (.lst [])) (n mo R:Nat) (hn:n<=8) (q:Int) (I:Option PV) (a7:Option PV) :
  ∃ b7 rs S',RsOk n rs/\TapeAt S' L ns/\S'[M]?=zo (.lst (rs.map rdV))/\Mv2 L M S S'/\Jn (Q3 7) J5 [] (Jr 0 n) (drΓ L n mo q R I (zo (.ref M)) a7) S=.nx (drΓ L n mo q R I (zo (.ref M)) b7) S':=by
 have a3:-1000000<=(n:Int)/\(n:Int)<=1000000:=by omega
 have a8:=Yu (g:=λk:Nat=>PV.int (k:Int)) (xs:=bc n) (ga:=Q3 7) (body:=J5) (w:=[]) (Γ:=drΓ L n mo q R I (zo (.ref M)) a7) (st:=S)
  (λi Γ st'=>∃ b7 rs,Γ=drΓ L n mo q R I (zo (.ref M)) b7/\(∀ r∈rs,Qbf n r/\r.1 < i)/\rs.Pairwise LxP/\rs.length<=i * n/\TapeAt st' L ns/\st'[M]?=zo (.lst (rs.map rdV))/\Mv2 L M S st')
  (λ_ _ _ _=>by simp)
  (λi k Γ st' hx ⟨b7,rs,e1,h1,h2,h3,T',G,m⟩=>by
   subst e1;have U:i < n:=by simpa using (O0.mp hx).1
   have b1:k=i:=by
    rw [L8 U] at hx;exact (bm hx).symm
   subst b1;obtain ⟨J,S2,T2,M2,g1,g2,g3,e2⟩:=Qsr T' k n q (drΓ L n mo q R I (zo (.ref M)) (zo (.int k))) rfl rfl rfl;have Y:S2[M]?=zo (.lst (rs.map rdV)):=by rw [M2.keep M (λz=>O z.symm)]; exact G
   have a4:M < S2.length:=(O0.mp Y).1;have a2:k * n<=64:=F3 (iA (show k<=8 by omega) hn) (by decide);refine ⟨_,rfl,drΓ L n mo q R I (zo (.ref M)) (zo (.int k)),S2.set M (.lst ((rs ++ J.map λj=>(k,j)).map rdV)),?_,_,rs ++ J.map λj=>(k,j),rfl,λr B=>?_,?_,?_,T2.of ?_,by rw [D6 a4],⟨by rw [L3,M2.len,m.len],λt Z a1=>by rw [E4 (λz=>a1 z.symm),M2.keep t Z,m.keep t Z a1]⟩⟩
   ·have a9:Z9 st' (.ref M)=zo (rs.map rdV):=by simp [G]
    have b0:(rs.map rdV).length + (J.map λj=>rdV (k,j)).length<=1000000:=by simp; omega
    have a6:(rs ++ J.map λj=>(k,j)).map rdV=rs.map rdV ++ J.map λj=>rdV (k,j):=by rw [F5,G7]; rfl
    rw [a6];unfold drΓ at e2 ⊢;generalize (J.map λj=>rdV (k,j))=jv at*
    generalize rs.map rdV=rv at*;show J5 [zo (.ref L),zo (.int n),zo (.int mo),zo (.int q),zo (.ref R),I,zo (.ref M),zo (.int k)] st'=_;simp! [J5,a9,a3,Qv,e2,Xp,chg,Y,b0,-jt]
   ·rcases E6.mp B with B | B
    ·exact ⟨(h1 r B).1,by have:=(h1 r B).2; omega⟩
    ·obtain ⟨j,hj,rfl⟩:=L9.mp B;exact ⟨⟨U,(g1 j hj).1,λz=>(g1 j hj).2 z.symm⟩,by simp⟩
   ·rw [dz];refine ⟨h2,?_,λa ha b hb=>?_⟩
    ·rw [dR];exact g2.imp λh=>.inr ⟨rfl,h⟩
    ·obtain ⟨j,hj,rfl⟩:=L9.mp hb;exact .inl (h1 a ha).2
   ·rw [D4,O3,gH]; omega
   ·rw [E4 (λz=>O z.symm)])
  ⟨_,[],rfl,λr B=>(by cases B),cW,by simp,T,hM,⟨rfl,λ_ _ _=>rfl⟩⟩
 obtain ⟨b2,S',e,b7,rs,rfl,h1,h2,h3,T',G,m⟩:=a8;rw [<- Yn] at e;rw [F7] at h3;have a2:n * n<=64:=F3 (iA hn hn) (by decide);exact ⟨b7,rs,S',⟨λr B=>(h1 r B).1,h2,by omega,h3⟩,T',G,m,e⟩
def Qp4 {L:Nat} (T:TapeAt S L ns) (a2:L < R) (n mo:Nat) (hn:n<=8) (q:Int) {rss:zAA} (a1:rss.length<=50) (hR:S[R]?=zo (.lst (rss.map Qp))) (I a6 Z:Option PV) :
  ∃ b6 b7 rs S',RsOk n rs/\TapeAt S' L ns/\S'[R]?=zo (.lst ((rss ++ [rs]).map Qp))/\S.length<=S'.length/\Jg (drΓ L n mo q R I a6 Z) S=.nx (drΓ L n mo q R I b6 b7) S':=by
 have J:-1000000<=(n:Int)/\(n:Int)<=1000000:=by omega
 have U:R < S.length:=(O0.mp hR).1;have T1:TapeAt (S ++ [.lst []]) L ns:=T.of (by rw [O4 ()]);obtain ⟨b7,rs,S2,ok,T2,hM,m,e⟩:=Qve T1 (M:=S.length) () (by simp) n mo R hn q I Z;have G:S2[R]?=zo (.lst (rss.map Qp)):=by rw [m.keep R () (),O4 U]; exact hR
 have B:R < S2.length:=(O0.mp G).1;refine ⟨zo (.ref S.length),b7,rs,S2.set R (.lst ((rss ++ [rs]).map Qp)),ok,T2.of (by rw [E4 ()]),by rw [D6 B],by rw [L3,m.len,D4]; omega,?_⟩;have O:(rss ++ [rs]).map Qp=rss.map Qp ++ [Qp rs]:=by rw [F5]; rfl
 have hT:PV.tup (rs.map rdV)=Qp rs:=rfl;have Y:(rss.map Qp).length < 1000000:=by rw [O3]; omega
 rw [O];unfold drΓ at e ⊢;generalize rss.map Qp=rv,rs.map rdV=ov,Qp rs=o at*;simp! [Jg,Qv,J,e,G,hM,hT,Uh,chg,Y]
def Qib {L:Nat} (T:TapeAt S L ns) (n mo:Nat) (hn:n<=8) (a2:mo<=40):∃ (R:Nat) (S':Q0) (rss:zAA),TapeAt S' L ns/\(∀ rs∈rss,RsOk n rs)/\rss.length<=mo/\S'[R]?=zo (.lst (rss.map Qp))/\R≠L/\S.length<=S'.length/\Z8 [.ref L,.int n,.int mo] S=.ok (.ref R) S':=by
 obtain ⟨d,S1,hd,J,M1,e1⟩:=Z5 T 6 (by decide) (by decide);rw [show ((6:Nat):Int)=6 from rfl] at e1;have T2:TapeAt (S1 ++ [.lst []]) L ns:=J.of (by rw [O4 J.lt]);obtain ⟨k,S3,hk,T3,M3,e3⟩:=Z5 T2 (mo + 1) () ();rw [show ((mo + 1:Nat):Int)=(mo:Int) + 1 from by push_cast; rfl] at e3;have a1:S3[S1.length]?=zo (.lst []):=by rw [M3.keep _ (by have:=J.lt; omega)]; simp
 have Z:=Yu (g:=λk:Nat=>PV.int (k:Int)) (xs:=bc k) (ga:=Q3 5) (body:=Jg) (w:=[]) (Γ:=drΓ L n mo (1 + (d:Int)) S1.length zl zl zl) (st:=S3)
  (λi Γ st'=>∃ b5 O b7 rss,Γ=drΓ L n mo (1 + (d:Int)) S1.length b5 O b7/\(∀ rs∈rss,RsOk n rs)/\rss.length=i/\TapeAt st' L ns/\st'[S1.length]?=zo (.lst (rss.map Qp))/\S.length<=st'.length)
  (λ_ _ _ _=>by simp)
  (λi x Γ st' hx ⟨b5,O,b7,rss,g1,h1,h2,T',hR,q⟩=>by
   subst g1;have hi:i < k:=by simpa using (O0.mp hx).1
   obtain ⟨c6,c7,rs,S',ok,Y,B,a4,I⟩:=Qp4 T' J.lt n mo hn (1 + (d:Int)) () hR (zo (.int x)) O b7;refine ⟨_,rfl,_,S',I,_,_,_,rss ++ [rs],rfl,λr G=>?_,by rw [D4,h2]; rfl,Y,B,by omega⟩;rcases E6.mp G with G | G
   ·exact h1 r G
   ·rw [G6.mp G]; exact ok)
  ⟨_,_,_,[],rfl,λr G=>(by cases G),rfl,T3,a1,by rw [M3.len,D4,M1.len]; omega⟩
 obtain ⟨a3,S4,I,b5,O,b7,rss,rfl,h1,h2,Y,B,q⟩:=Z;rw [<- Yn] at I;rw [F7] at h2;have U:-1000000<=(k:Int)/\(k:Int)<=1000000:=by omega
 have step:Z0 [zo (.ref L),zo (.int n),zo (.int mo),zl,zl,zl,zl,zl] S=.rt (.ref S1.length) S4:=by
  unfold drΓ at I;simp! [Z0,e1,e3,Qv,U,I]
 refine ⟨S1.length,S4,rss,Y,h1,by omega,B,by have:=J.lt; omega,q,?_⟩;show Jx Z0 8 _ S=_;unfold Jx;rw [show (([PV.ref L,.int n,.int mo]:List PV).map zo ++ bg (8 - [PV.ref L,.int n,.int mo].length) zl)=[zo (.ref L),zo (.int n),zo (.int mo),zl,zl,zl,zl,zl] from rfl,step]
@[simp] theorem Qe0 (mo mi:ME) (Γ:Gam) (st:Q0):Zu mo mi Γ st=(mo Γ st).bind λp B=>(mi Γ B).bind λq G=>Um G p q:=rfl
@[simp] theorem Qdz (mo mi m:ME) (Γ:Gam) (st:Q0):jq mo mi m Γ st=(m Γ st).sbind λv I=>(mo Γ I).sbind λp J=>(mi Γ J).sbind λq G=>match qt G p q v with
 | some B=>.nx Γ B
 | none=>.stuck:=rfl
@[simp] theorem Qth (mk m:ME) (Γ:Gam) (st:Q0):Q71 mk m Γ st=(mk Γ st).bind λG B=>(m Γ B).bind λpv q=>match Xz G with
 | some k=>.ok (.ref q.length) (q ++ [.dic [(k,pv)]])
 | none=>.stuck:=rfl
@[simp] theorem Q14 (i:Int):Xz (.int i)=zo (.inl i):=rfl
theorem x8 (k:Key):∀ kvs:List (Key × PV),(kvs.any λkv=>decide (kv.1=k))=(Qy kvs k).isSome
 | []=>rfl
 | (a,b) :: r=>by
  have B:=x8 k r
  by_cases q:a=k
  ·simp [Qy,G8,q]
  ·have:Qy ((a,b) :: r) k=Qy r k:=by simp [Qy,G8,q]
   rw [this,<- B]; simp [q]
theorem Q7p (k j:Key) (v:PV):∀ kvs:List (Key × PV),Qy (kvs.map λkv=>if kv.1=k then (kv.1,v) else kv) j=(Qy kvs j).map λx=>if j=k then v else x
 | []=>rfl
 | (a,b) :: r=>by
  have I:=Q7p k j v r
  by_cases q:a=j
  ·subst q
   by_cases B:a=k <;> simp [Qy,G8,B]
  ·have G:Qy ((a,b) :: r) j=Qy r j:=by simp [Qy,G8,q]
   rw [G,<- I]
   by_cases B:a=k
   ·simp [Qy,G8,B,show ¬ k=j from λz=>q (B.trans z)]
   ·simp [Qy,G8,B,q]
theorem Q0q (j k:Key) (v:PV):∀ kvs:List (Key × PV),Qy (kvs ++ [(k,v)]) j=match Qy kvs j with | some x=>zo x | none=>if j=k then zo v else zl
 | []=>by
  by_cases q:k=j
  ·simp [Qy,q]
  ·simp [Qy,q,show ¬ j=k from λz=>q z.symm]
 | (a,b) :: r=>by
  have I:=Q0q j k v r
  by_cases q:a=j
  ·simp [Qy,G8,q]
  ·have G:Qy ((a,b) :: r) j=Qy r j:=by simp [Qy,G8,q]
   have B:Qy (((a,b) :: r) ++ [(k,v)]) j=Qy (r ++ [(k,v)]) j:=by simp [Qy,G8,q]
   rw [G,B,I]
def Qfc (kvs:List (Key × PV)) (k j:Key) (v:PV):Qy (Kx kvs k v) j=if j=k then zo v else Qy kvs j:=by
 unfold Kx
 by_cases q:(kvs.any λkv=>decide (kv.1=k))=zi
 ·rw [bX q,Q7p]
  by_cases h:j=k
  ·subst h;rw [x8] at q;cases z:Qy kvs j with
   | none=>rw [z] at q; cases q
   | some x=>simp
  ·simp [h]
 ·rw [bY q,Q0q];have B:Qy kvs k=zl:=by
   rw [x8] at q;cases z:Qy kvs k with
   | none=>rfl
   | some x=>rw [z] at q; exact absurd rfl q
  by_cases h:j=k
  ·subst h; simp [B]
  ·rw [bY h];cases Qy kvs j <;> simp [h]
def Qgi (kvs:List (Key × PV)) (k:Key) (v:PV):(Kx kvs k v).length<=kvs.length + 1:=by
 unfold Kx; split <;> simp
def Q3k {kvs:List (Key × PV)} {k:Key} (v:PV) (h:Qy kvs k=zl):Kx kvs k v=kvs ++ [(k,v)]:=by
 unfold Kx; rw [x8,h]; simp
def DicAt (S:Q0) (V:PV) (kvs:List (Key × PV)):Prop:=∃ i,V=.ref i/\(S[i]?=zo (.dic kvs)\/S[i]?=zo (.frd kvs))
def DicAt.of {V:PV} {kvs:List (Key × PV)} (h:DicAt S V kvs):y9 S V=zo kvs:=by
 obtain ⟨i,rfl,h | h⟩:=h <;> simp only [y9,h]
def DicAt.get {V:PV} {kvs:List (Key × PV)} {k:Int} (h:DicAt S V kvs) (e:Qy kvs (.inl k)=zo v):Um S V (.int k)=.ok v S:=by
 unfold Um; rw [h.of,Q14]; simp only [e]
def DicAt.inn {V:PV} {kvs:List (Key × PV)} {k:Int} (h:DicAt S V kvs) (q:Bool):Q6y q S (.int k) V=.ok (.bl ((Qy kvs (.inl k)).isSome != q)) S:=by
 unfold Q6y; rw [h.of,Q14]
def zp {i:Nat} {kvs:List (Key × PV)} {k:Int} (h:S[i]?=zo (.dic kvs)) (hl:kvs.length < 1000000):qt S (.ref i) (.int k) v=zo (S.set i (.dic (Kx kvs (.inl k) v))):=by
 unfold qt; rw [Q14];have:jy S i=zo kvs:=by unfold jy; rw [h]
 simp only [this,bX (show kvs.length < lim from hl)]
def Q8 {a b:MS} {q:Gam} (h1:a Γ S=.nx q S1) (h2:b q S1=r):Q5 a b Γ S=r:=by rw [Yf,h1]; exact h2
def Jj {i:Nat} {m:ME} (h:m Γ S=.ok v S1):Qr i m Γ S=.nx (Γ.set i (zo v)) S1:=by rw [Qn0,h]; rfl
def Qi {F:FN} (h1:mr Γ S=.ok ps S1) (h2:ps.length=n) (q:F ps S1=.ok v S2):Qg n F mr Γ S=.ok v S2:=by rw [Qe3,h1,J1,bX h2,q]
def Qb {o:OP} {a b:ME} {x y:PV} (h1:a Γ S=.ok x S1) (h2:b Γ S1=.ok y S2) (q:o S2 x y=.ok v S3):mOp o a b Γ S=.ok v S3:=by rw [Qru,h1,J1,h2,J1,q]
def Q4 {m:ME} {p:PV} (h1:m Γ S=.ok p S1) (h2:mr Γ S1=.ok ps S2):Q2 m mr Γ S=.ok (p :: ps) S2:=by rw [Qhn,h1,J1,h2,J1]
def Ji {o:CF} (h1:mr Γ S=.ok ps S1) (h2:o S1 ps=.ok v S2):Qj o mr Γ S=.ok v S2:=by rw [Qhp,h1,J1,h2]
def Wu {b:MS} {xs:List PV} {w:Wt} (h1:mi Γ S=.ok (xs,w) S1) (h2:Jn ga b w xs Γ S1=r):Vi ga mi b Γ S=r:=by rw [Q2c,h1]; exact h2
def Uj {a b:MS} (h1:c Γ S=.ok zi S1) (h2:a Γ S1=r):J9 c a b Γ S=r:=by rw [Q70,h1]; exact h2
def Y2 {a b:MS} (h1:c Γ S=.ok zb S1) (h2:b Γ S1=r):J9 c a b Γ S=r:=by rw [Q70,h1]; exact h2
def Q7j {m:ME} {q:Gam} {p:PV} (h1:m Γ S=.ok p S1) (h2:ga p Γ=zo q):Qhr ga m Γ S=.nx q S1:=by rw [Qn3,h1]; show (match ga p Γ with | some q=>SR.nx q S1 | none=>.stuck)=_; rw [h2]
def Xw {m:ME} {p:PV} {xs:List PV} {w:Wt} (h1:m Γ S=.ok p S1) (h2:W6 S1 p=zo (xs,w)) (q:xs.length<=1000000):Vv m Γ S=.ok (xs,w) S1:=by rw [Qn1,h1,J1,h2]; exact bX q
def qz {m:ML} (h:m Γ S=.ok ps S1):Wr m Γ S=.ok (.lst ps) S1:=by rw [Qmx,h,J1]
def K1 {cap:zAE} {xs ys:List PV} {w:Wt} (h1:mi Γ S=.ok (xs,w) S1) (h2:J0 ga mt me w (Jp cap Γ) xs S1=.ok ys S2):J3 cap ga mi mt me Γ S=.ok ys S2:=by rw [Qe1,h1,J1,h2]; rfl
def Qp5 {m:ML} (h:m Γ S=.ok ps S1):jj m Γ S=.ok (.ref S1.length) (S1 ++ [.lst ps]):=by rw [Qmz,h,J1]
def Q10 {t:MT} {b:Bool} (h:t Γ S=.ok b S1):Yb t Γ S=.ok (!b) S1:=by rw [Qfg,h,J1]
def Qc {m:ME} {b:Bool} (h:m Γ S=.ok (.bl b) S1):toB m Γ S=.ok b S1:=by rw [Qp6,h]; rfl
def Qa7 {mo mi m:ME} {q:Q0} {p o i:PV} (h1:m Γ S=.ok p S1) (h2:mo Γ S1=.ok o S2) (B:mi Γ S2=.ok i S3) (G:Uf S3 o i p=zo q):Uu mo mi m Γ S=.nx Γ q:=by
 rw [Qdy,h1,Yc,h2,Yc,B,Yc,G]
def Qt2 {f:MF} {mo:ME} {p:PV} {xs:List PV} (h1:mo Γ S=.ok p S1) (h2:Z9 S1 p=zo xs) (B:mr Γ S1=.ok ps S2) (q:f S2 p ps=.ok v S3):Xs (mBM f mo mr) Γ S=.nx Γ S3:=by
 rw [Q03,Qrw,h1,J1];simp only [h2];rw [B,J1,q,Yc]
def Qb1 {m:ME} (h:m Γ S=.ok v S1):Xs m Γ S=.nx Γ S1:=by rw [Q03,h]; rfl
def Qdn {a b:MT} (h:a Γ S=.ok zi S1):Vw a b Γ S=.ok zi S1:=by rw [Qbk,h]; rfl
def Ww {a b:MT} {r:Res Bool} (h:a Γ S=.ok zb S1) (h2:b Γ S1=r):Vw a b Γ S=r:=by rw [Qbk,h]; exact h2
def Vd {a b:MS} (h:a Γ S=.rt v S1):Q5 a b Γ S=.rt v S1:=by rw [Yf,h]
def Qfe (h1:mr Γ S=.ok ps S1) (h2:ps.length<=1000000):Q01 mr Γ S=.ok (.tup ps) S1:=by rw [Qmy,h1,J1]; exact bX h2
def Qiq {m:MS} {nl:Nat} (h:m (ps.map zo ++ bg (nl - ps.length) zl) S=.rt v S'):Qn m nl ps S=fin S v S':=by unfold Qn; rw [h]
def Yi {a b:MT} {r:Res Bool} (h:a Γ S=.ok zi S1) (h2:b Γ S1=r):V8 a b Γ S=r:=by rw [Q7s,h]; exact h2
def Q0m {a b:MT} (h:a Γ S=.ok zb S1):V8 a b Γ S=.ok zb S1:=by rw [Q7s,h]; rfl
def Q0u {m:ME} (h:m Γ S=.ok v S1):Qz m Γ S=.rt v S1:=by rw [Qc4,h]; rfl
def Xu (S:Q0) {a b:Int} (h:a=b):oEq S (.int a) (.int b)=.ok (.bl zi) S:=by simp [h]
def qq (S:Q0) {a b:Int} (h:¬ a=b):oEq S (.int a) (.int b)=.ok (.bl zb) S:=by simp [h]
def Qhs (S:Q0) {a b:Int} (h:a < b):oLt S (.int a) (.int b)=.ok (.bl zi) S:=by simp [h]
def Q5t (S:Q0) {a b:Int} (h:¬ a < b):oLt S (.int a) (.int b)=.ok (.bl zb) S:=by
 have:oLt S (.int a) (.int b)=.ok (.bl (decide (a < b))) S:=by simp
 rw [this,bZ h]
def Q1k (S:Q0) {a b:Int} (h:b < a):(oI λa b=>.bl (decide (b < a))) S (.int a) (.int b)=.ok (.bl zi) S:=by
 show Res.ok (PV.bl (decide (b < a))) S=_; rw [ba h]
def Q4c (S:Q0) {a b:Int} (h:¬ b < a):(oI λa b=>.bl (decide (b < a))) S (.int a) (.int b)=.ok (.bl zb) S:=by
 show Res.ok (PV.bl (decide (b < a))) S=_; rw [bZ h]
def Qf8 (S:Q0) (a b:Int):Y1 S (.int a) (.int b)=.ok (.int (a + b)) S:=by simp
def Qj7 (h:mr Γ S=.ok ps S1) (hl:ps.length<=1000000:=by decide):Q8t mr Γ S=.ok (.lst ps) S1:=by
 unfold Q8t;rw [h,J1];exact bX hl
def Q3g (q:n<=1000) {m:ME} (h:m Γ S=.ok (.int n) S):Zg (Q2 m Q7) Γ S=.ok (Jr 0 n,[]) S:=by
 rw [Qap,Q4 h (show Q7 Γ S=.ok [] S from rfl),J1];show (if -(lim:Int)<=(n:Int)/\(n:Int)<=lim then _ else _)=_;rw [bX (by rw [Qv]; omega),bx]
def Qmu (g:Za dep v=zi) (hd:der S v=v):oNe S v v=.ok (.bl zb) S:=by
 have q:peq v v=zi:=jc g;unfold oNe;rw [hd];simp [g,q]
def Vm {a b:ME} {x y:PV} {r:Res PV} (h1:a Γ S=.ok x S1) (h2:b Γ S1=.ok y S2) (q:Um S2 x y=r):Zu a b Γ S=r:=by rw [Qe0,h1,J1,h2,J1,q]
def Qp0 (S:Q0) {a b:Int} (h:a<=b):(oI λa b=>.bl (decide (a<=b))) S (.int a) (.int b)=.ok (.bl zi) S:=by
 show Res.ok (PV.bl (decide (a<=b))) S=_;rw [ba h]
def Qp1 (S:Q0) {a b:Int} (h:¬ a<=b):(oI λa b=>.bl (decide (a<=b))) S (.int a) (.int b)=.ok (.bl zb) S:=by
 show Res.ok (PV.bl (decide (a<=b))) S=_;rw [bZ h]
def Q7k {a b:ME} {r:Res PV} (h1:a Γ S=.ok (.bl zi) S1) (h2:b Γ S1=r):jr a b Γ S=r:=by rw [Qc7,h1,J1,h2]; rfl
def Qgd {a b:ME} {i j:Int} {k:Nat} (h1:a Γ S=.ok (.int i) S) (h2:b Γ S=.ok (.int j) S) (q:-1000000<=i/\i<=1000000/\-1000000<=j/\j<=1000000) (B:(j - i).toNat=k):zj (Q2 a (Q2 b Q7)) Γ S=.ok (Jr i k,[]) S:=by
 rw [Qan,Q4 h1 (Q4 h2 (show Q7 Γ S=.ok [] S from rfl)),J1,<- B];exact bX q
def Q19 {a b c:ME} {q:Q0} {x y z:PV} (B:c Γ S=.ok z S1) (h1:a Γ S1=.ok x S2) (h2:b Γ S2=.ok y S3) (h:qt S3 x y z=zo q):jq a b c Γ S=.nx Γ q:=by
 rw [Qdz,B,Yc,h1,Yc,h2,Yc,h]
abbrev Mo:=Nat->Option (Nat × Option Nat)
variable {m:Mo}
def frV:Option Nat->PV
 | none=>.non
 | some i=>.int (i:Nat)
def Fd (kvs:List (Key × PV)) (m:Mo):Prop:=∀ j:Nat,Qy kvs (.inl (j:Int))=(m j).map λp=>PV.tup [.int (p.1:Nat),frV p.2]
structure Arr (rss:zAA) (house mom bd t:Nat) (pre:zAB) (m:Mo):Prop where
 a:m house=zo (mom,zl)
 b:∀ k p,m k=zo p->k≠house->∃ i,p.2=zo i/\mom < p.1/\p.1<=bd/\(∃ rs,rss[p.1 - 1]?=zo rs/\(i,k)∈rs)/\∃ q,m i=zo q/\q.1 + 1<=p.1
 c:∀ t' rs i j q,mom<=t'->t' < t->rss[t']?=zo rs->(i,j)∈rs->m i=zo q->q.1<=t'->∃ p,m j=zo p/\p.1<=t' + 1
 d:∀ i j q,(i,j)∈pre->m i=zo q->q.1<=t->∃ p,m j=zo p/\p.1<=t + 1
def Qjf (m:Mo) (j:Nat) (p:Nat × Option Nat):Mo:=λk=>if k=j then zo p else m k
def X0 {k:Nat} (h:k≠j):Qjf m j p k=m k:=bY h
def x9 :Qjf m j p j=zo p:=bX rfl
def Arr.hit {rss:zAA} {house mom t:Nat} {pre:zAB} {i:Nat} {q:Nat × Option Nat} (h:Arr rss house mom (t + 1) t pre m) (ht:mom<=t) (hr:rss[t]?=zo rs) (Z:(i,j)∈rs) (hj:m j=zl) (hi:m i=zo q) (hq:q.1<=t) :
  Arr rss house mom (t + 1) t (pre ++ [(i,j)]) (Qjf m j (t + 1,zo i)):=by
 have ne:∀ {k p},m k=zo p->k≠j:=λe z=>by rw [z,hj] at e; cases e
 refine ⟨?_,λk p e hk=>?_,λt' Y G J q' h1 h2 O h4 U h6=>?_,λG J q' h1 h2 O=>?_⟩
 ·rw [X0 (ne h.a)]; exact h.a
 ·by_cases z:k=j
  ·subst z;rw [x9] at e;cases e;exact ⟨i,rfl,by simp; omega,O6 _,⟨rs,by simpa using hr,Z⟩,q,by rw [X0 (ne hi)]; exact hi,by simp; omega⟩
  ·rw [X0 z] at e;obtain ⟨i0,B,I,e3,e4,q0,e5,e6⟩:=h.b k p e hk;exact ⟨i0,B,I,e3,e4,q0,by rw [X0 (ne e5)]; exact e5,e6⟩
 ·by_cases z:G=j
  ·subst z;rw [x9] at U;cases U;exact absurd h6 (by simp; omega)
  ·rw [X0 z] at U;obtain ⟨p,B,I⟩:=h.c t' Y G J q' h1 h2 O h4 U h6;exact ⟨p,by rw [X0 (ne B)]; exact B,I⟩
 ·by_cases z:G=j
  ·subst z;rw [x9] at h2;cases h2;exact absurd O (by simp)
  ·rw [X0 z] at h2;rcases E6.mp h1 with h1 | h1
   ·obtain ⟨p,B,I⟩:=h.d G J q' h1 h2 O;exact ⟨p,by rw [X0 (ne B)]; exact B,I⟩
   ·have e:(G,J)=(i,j):=G6.mp h1;cases e;exact ⟨_,x9,O6 _⟩
def Arr.miss {rss:zAA} {house mom t:Nat} {pre:zAB} {i:Nat} (h:Arr rss house mom (t + 1) t pre m) (Y:mom<=t) (U:¬ (m j=zl/\∃ q,m i=zo q/\q.1<=t)) :
  Arr rss house mom (t + 1) t (pre ++ [(i,j)]) m:=by
 refine ⟨h.a,h.b,h.c,λG I B h1 h2 J=>?_⟩;rcases E6.mp h1 with h1 | h1
 ·exact h.d G I B h1 h2 J
 ·have e:(G,I)=(i,j):=G6.mp h1;cases e;cases z:m j with
  | none=>exact absurd ⟨z,B,h2,J⟩ U
  | some p=>
   refine ⟨p,rfl,?_⟩
   by_cases k:j=house
   ·subst k;rw [h.a] at z;cases z;show mom<=t + 1;omega
   ·obtain ⟨_,_,_,O,_⟩:=h.b j p z k;exact O
def Arr.next {rss:zAA} {house mom t:Nat} (h:Arr rss house mom (t + 1) t rs m) (U:rss[t]?=zo rs):Arr rss house mom (t + 1) (t + 1) [] m:=
 ⟨h.a,h.b,λt' B i j q h1 h2 G O I J=>by
  by_cases z:t'=t
  ·subst z;rw [U] at G;cases G;exact h.d i j q O I J
  ·exact h.c t' B i j q h1 () G O I J,λi j q h1=>by cases h1⟩
def Arr.wide {rss:zAA} {house mom bd q t:Nat} {pre:zAB} (h:Arr rss house mom bd t pre m) (O:bd<=q):Arr rss house mom q t pre m:=
 ⟨h.a,λk p e U=>let ⟨i,I,G,B,J⟩:=h.b k p e U; ⟨i,I,G,F3 B O,J⟩,h.c,h.d⟩
def Qas {V:PV} {xs:List PV} (h:ListAt S V xs) (q:∀ t,t < S.length->S'[t]?=S[t]?\/¬ ∃ ys,S[t]?=zo (.lst ys)):ListAt S' V xs:=by
 rcases h with rfl | rfl | ⟨i,rfl,e⟩
 ·exact .inl rfl
 ·exact .inr (.inl rfl)
 ·refine .inr (.inr ⟨i,rfl,?_⟩);rcases q i (O0.mp e).1 with z | z
  ·rw [z]; exact e
  ·exact absurd ⟨xs,e⟩ z
abbrev arΓ (V:PV) (house mom D:Nat) (a4 a5 a6:Option PV):Gam:=[zo V,zo (.int house),zo (.int mom),zo (.ref D),a4,a5,a6]
def Qt1 {V:PV} {rss:zAA} {house mom t:Nat} (ht:mom<=t) (hr:rss[t]?=zo rs) (a7:rs.length<=100) {S:Q0} {kvs:List (Key × PV)} (hF:Fd kvs m) (hA:Arr rss house mom (t + 1) t [] m) (hl:kvs.length<=100000) (a5 a6:Option PV) :
  ∃ b5 U B G,Fd B G/\Arr rss house mom (t + 1) t rs G/\B.length<=kvs.length + 100/\Jn (Z2 (Qa (Q3 5) (Qa (Q3 6) Z3))) Vr [] (rs.map rdV) (arΓ V house mom S.length (zo (.int t)) a5 a6) (S ++ [.dic kvs])=.nx (arΓ V house mom S.length (zo (.int t)) b5 U) (S ++ [.dic B]):=by
 obtain ⟨a9,st',e,b5,U,B,G,rfl,rfl,h1,h2,h3⟩:=Q61 (g:=rdV) (xs:=rs) (ga:=Z2 (Qa (Q3 5) (Qa (Q3 6) Z3))) (body:=Vr) (w:=[]) (Γ:=arΓ V house mom S.length (zo (.int t)) a5 a6) (st:=S ++ [.dic kvs])
  (λpre Γ st'=>∃ b5 U B G,Γ=arΓ V house mom S.length (zo (.int t)) b5 U/\st'=S ++ [.dic B]/\Fd B G/\Arr rss house mom (t + 1) t pre G/\B.length<=kvs.length + pre.length)
  (λ_ _ _ _=>by simp)
  (λpre r a1 Γ st' hx ⟨b5,U,B,G,e1,e2,F',A',l'⟩=>by
   subst e1; subst e2;obtain ⟨i,j⟩:=r;have a3:(i,j)∈rs:=by rw [hx]; simp
   have a8:pre.length + 1<=100:=by
    have:rs.length=pre.length + (a1.length + 1):=by rw [hx]; simp
    omega
   have hD:DicAt (S ++ [.dic B]) (.ref S.length) B:=⟨_,rfl,.inl (by simp)⟩;have n1:=hD.inn (k:=(j:Int)) zi;have Y:=hD.inn (k:=(i:Int)) zb;have J:=F' j;have I:=F' i;refine ⟨_,rfl,?_⟩;show ∃ a2 a4,Vr [zo V,zo (.int house),zo (.int mom),zo (.ref S.length),zo (.int t),zo (.int i),zo (.int j)] (S ++ [.dic B])=.nx a2 a4/\_
   by_cases hit:G j=zl/\∃ q,G i=zo q/\q.1<=t
   ·obtain ⟨Z,q,hi,hq⟩:=hit;rw [Z] at J;rw [hi] at I;have J:Qy B (.inl (j:Int))=zl:=J;have I:Qy B (.inl (i:Int))=zo (.tup [.int (q.1:Nat),frV q.2]):=I;have g:=hD.get I;have dp:=zp (S:=S ++ [.dic B]) (i:=S.length) (kvs:=B) (k:=(j:Int)) (v:=.tup [.int ((t:Int) + 1),.int i]) (by simp) ();have O:(q.1:Int)<=(t:Int):=by omega
    rw [J] at n1;rw [I] at Y;rw [Q9z] at dp;refine ⟨arΓ V house mom S.length (zo (.int t)) (zo (.int i)) (zo (.int j)),S ++ [.dic (Kx B (.inl (j:Int)) (.tup [.int ((t:Int) + 1),.int i]))],?_,_,_,_,Qjf G j (t + 1,zo i),rfl,rfl,λk=>?_,A'.hit ht hr a3 Z hi hq,?_⟩
    ·exact Uj (Yi (Qc n1) (Yi (Qc Y) (Qc (Qb (Qb (Vm rfl rfl g) rfl rfl) rfl (Qp0 _ O))))) (Q19 rfl rfl rfl dp)
    ·rw [Qfc]
     by_cases z:k=j
     ·subst z;rw [bX rfl,x9];show _=zo (PV.tup [.int ((t + 1:Nat):Int),.int (i:Nat)])
      push_cast; rfl
     ·rw [bY (λh=>z (by have:=dE h; omega)),X0 z]; exact F' k
    ·have:=Qgi B (.inl (j:Int)) (.tup [.int ((t:Int) + 1),.int i]);rw [D4];simp only [ee];omega
   ·refine ⟨arΓ V house mom S.length (zo (.int t)) (zo (.int i)) (zo (.int j)),S ++ [.dic B],?_,_,_,_,G,rfl,rfl,F',A'.miss ht hit,by rw [D4]; omega⟩;cases Z:G j with
    | some p=>
     rw [Z] at J;have J:Qy B (.inl (j:Int))=zo (.tup [.int (p.1:Nat),frV p.2]):=J;rw [J] at n1;exact Y2 (Q0m (Qc n1)) rfl
    | none=>
     rw [Z] at J;have J:Qy B (.inl (j:Int))=zl:=J;rw [J] at n1;cases hi:G i with
     | none=>
      rw [hi] at I;have I:Qy B (.inl (i:Int))=zl:=I;rw [I] at Y;exact Y2 (Yi (Qc n1) (Q0m (Qc Y))) rfl
     | some q=>
      rw [hi] at I;have I:Qy B (.inl (i:Int))=zo (.tup [.int (q.1:Nat),frV q.2]):=I;have g:=hD.get I;rw [I] at Y;have O:¬ ((q.1:Int)<=(t:Int)):=λz=>hit ⟨Z,q,hi,by omega⟩
      exact Y2 (Yi (Qc n1) (Yi (Qc Y) (Qc (Qb (Qb (Vm rfl rfl g) rfl rfl) rfl (Qp1 _ O))))) rfl)
  ⟨_,_,kvs,m,rfl,rfl,hF,hA,by simp⟩
 exact ⟨b5,U,B,G,h1,h2,by omega,e⟩
def Jc {V:PV} {xs:List PV} (h:ListAt S V xs) (T:Q0):ListAt (S ++ T) V xs:=Qas h λt q=>.inl (O4 q)
def z8 {V:PV} {rss:zAA} (hV:ListAt S V (rss.map Qp)) (a7:rss.length<=40) (U:∀ rs∈rss,rs.length<=100) {house mom:Nat} (hm:mom<=rss.length) :
  ∃ kvs m,Fd kvs m/\Arr rss house mom rss.length rss.length [] m/\Ya [V,.int house,.int mom] S=.ok (.ref S.length) (S ++ [.dic kvs]):=by
 have F0:Fd [(.inl (house:Int),.tup [.int mom,.non])] (λk=>if k=house then zo (mom,zl) else zl):=λj=>by
  by_cases z:j=house
  ·subst z; simp [Qy,frV]
  ·simp [Qy,z,show ¬ ((house:Int)=(j:Int)) by omega]
 have A0:Arr rss house mom mom mom [] (λk=>if k=house then zo (mom,zl) else zl):=⟨bX rfl,λk p e hk=>(by rw [bY hk] at e; cases e),λt' rs i j q h1 h2=>(),λi j q h=>(by cases h)⟩
 obtain ⟨a8,st',e,b4,Y,J,B,O,rfl,rfl,h1,h2,h3⟩:=Yu (g:=λk:Nat=>PV.int ((mom:Int) + (k:Int))) (xs:=bc (rss.length - mom)) (ga:=Q3 4) (body:=Vs) (w:=[]) (Γ:=arΓ V house mom S.length zl zl zl) (st:=S ++ [.dic [(.inl (house:Int),.tup [.int mom,.non])]])
  (λi Γ st'=>∃ b4 Y J B O,Γ=arΓ V house mom S.length b4 Y J/\st'=S ++ [.dic B]/\Fd B O/\Arr rss house mom (mom + i) (mom + i) [] O/\B.length<=1 + 100 * i)
  (λ_ _ _ _=>by simp)
  (λi x Γ st' hx ⟨b4,Y,J,B,O,e1,e2,F',A',l'⟩=>by
   subst e1; subst e2;have hi:i < rss.length - mom:=by simpa using (O0.mp hx).1
   have a1:x=i:=by
    rw [L8 hi] at hx;exact (bm hx).symm
   subst a1;have I:mom + x < rss.length:=by omega
   have hr:rss[mom + x]?=zo rss[mom + x]:=O2 I;obtain ⟨c5,c6,G,m2,F2,A2,l2,e2⟩:=Qt1 (V:=V) (S:=S) (iB mom x) hr (U _ (cP I)) F' (A'.wide (cI _)) () Y J;refine ⟨_,rfl,arΓ V house mom S.length (zo (.int (mom + x:Nat))) c5 c6,S ++ [.dic G],?_,_,_,_,G,m2,rfl,rfl,F2,(A2.next hr),by omega⟩;have Z:oIx (S ++ [.dic B]) V (.int ((mom + x:Nat):Int))=.ok (Qp rss[mom + x]) (S ++ [.dic B]):=by
    rw [(Jc hV _).ix,zr,Sm.atI_get hr]; rfl
   have a4:Qp rss[mom + x]=.tup (rss[mom + x].map rdV):=rfl;have a2:(rss[mom + x].map rdV).length<=1000000:=by rw [O3]; have:=U _ (cP I); omega
   rw [a4] at Z;rw [show (mom:Int) + (x:Int)=((mom + x:Nat):Int) by push_cast; rfl];show Vs [zo V,zo (.int house),zo (.int mom),zo (.ref S.length),zo (.int ((mom + x:Nat):Int)),Y,J] (S ++ [.dic B])=_;unfold arΓ at e2 ⊢;generalize ((mom + x:Nat):Int)=tt,rss[mom + x].map rdV=rv,S ++ [Cell.dic B]=S1,S ++ [Cell.dic G]=S2 at*;simp! [Vs,Z,Qv,a2,e2])
  ⟨_,_,_,_,_,rfl,rfl,F0,A0,by simp⟩
 rw [F7] at h2;rw [show mom + (rss.length - mom)=rss.length by omega] at h2;refine ⟨B,O,h1,h2,?_⟩;have a5:J4 (S ++ [.dic [(.inl (house:Int),.tup [.int mom,.non])]]) [V]=.ok (.int rss.length) (S ++ [.dic [(.inl (house:Int),.tup [.int mom,.non])]]):=by
  rw [(Jc hV _).len,O3]
 have a6:Jr (mom:Int) (rss.length - mom)=(bc (rss.length - mom)).map λk:Nat=>PV.int ((mom:Int) + (k:Int)):=Q5k _ _
 have b1:-1000000<=(mom:Int)/\(mom:Int)<=1000000/\-1000000<=(rss.length:Int)/\(rss.length:Int)<=1000000:=by omega
 rw [<- a6] at e;have step:Xr [zo V,zo (.int house),zo (.int mom),zl,zl,zl,zl] S=.rt (.ref S.length) (S ++ [.dic B]):=by
  unfold arΓ at e;obtain ⟨b1,b2,b3,a3⟩:=b1;simp! [Xr,Qv,a5,b1,b2,b3,a3,e]
 show Jx Xr 7 _ S=_;unfold Jx;rw [show (([V,.int house,.int mom]:List PV).map zo ++ bg (7 - [V,.int house,.int mom].length) zl)=[zo V,zo (.int house),zo (.int mom),zl,zl,zl,zl] from rfl,step]
def moV:Option Nat->PV
 | none=>.non
 | some t=>.int (t:Nat)
def moM (m:Mo) (k:Nat):Option Nat:=(m k).map (·.1)
def Q5r {V:PV} {kvs:List (Key × PV)} (G:DicAt S V kvs) (J:Fd kvs m) (k:Nat):Zp [V,.int k] S=.ok (moV (moM m k)) S:=by
 have n1:=G.inn (k:=(k:Int)) zb;have B:=J k;unfold moM;cases I:m k with
 | none=>
  rw [I] at B;have B:Qy kvs (.inl (k:Int))=zl:=B;rw [B] at n1;simp! [Zp,Qn,Xy,n1,moV]
 | some q=>
  rw [I] at B;have B:Qy kvs (.inl (k:Int))=zo (.tup [.int (q.1:Nat),frV q.2]):=B;have g:=G.get B;rw [B] at n1;generalize frV q.2=O at*;simp! [Zp,Qn,Xy,n1,g,moV,atI,ixN]
def Qe (n:Nat) (f:zAH):List (Key × PV):=(bc n).map λk:Nat=>((.inl (k:Int):Key),moV (f k))
def yz (n:Nat) (f:zAH):∀ k:Nat,Qy (Qe n f) (.inl (k:Int))=if k < n then zo (moV (f k)) else zl:=by
 induction n with
 | zero=>intro k; rfl
 | succ n B=>
  intro k;have e:Qe (n + 1) f=Qe n f ++ [(.inl (n:Int),moV (f n))]:=by unfold Qe; rw [dY,F5]; rfl
  rw [e,Q0q,B k]
  by_cases h:k < n
  ·rw [bX h,bX (show k < n + 1 by omega)]
  ·rw [bY h]
   by_cases z:k=n
   ·subst z; simp
   ·rw [bY (show ¬ k < n + 1 by omega)];have:¬ ((.inl (k:Int):Key)=.inl (n:Int)):=λq=>z (by have:=dE q; omega)
    simp [this]
def Qf6 (n:Nat) (f:zAH):je ((bc n).map λk:Nat=>PV.tup [.int (k:Nat),moV (f k)])=zo (Qe n f):=by
 have q:∀ l:List Nat,je (l.map λk:Nat=>PV.tup [.int (k:Nat),moV (f k)])=zo (l.map λk:Nat=>((.inl (k:Int):Key),moV (f k))):=by
  intro l
  induction l with
  | nil=>rfl
  | cons a l B=>rw [O5,O5,je,B]; rfl
 exact q _
def Qf7 (n:Nat) (f:zAH):Q6z [] (Qe n f)=Qe n f:=by
 induction n with
 | zero=>rfl
 | succ n q=>
  have e:Qe (n + 1) f=Qe n f ++ [(.inl (n:Int),moV (f n))]:=by unfold Qe; rw [dY,F5]; rfl
  rw [e];unfold Q6z at q ⊢;rw [fH,q];show Kx (Qe n f) (.inl (n:Int)) (moV (f n))=_;rw [Q3k _ (by rw [yz,bY ()])]
def Km (n:Nat) (f:zAH):(Qe n f).length=n:=by unfold Qe; simp
def Qem (n:Nat) (f:zAH):yt S [.lst ((bc n).map λk:Nat=>PV.tup [.int (k:Nat),moV (f k)])]=.ok (.ref S.length) (S ++ [.dic (Qe n f)]):=by
 unfold yt;simp only [Qar,Qf6,Qf7]
def Kk {V:PV} {rss:zAA} (O:ListAt S V (rss.map Qp)) (q:rss.length<=40) (B:∀ rs∈rss,rs.length<=100) {house:Nat} (U:n<=8) :
  ∃ kvs m,Arr rss house 0 rss.length rss.length [] m/\Qk [.int n,V,.int house] S=.ok (.ref (S.length + 1)) (S ++ [.dic kvs,.dic (Qe n (moM m))]):=by
 obtain ⟨kvs,m,F,A,e⟩:=z8 O q B (house:=house) (mom:=0) (L5 _);rw [show ((0:Nat):Int)=0 from rfl] at e;refine ⟨kvs,m,A,?_⟩;have G:DicAt (S ++ [.dic kvs]) (.ref S.length) kvs:=⟨_,rfl,.inl (by simp)⟩;have J:J0 (Q3 0) Z1 W0 [] (Jp [zl,zo 3] [zo (.int n),zo V,zo (.int house),zo (.ref S.length)]) (Jr 0 n) (S ++ [.dic kvs])=.ok ((bc n).map λk:Nat=>PV.tup [.int (k:Nat),moV (moM m k)]) (S ++ [.dic kvs]):=by
  rw [Yn];refine Yw _ _ (by simp) λk Y=>⟨_,rfl,?_⟩
  have:=Q5r G F k;generalize moV (moM m k)=mv,S ++ [Cell.dic kvs]=S1 at*;simp! [Jp,W0,this,Qv]
 have hd:=Qem (S:=S ++ [.dic kvs]) n (moM m);have I:-1000000<=(n:Int)/\(n:Int)<=1000000:=by omega
 rw [F4,D4] at hd;have hd:yt (S ++ [.dic kvs]) [.lst ((bc n).map λk:Nat=>PV.tup [.int (k:Nat),moV (moM m k)])]=.ok (.ref (S.length + 1)) (S ++ [.dic kvs,.dic (Qe n (moM m))]):=hd
 have step:Yt [zo (.int n),zo V,zo (.int house),zl] S=.rt (.ref (S.length + 1)) (S ++ [.dic kvs,.dic (Qe n (moM m))]):=by
  generalize ((bc n).map λk:Nat=>PV.tup [.int (k:Nat),moV (moM m k)])=pv at*
  generalize S ++ [Cell.dic kvs,Cell.dic (Qe n (moM m))]=S2,S ++ [Cell.dic kvs]=S1 at*;simp! [Yt,e,Qv,I,J,hd]
 show Jx Yt 4 _ S=_;unfold Jx;rw [show (([.int n,V,.int house]:List PV).map zo ++ bg (4 - [PV.int n,V,.int house].length) zl)=[zo (.int n),zo V,zo (.int house),zl] from rfl,step]
def Qc0 {V:PV} {rss:zAA} (J:ListAt S V (rss.map Qp)) (q:rss.length<=40) {house:Nat} (G:∀ rs∈rss,RsOk n rs) (I:1<=n) (B:n<=8) (Y:house < n):Zm [.int n,V,.int house] S=.ok .non S:=by
 have h1:Wg [.int n,V] S=.ok (.bl zi) S:=by
  have:=Qga (n:=n) I B (zs:=rss.map λrs=>(Qp rs,zi)) (by simpa using q) (V:=V) (st:=S) (by rw [G7]; exact J) (λz hz=>by
   obtain ⟨u,O,rfl⟩:=L9.mp hz;have ou:=G u O;rw [Qg8 ou.ok (by have:=ou.len; omega) S,Qbr ou.inc])
  rw [this];congr 2;rw [G7,cC];simp
 have h2:=Q2j (house:Int) 0 ((n:Int) - 1) S;have U:(decide ((0:Int)<=house) && decide ((house:Int)<=(n:Int) - 1))=zi:=by simp; omega
 rw [U] at h2;simp! [Zm,Qn,Kz,h1,h2]
@[simp] theorem jk (m:MS) (Γ:Gam) (st:Q0):jm m Γ st=(match m Γ st with
 | .nx q st'=>.nx q (Ue st st' st.length)
 | r=>r):=rfl
def Q80 {c d:Cell} (h:S[D]?=zo c):(S.set D d).set D c=S:=by
 rw [fZ];refine dA λt=>?_
 by_cases z:D=t
 ·subst z; rw [D6 (O0.mp h).1,h]
 ·rw [E4 z]
theorem za {S:Q0} {D:Nat} {kvs:List (Key × PV)} (h:S[D]?=zo (.dic kvs)):∀ n,Ue S (S.set D (.frd kvs)) n=if D < n then S else S.set D (.frd kvs)
 | 0=>by rw [bY ()]; rfl
 | n + 1=>by
  have hl:=(O0.mp h).1;rw [Ue,za h n]
  by_cases q:D < n
  ·rw [bX q,bX ()]
   split
   ·rename_i G B;rw [G] at B; cases B
   ·rfl
  ·rw [bY q]
   by_cases z:D=n
   ·subst z;rw [D6 hl,h,bX ()];exact Q80 h
   ·rw [E4 z,bY ()]
    split
    ·rename_i G B;rw [G] at B; cases B
    ·rfl
def Qe6 {kvs:List (Key × PV)} (h:S[D]?=zo (.dic kvs)) (hl:kvs.length<=1000000) {m:ME} {q:Gam} (G:m Γ S=.ok (.ref D) S) {ga:GA} {body:MS}
  (e:Jn ga body [(D,.frd kvs)] (kvs.map λkv=>kP kv.1) Γ (S.set D (.frd kvs))=.nx q (S.set D (.frd kvs))):jm (Vi ga (qk m) body) Γ S=.nx q S:=by
 have I:jy S D=zo kvs:=by unfold jy; rw [h]
 have J:Uv S (.ref D)=zo (kvs.map (λkv=>kP kv.1),D,kvs):=by simp only [Uv,I]
 have hi:qk m Γ S=.ok (kvs.map (λkv=>kP kv.1),[(D,.frd kvs)]) (S.set D (.frd kvs)):=by
  unfold qk;rw [G];simp only [J1,J];rw [bX (by rw [O3]; exact hl)]
 have B:=(O0.mp h).1;rw [jk,Q2c,hi];simp only [Yc,e];rw [za h,bX B]
def Q43 (n:Nat) (f:zAH):(Qe n f).map (λkv=>kP kv.1)=(bc n).map λk:Nat=>PV.int (k:Int):=by
 unfold Qe; rw [G7]; rfl
def Q6h (hl:D < S.length) (c:Cell):wOk [(D,c)] (S.set D c):=λx q=>by
 have:x=(D,c):=by simpa using q
 subst this;rw [D6 hl]
def Uq {V:PV} (h:DicAt S V (Qe n f)) {k:Nat} (q:k < n):Um S V (.int k)=.ok (moV (f k)) S:=h.get (by rw [yz,bX q])
inductive Pa (rss:zAA):Nat->Nat->Nat->Nat->Prop
 | refl (i a:Nat):Pa rss i a i a
 | wait {i a j b:Nat} (h:Pa rss i a j b) (hb:b < rss.length):Pa rss i a j (b + 1)
 | move {i a j b k:Nat} {rs:zAB} (h:Pa rss i a j b) (hr:rss[b]?=zo rs) (hm:(j,k)∈rs):Pa rss i a k (b + 1)
def Pa.le {rss:zAA} {i a:Nat} (h:Pa rss i a j b):a<=b:=by
 induction h with
 | refl=>exact O6 _
 | wait _ _ q=>omega
 | move _ _ _ q=>omega
def Pa.trans {rss:zAA} {i a k c:Nat} (h:Pa rss i a j b) (g:Pa rss j b k c):Pa rss i a k c:=by
 induction g with
 | refl=>exact h
 | wait _ I q=>exact q.wait I
 | move _ G B q=>exact q.move G B
theorem Pa.stay {rss:zAA} (i a:Nat):∀ d,a + d<=rss.length->Pa rss i a i (a + d)
 | 0,_=>.refl i a
 | d + 1,h=>(Pa.stay i a d ()).wait ()
def Pa.stayTo {rss:zAA} (i:Nat) {a:Nat} (h:a<=b) (q:b<=rss.length):Pa rss i a i b:=by
 have:=Pa.stay (rss:=rss) i a (b - a) ()
 rwa [show a + (b - a)=b by omega] at this
def Q07 (P:Nat->Prop) (h:∃ n,P n):∃ n,P n/\∀ k,P k->n<=k:=by
 obtain ⟨n,I⟩:=h
 induction n using iC with
 | ind n B=>
  by_cases z:∃ k,k < n/\P k
  ·obtain ⟨k,h1,h2⟩:=z;exact B k h1 h2
  ·exact ⟨n,I,λk G=>er λq=>z ⟨k,q,G⟩⟩
open Classical in
def Qu (rss:zAA) (i a j:Nat):Option Nat:=if h:∃ t,Pa rss i a j t then zo (Classical.choose (Q07 _ h)) else zl
def Kc {rss:zAA} {i a:Nat} (h:Qu rss i a j=zo b):Pa rss i a j b/\∀ t,Pa rss i a j t->b<=t:=by
 unfold Qu at h
 split at h
 ·rename_i q;cases h;exact Classical.choose_spec (Q07 _ q)
 ·cases h
def Q4d {rss:zAA} {i a t:Nat} (h:Pa rss i a j t):∃ b,Qu rss i a j=zo b/\b<=t:=by
 have q:∃ t,Pa rss i a j t:=⟨t,h⟩;refine ⟨Classical.choose (Q07 _ q),by unfold Qu; rw [dif_pos q],(Classical.choose_spec (Q07 _ q)).2 t h⟩
def Qt0 {rss:zAA} {house mom:Nat} (A:Arr rss house mom rss.length rss.length [] m):∀ (t k:Nat) (p:Nat × Option Nat),m k=zo p->p.1=t->Pa rss house mom k t:=by
 intro t
 induction t using iC with
 | ind t O=>
  intro k p B G
  by_cases z:k=house
  ·subst z;rw [A.a] at B;cases B;subst G;exact .refl _ _
  ·obtain ⟨i,_,h1,h2,⟨rs,Y,J⟩,q,h5,h6⟩:=A.b k p B z;have I:=O q.1 () i q h5 rfl;have U:=I.trans (Pa.stayTo (rss:=rss) i (show q.1<=p.1 - 1 by omega) ());have:=U.move Y J
   rwa [show p.1 - 1 + 1=t by omega] at this
def Qh4 {rss:zAA} {house mom:Nat} (A:Arr rss house mom rss.length rss.length [] m) {k t:Nat} (h:Pa rss house mom k t):∃ p,m k=zo p/\p.1<=t:=by
 induction h with
 | refl=>exact ⟨_,A.a,O6 _⟩
 | wait h I q=>
  obtain ⟨p,h1,h2⟩:=q;exact ⟨p,h1,by omega⟩
 | move h B G q=>
  obtain ⟨p,h1,h2⟩:=q;exact A.c _ _ _ _ p h.le (O0.mp B).1 B G h1 h2
def Q2n {rss:zAA} {house mom:Nat} (A:Arr rss house mom rss.length rss.length [] m):moM m=Qu rss house mom:=by
 funext k;unfold moM;cases B:m k with
 | none=>
  cases z:Qu rss house mom k with
  | none=>rfl
  | some b=>
   obtain ⟨p,h1,_⟩:=Qh4 A (Kc z).1;rw [B] at h1; cases h1
 | some p=>
  obtain ⟨b,h1,h2⟩:=Q4d (Qt0 A p.1 k p B rfl);obtain ⟨q,G,I⟩:=Qh4 A (Kc h1).1;rw [B] at G;cases G;rw [h1];show zo p.1=zo b;congr 1;omega
def Q4e {rss:zAA} {i a:Nat} (h:Qu rss i a j=zo b) (q:a<=rss.length):b<=rss.length/\a<=b:=by
 have h:=(Kc h).1;refine ⟨?_,h.le⟩
 induction h with
 | refl=>exact q
 | wait h G _=>omega
 | move h B _ _=>exact (O0.mp B).1
def Qh (rss:zAA) (house k:Nat):Option Nat:=match Qu rss house 0 k with
 | none=>zl
 | some a=>Qu rss k a house
def Q1b {V:PV} {rss:zAA} (I:ListAt S V (rss.map Qp)) (q:rss.length<=40) (B:∀ rs∈rss,rs.length<=100) {house:Nat} (G:n<=8) :
  ∃ kvs,Qk [.int n,V,.int house] S=.ok (.ref (S.length + 1)) (S ++ [.dic kvs,.dic (Qe n (Qu rss house 0))]):=by
 obtain ⟨kvs,m,A,e⟩:=Kk I q B (n:=n) (house:=house) G;rw [Q2n A] at e;exact ⟨kvs,e⟩
def Qcp (i:Nat) (f:zAH):Kx (Qe i f) (.inl (i:Int)) (moV (f i))=Qe (i + 1) f:=by
 rw [Q3k _ (by rw [yz,bY ()])];unfold Qe;rw [dY,F5]; rfl
def Qdw {V:PV} {rss:zAA} (I:ListAt S V (rss.map Qp)) (q:rss.length<=40) (B:∀ rs∈rss,rs.length<=100) {k a house:Nat} (G:a<=rss.length) :
  ∃ kvs,Ya [V,.int k,.int a] S=.ok (.ref S.length) (S ++ [.dic kvs])/\Zp [.ref S.length,.int house] (S ++ [.dic kvs])=.ok (moV (Qu rss k a house)) (S ++ [.dic kvs]):=by
 obtain ⟨kvs,m,F,A,e⟩:=z8 I q B (house:=k) (mom:=a) G;have:=Q5r (S:=S ++ [.dic kvs]) (V:=.ref S.length) ⟨_,rfl,.inl (by simp)⟩ F house;rw [Q2n A] at this;exact ⟨kvs,e,this⟩
abbrev hmΓ (n:Nat) (V:PV) (house D:Nat) (a4 a5:Option PV):Gam:=[zo (.int n),zo V,zo (.int house),zo (.ref D),a4,a5]
def Qe9 (n:Nat) (f:zAH):(Qe n f).map (λkv=>PV.tup [kP kv.1,kv.2])=(bc n).map λk:Nat=>PV.tup [.int (k:Int),moV (f k)]:=by
 unfold Qe; rw [G7]; rfl
def qp {V:PV} {rss:zAA} (hV:ListAt S V (rss.map Qp)) (B:rss.length<=40) (J:∀ rs∈rss,rs.length<=100) {house:Nat} (hn:n<=8) :
  ∃ ex,Zw [.int n,V,.int house] S=.ok (.ref S.length) (S ++ .dic (Qe n (Qh rss house)) :: ex):=by
 obtain ⟨kvs,e1⟩:=Q1b (Jc hV [.dic []]) B J (n:=n) (house:=house) hn;obtain ⟨ad,I⟩:∃ ad,Qe n (Qu rss house 0)=ad:=⟨_,rfl⟩;rw [D4,F4,I] at e1;have e1:Qk [.int n,V,.int house] (S ++ [.dic []])=.ok (.ref (S.length + 2)) (S ++ [.dic [],.dic kvs,.dic ad]):=e1;have a1:(S ++ [Cell.dic [],Cell.dic kvs,Cell.dic ad]).set (S.length + 2) (.frd ad)=S ++ [.dic [],.dic kvs,.frd ad]:=by
  rw [L0 _ _ (),show S.length + 2 - S.length=2 by omega]; rfl
 have a4:jy (S ++ [.dic [],.dic kvs,.dic ad]) (S.length + 2)=zo ad:=by
  unfold jy;rw [D0 (),show S.length + 2 - S.length=2 by omega]; rfl
 have a7:ad.length=n:=by rw [<- I]; exact Km _ _
 obtain ⟨b0,st',e,b4,b5,ex,rfl,rfl,a9⟩:=Yu (g:=λk:Nat=>PV.tup [.int (k:Int),moV (Qu rss house 0 k)]) (xs:=bc n) (ga:=Z2 (Qa (Q3 4) (Qa (Q3 5) Z3))) (body:=Zq) (w:=[(S.length + 2,.frd ad)]) (Γ:=hmΓ n V house S.length zl zl) (st:=S ++ [.dic [],.dic kvs,.frd ad])
  (λi Γ st'=>∃ b4 b5 ex,Γ=hmΓ n V house S.length b4 b5/\st'=S ++ .dic (Qe i (Qh rss house)) :: ex/\ex[1]?=zo (.frd ad))
  (λi Γ st' ⟨b4,b5,ex,h1,h2,U⟩=>λy hy=>by
   have:y=(S.length + 2,.frd ad):=by simpa using hy
   subst this;subst h2;rw [D0 (by show S.length<=S.length + 2; omega)];show (Cell.dic (Qe i (Qh rss house)) :: ex)[S.length + 2 - S.length]?=zo (.frd ad);rw [show S.length + 2 - S.length=2 by omega];exact U)
  (λi x Γ st' hx ⟨b4,b5,ex,h1,h2,U⟩=>by
   subst h1; subst h2;have hi:i < n:=by simpa using (O0.mp hx).1
   have a2:x=i:=by
    rw [L8 hi] at hx;exact (bm hx).symm
   subst a2;have O:∀ c,(ex ++ [c])[1]?=zo (.frd ad):=λc=>by rw [O4 (O0.mp U).1]; exact U
   have Z:(Qe x (Qh rss house)).length < 1000000:=by rw [Km]; omega
   refine ⟨_,rfl,?_⟩;show ∃ a3 a6,Zq [zo (.int n),zo V,zo (.int house),zo (.ref S.length),zo (.int x),zo (moV (Qu rss house 0 x))] (S ++ .dic (Qe x (Qh rss house)) :: ex)=.nx a3 a6/\_;cases hf:Qu rss house 0 x with
   | none=>
    have hh:Qh rss house x=zl:=by unfold Qh; rw [hf]
    have dp:=zp (S:=S ++ .dic (Qe x (Qh rss house)) :: ex) (i:=S.length) (kvs:=Qe x (Qh rss house)) (k:=(x:Int)) (v:=.non) (by simp) Z;have ap:=Qcp x (Qh rss house);rw [hh] at ap;have ap:Kx (Qe x (Qh rss house)) (.inl (x:Int)) .non=Qe (x + 1) (Qh rss house):=ap;rw [Q9z,ap] at dp;refine ⟨hmΓ n V house S.length (zo (.int x)) (zo .non),S ++ .dic (Qe (x + 1) (Qh rss house)) :: ex,?_,_,_,ex,rfl,rfl,U⟩;generalize S ++ Cell.dic (Qe x (Qh rss house)) :: ex=S1,S ++ Cell.dic (Qe (x + 1) (Qh rss house)) :: ex=S2 at*;simp! [Zq,moV,Ka,dp]
   | some a=>
    have hh:Qh rss house x=Qu rss x a house:=by unfold Qh; rw [hf]
    obtain ⟨q,e2,e3⟩:=Qdw (Jc hV (.dic (Qe x (Qh rss house)) :: ex)) B J (k:=x) (a:=a) (house:=house) (Q4e hf (L5 _)).1;rw [<- hh] at e3;have Y:(S ++ .dic (Qe x (Qh rss house)) :: ex) ++ [.dic q]=S ++ .dic (Qe x (Qh rss house)) :: (ex ++ [.dic q]):=by simp
    have dp:=zp (S:=S ++ .dic (Qe x (Qh rss house)) :: (ex ++ [.dic q])) (i:=S.length) (kvs:=Qe x (Qh rss house)) (k:=(x:Int)) (v:=moV (Qh rss house x)) (by simp) Z;rw [Q9z,Qcp] at dp;rw [Y] at e2 e3;refine ⟨hmΓ n V house S.length (zo (.int x)) (zo (.int a)),S ++ .dic (Qe (x + 1) (Qh rss house)) :: (ex ++ [.dic q]),?_,_,_,ex ++ [.dic q],rfl,rfl,O _⟩;generalize S ++ Cell.dic (Qe x (Qh rss house)) :: (ex ++ [Cell.dic q])=S2,S ++ Cell.dic (Qe (x + 1) (Qh rss house)) :: (ex ++ [Cell.dic q])=S3,moV (Qh rss house x)=hv,hz:(S ++ Cell.dic (Qe x (Qh rss house)) :: ex)=S1 at*;generalize cj S1=l1 at*;simp! [Zq,moV,Ka,e2,e3,dp])
  ⟨_,_,[.dic kvs,.frd ad],rfl,rfl,rfl⟩
 rw [F7] at*;refine ⟨ex,?_⟩;rw [<- Qe9 n (Qu rss house 0),I] at e;have hit:yh (Qg 3 Qk (Q2 (Q1 0) (Q2 (Q1 1) (Q2 (Q1 2) Q7)))) (hmΓ n V house S.length zl zl) (S ++ [.dic []])=.ok (ad.map (λkv=>.tup [kP kv.1,kv.2]),[(S.length + 2,.frd ad)]) (S ++ [.dic [],.dic kvs,.frd ad]):=by
  have hc:Qg 3 Qk (Q2 (Q1 0) (Q2 (Q1 1) (Q2 (Q1 2) Q7))) (hmΓ n V house S.length zl zl) (S ++ [.dic []])=.ok (.ref (S.length + 2)) (S ++ [.dic [],.dic kvs,.dic ad]):=by
   unfold hmΓ;simp! [e1]
  have a5:X5 (S ++ [.dic [],.dic kvs,.dic ad]) (.ref (S.length + 2))=zo (ad.map (λkv=>.tup [kP kv.1,kv.2]),S.length + 2,ad):=by
   simp only [X5,a4]
  unfold yh;rw [hc];show (match X5 (S ++ [.dic [],.dic kvs,.dic ad]) (.ref (S.length + 2)) with
   | some (ks,i,G)=>if ks.length<=lim then Res.ok (ks,[(i,Cell.frd G)]) ((S ++ [Cell.dic [],Cell.dic kvs,Cell.dic ad]).set i (.frd G)) else .stuck
   | none=>.stuck)=_
  rw [a5];show (if (ad.map (λkv=>PV.tup [kP kv.1,kv.2])).length<=lim then Res.ok (ad.map (λkv=>PV.tup [kP kv.1,kv.2]),[(S.length + 2,Cell.frd ad)]) ((S ++ [Cell.dic [],Cell.dic kvs,Cell.dic ad]).set (S.length + 2) (.frd ad)) else .stuck)=_;rw [bX (by rw [O3,Qv]; omega),a1]
 have step:Wa [zo (.int n),zo V,zo (.int house),zl,zl,zl] S=.rt (.ref S.length) (S ++ .dic (Qe n (Qh rss house)) :: ex):=by
  unfold Wa;rw [Yf];show (match Qr 3 jp [zo (.int n),zo V,zo (.int house),zl,zl,zl] S with | .nx b1 a8=>_ | r=>r)=_
  have s1:Qr 3 jp [zo (.int n),zo V,zo (.int house),zl,zl,zl] S=.nx (hmΓ n V house S.length zl zl) (S ++ [.dic []]):=by
   simp -implicitDefEqProofs
  rw [s1];show Q5 _ _ _ _=_;rw [Yf,Q2c,hit,Yc,e];show Qz _ _ _=_;simp -implicitDefEqProofs
 show Jx Wa 6 _ S=_;unfold Jx;rw [show (([.int n,V,.int house]:List PV).map zo ++ bg (6 - [PV.int n,V,.int house].length) zl)=[zo (.int n),zo V,zo (.int house),zl,zl,zl] from rfl,step]
def Qei (g:α->PV) {xs:List α} (I:Nat->Gam->Q0->Prop) (Rt:PV->Q0->Prop) {ga:GA} {body:MS} {w:Wt} (Y:∀ i Γ st,I i Γ st->wOk w st)
  (h:∀ (i:Nat) x Γ st,xs[i]?=zo x->I i Γ st->∃ B,ga (g x) Γ=zo B/\((∃ J q,body B st=.nx J q/\I (i + 1) J q)\/∃ v q,body B st=.rt v q/\Rt v q)) {Γ:Gam} {st:Q0} (h0:I 0 Γ st) :
  (∃ G st',Jn ga body w (xs.map g) Γ st=.nx G st'/\I xs.length G st')\/∃ v st',Jn ga body w (xs.map g) Γ st=.rt v st'/\Rt v st':=by
 induction xs generalizing I Γ st with
 | nil=>exact .inl ⟨Γ,st,by simp [Jn,Y 0 Γ st h0],h0⟩
 | cons x xs ih=>
  obtain ⟨B,h1,h2⟩:=h 0 x Γ st rfl h0;rw [O5,Jn,bX (Y 0 Γ st h0),h1];rcases h2 with ⟨J,q,U,i2⟩ | ⟨v,q,U,r2⟩
  ·have:=ih (λi=>I (i + 1)) (λi Γ st z=>Y (i + 1) Γ st z) (λi y Γ st Z z=>h (i + 1) y Γ st (by simpa using Z) z) i2
   simp only [U];rcases this with ⟨G,st',O,i3⟩ | ⟨v,st',O,r3⟩
   ·exact .inl ⟨G,st',O,by simpa using i3⟩
   ·exact .inr ⟨v,st',O,r3⟩
  ·simp only [U];exact .inr ⟨v,q,rfl,r2⟩
@[simp] theorem Q8s (ma:ME) (Γ:Gam) (st:Q0):Q02 ma Γ st=(ma Γ st).bind λp q=>match Q38 q p with
 | some ns=>if ns.length<=4000/\(Ys ns).length < 64 then .ok (.lst ((Ux (Ys ns)).map PV.int)) q else .stuck
 | none=>.stuck:=rfl
def Jb (L:List Nat):List PV:=L.map λk:Nat=>.int (k:Int)
def Qcc (L:List Nat) (x:Nat) (st:Q0):oIn zb st (.int x) (.lst (Jb L))=.ok (.bl (decide (x∈L))) st:=by
 have I:Wp st (.lst (Jb L))=zo (Jb L):=rfl;have G:der st (.int x)=.int x:=rfl;have J:(Jb L).all (Za dep)=zi:=by
  unfold Jb;rw [cC,E8];intro y _; rfl
 have g2:Za dep (.int (x:Int))=zi:=rfl;have B:((Jb L).any λy=>peq y (.int x))=decide (x∈L):=by
  unfold Jb;rw [cy,fU,dC,decide_eq_true_eq];constructor
  ·rintro ⟨y,q,e⟩;have:(y:Int)=x:=by simpa [peq] using e
   have:y=x:=by omega
   rw [<- this]; exact q
  ·intro h; exact ⟨x,h,by simp [peq]⟩
 unfold oIn;rw [I,G];simp only [J,g2,and_self,if_true,B];simp
def Qau (L:List Nat):Ui (Jb L)=zo (L.map λk:Nat=>(k:Int)):=by
 induction L with
 | nil=>rfl
 | cons a L q=>
  show (Ui (Jb L)).map ((a:Int) :: ·)=_;rw [q]; rfl
def Qhk {K:Type} [DecidableEq K] (ks:List K) (x:K):x∈Ys ks <-> x∈ks:=by
 have B:∀ (ks q:List K),x∈ks.foldl yw q <-> x∈q\/x∈ks:=by
  intro ks
  induction ks with
  | nil=>intro q; simp
  | cons k ks G=>
   intro q;rw [cV,G,D3];unfold yw
   by_cases z:k∈q
   ·rw [bX z];constructor
    ·rintro (h | h)
     ·exact .inl h
     ·exact .inr (.inr h)
    ·rintro (h | rfl | h)
     ·exact .inl h
     ·exact .inl z
     ·exact .inr h
   ·rw [bY z,E6,G6,or_assoc]
 unfold Ys;rw [B]; simp
def Qak {K:Type} [DecidableEq K] (ks:List K):(Ys ks).Nodup:=by
 have B:∀ (ks q:List K),q.Nodup->(ks.foldl yw q).Nodup:=by
  intro ks
  induction ks with
  | nil=>intro q h; exact h
  | cons k ks J=>
   intro q h;rw [cV];apply J;unfold yw
   split
   ·exact h
   ·rename_i z;rw [dU];exact ⟨h,by simp,λa G b I=>by rw [G6.mp I]; exact λe=>z (e ▸ G)⟩
 exact B ks [] fY
theorem Ug:∀ {n:Nat} {L:List Nat},L.Nodup->(∀ x∈L,x < n)->L.length<=n
 | 0,[],_,_=>O6 _
 | 0,x :: L,_,h=>absurd (h x (by simp)) (fL _)
 | n + 1,L,nd,h=>by
  by_cases z:n∈L
  ·have h1:=Ug (n:=n) (L:=L.erase n) (nd.erase n) λx q=>by
    have:=h x (List.mem_of_mem_erase q);have:x≠n:=λe=>by rw [e] at q; exact (List.Nodup.not_mem_erase nd) q
    omega
   rw [List.length_erase_of_mem z] at h1;omega
  ·have:=Ug (n:=n) nd λx q=>by
    have:=h x q;have:x≠n:=λe=>z (e ▸ q)
    omega
   omega
def Q7v {L:List Nat} (h:∀ x∈L,x < n) (hl:L.length<=1000) (hn:n<=60):∃ q:List Nat,q.Nodup/\(∀ x,x∈q <-> x∈L)/\(∀ st,Q38 st (.lst (Jb L))=zo (L.map λk:Nat=>(k:Int)))/\(Ys (L.map λk:Nat=>(k:Int))).length < 64/\(Ux (Ys (L.map λk:Nat=>(k:Int)))).map PV.int=Jb q:=by
 have nd:=Qak (L.map λk:Nat=>(k:Int))
 have Z:=Kt (Ys (L.map λk:Nat=>(k:Int)))
 have mem:∀ y:Int,y∈Ux (Ys (L.map λk:Nat=>(k:Int))) <-> ∃ k∈L,(k:Int)=y:=λy=>by
  rw [Z.mem_iff,Qhk,L9]
 have U:∀ M:List Int,(∀ y∈M,∃ k∈L,(k:Int)=y)->(M.map fT).map (λk:Nat=>(k:Int))=M:=by
  intro M U;rw [G7];refine (M9 λy B=>?_).trans (fb M);obtain ⟨k,_,rfl⟩:=U y B;rfl
 have O:=U (Ux (Ys (L.map λk:Nat=>(k:Int)))) λy B=>(mem y).mp B
 have J:(Ux (Ys (L.map λk:Nat=>(k:Int)))).Nodup:=Z.symm.nodup nd
 obtain ⟨q,I⟩:∃ q:List Nat,(Ux (Ys (L.map λk:Nat=>(k:Int)))).map fT=q:=⟨_,rfl⟩
 rw [I] at O;have m2:∀ x,x∈q <-> x∈L:=λx=>by
  rw [<- I,L9];constructor
  ·rintro ⟨y,B,rfl⟩;obtain ⟨k,hk,rfl⟩:=(mem y).mp B;simpa using hk
  ·intro hx;exact ⟨(x:Int),(mem _).mpr ⟨x,hx,rfl⟩,by simp⟩
 have G:q.Nodup:=by
  rw [<- O] at J;exact (dR.mp J).imp λY e=>Y (congrArg _ e)
 refine ⟨q,G,m2,λst=>?_,?_,?_⟩
 ·show (Z9 st (.lst (Jb L))).bind Ui=_;show (zo (Jb L)).bind Ui=_;exact Qau L
 ·have h1:=Ug G λx hx=>h x ((m2 x).mp hx)
  have h2:q.length=(Ys (L.map λk:Nat=>(k:Int))).length:=by rw [<- Z.length_eq,<- O,O3]
  omega
 ·rw [<- O];unfold Jb;rw [G7]; rfl
abbrev fsΓ (V:PV) (i a j:Nat) (th tu:Option PV):Gam:=[zo V,zo (.int i),zo (.int a),zo (.int j),th,tu]
def Pa.step {rss:zAA} {i a k t:Nat} (G:rss[t]?=zo rs) (J:a<=t):Pa rss i a k (t + 1) <-> Pa rss i a k t\/∃ j,Pa rss i a j t/\(j,k)∈rs:=by
 constructor
 ·intro h;generalize I:t + 1=u at h;cases h with
  | refl=>omega
  | wait h O=>
   have:t=_:=Nat.succ.inj I;subst this;exact .inl h
  | move h q B=>
   have:t=_:=Nat.succ.inj I;subst this;rw [G] at q;cases q;exact .inr ⟨_,h,B⟩
 ·rintro (h | ⟨j,h,B⟩)
  ·exact h.wait (O0.mp G).1
  ·exact h.move G B
def Qsd (S:Q0) (o:Option Nat):fin S (moV o) S=.ok (moV o) S:=by
 cases o <;> simp [fin,fz,moV]
def Qjr {ma:ME} {p:PV} {xs:List PV} (h:ma Γ S=.ok p S1) (h2:Q38 S1 p=zo ns) (G:ns.length<=4000) (B:(Ys ns).length < 64) (q:(Ux (Ys ns)).map PV.int=xs):Q02 ma Γ S=.ok (.lst xs) S1:=by
 rw [Q8s,h,J1];simp only [h2];rw [bX ⟨G,B⟩,q]
def Q9a {V:PV} {rss:zAA} (hV:ListAt S V (rss.map Qp)) (b6:rss.length<=40) (b7:n<=8) (a9:∀ rs∈rss,RsOk n rs) {i a j:Nat} (hi:i < n) (ha:a<=rss.length) :
  Jh [V,.int i,.int a,.int j] S=.ok (moV (Qu rss i a j)) S:=by
 have hL:J4 S [V]=.ok (.int rss.length) S:=by rw [hV.len,O3]
 have a1:=Qei (g:=λk:Nat=>PV.int ((a:Int) + (k:Int))) (xs:=bc (rss.length + 1 - a)) (ga:=Q3 5) (body:=U9) (w:=[]) (Γ:=fsΓ V i a j (zo (.lst (Jb [i]))) zl) (st:=S)
  (λk Γ st=>∃ (L:List Nat) (tu:Option PV),Γ=fsΓ V i a j (zo (.lst (Jb L))) tu/\S=st/\L.Nodup/\(∀ x∈L,x < n)/\(∀ x,k<=rss.length - a->(x∈L <-> Pa rss i a x (a + k)))/\∀ t,a<=t->t < a + k->¬ Pa rss i a j t)
  (λv st=>v=moV (Qu rss i a j)/\S=st) (λ_ _ _ _=>by simp)
  (λk x Γ st hx ⟨L,tu,e1,e2,nd,lt,mem,no⟩=>by
   subst e1; subst e2;have hk:k < rss.length + 1 - a:=by simpa using (O0.mp hx).1
   have a8:x=k:=by
    rw [L8 hk] at hx;exact (bm hx).symm
   subst a8;have q:=λy=>mem y ()
   refine ⟨_,rfl,?_⟩;have G:=Qcc L j S;obtain ⟨tt,J⟩:∃ tt:Int,(a:Int) + (x:Int)=tt:=⟨_,rfl⟩
   by_cases hj:j∈L
   ·right
    refine ⟨.int tt,S,?_,?_,rfl⟩
    ·rw [ba hj] at G;rw [J];exact Vd (Uj (Qc G) rfl)
    ·have hp:=(q j).mp hj;obtain ⟨b,hb,Z⟩:=Q4d hp;have h1:=(Kc hb).1;have:b=a + x:=by
      rcases fR b (a + x) with z | z
      ·exact absurd h1 (no b h1.le z)
      ·omega
     rw [hb,this,<- J];show PV.int _=PV.int ((a + x:Nat):Int)
     push_cast; rfl
   ·left
    rw [bZ hj] at G;have a3:¬ Pa rss i a j (a + x):=λz=>hj ((q j).mpr z)
    by_cases B:a + x < rss.length
    ·have hr:rss[a + x]?=zo rss[a + x]:=O2 B;have a5:oIx S V (.int tt)=.ok (Qp rss[a + x]) S:=by
      rw [<- J,show (a:Int) + (x:Int)=((a + x:Nat):Int) by push_cast; rfl,hV.ix,zr,Sm.atI_get hr]; rfl
     have b3:tt < (rss.length:Int):=by omega
     have ok:=a9 _ (cP B);obtain ⟨rs,a4⟩:∃ rs,rss[a + x]=rs:=⟨_,rfl⟩;rw [a4] at hr a5 ok;have hc:J0 (Z2 (Qa (Q3 0) (Qa (Q3 1) Z3))) Wh Wm [] (Jp [zl,zl,zo 4] [zo V,zo (.int i),zo (.int a),zo (.int j),zo (.lst (Jb L)),zo (.int tt)]) (rs.map rdV) S=.ok ((rs.filter λr=>decide (r.1∈L)).map λr=>.int (r.2:Int)) S:=by
      refine U8 rdV (λr=>.int (r.2:Int)) (λr=>decide (r.1∈L)) (by simp) λr hr=>⟨_,rfl,?_,λ_=>?_⟩
      ·have:=Qcc L r.1 S;simp! [Jp,Wh,this]
      ·simp! [Jp,Wm]
     obtain ⟨new,I⟩:∃ new:List Nat,(rs.filter λr=>decide (r.1∈L)).map (λr=>r.2)=new:=⟨_,rfl⟩
     have b5:((rs.filter λr=>decide (r.1∈L)).map λr=>PV.int (r.2:Int))=Jb new:=by
      rw [<- I]; unfold Jb; rw [G7]; rfl
     rw [b5] at hc;have b8:new.length<=100:=by
      rw [<- I,O3];exact F3 (eJ _ _) ok.len
     have O:∀ y,y∈new <-> ∃ r∈rs,r.1∈L/\r.2=y:=λy=>by
      rw [<- I,L9];constructor
      ·rintro ⟨r,hr,rfl⟩;obtain ⟨h1,h2⟩:=cF.mp hr;exact ⟨r,h1,by simpa using h2,rfl⟩
      ·rintro ⟨r,h1,h2,rfl⟩;exact ⟨r,cF.mpr ⟨h1,by simpa using h2⟩,rfl⟩
     have c0:=Ug nd lt;have a2:∀ y∈L ++ new,y < n:=λy Y=>by
      rcases E6.mp Y with Y | Y
      ·exact lt y Y
      ·obtain ⟨r,h1,_,rfl⟩:=(O y).mp Y;exact (ok.ok r h1).2.1
     obtain ⟨L',b4,m',s1,s2,s3⟩:=Q7v a2 (by rw [D4]; omega) ();have a6:Jb L ++ Jb new=Jb (L ++ new):=by unfold Jb; rw [F5]
     have hz:(Jb L).length + (Jb new).length<=1000000:=by unfold Jb; rw [O3,O3]; omega
     have s1:=s1 S;have b0:Y1 S (.lst (Jb L)) (.lst (Jb new))=.ok (.lst (Jb (L ++ new))) S:=by
      rw [<- a6];exact bX (show _<=lim from hz)
     have b2:(cZ (λk:Nat=>(k:Int)) (L ++ new)).length<=4000:=by rw [O3,D4]; omega
     refine ⟨fsΓ V i a j (zo (.lst (Jb L'))) (zo (.int tt)),S,?_,L',_,rfl,rfl,b4,λy Y=>a2 y ((m' y).mp Y),λy Z=>?_,λt h1 h2=>?_⟩
     ·rw [J];exact Q8 (Y2 (Qc G) rfl) (Uj (Qc (Qb rfl (Ji rfl hL) (Qhs S b3))) (Jj (Qjr (Qb rfl (qz (K1 (Xw (Qb rfl rfl a5) rfl (by rw [O3]; have:=ok.len; omega)) hc)) b0) s1 b2 s2 s3)))
     ·rw [m' y,E6,O y,q y,show a + (x + 1)=(a + x) + 1 by omega,Pa.step hr (iB _ _)];constructor
      ·rintro (h | ⟨r,h1,h2,rfl⟩)
       ·exact .inl h
       ·exact .inr ⟨r.1,(q _).mp h2,h1⟩
      ·rintro (h | ⟨k,h1,h2⟩)
       ·exact .inl h
       ·exact .inr ⟨(k,y),h2,(q k).mpr h1,rfl⟩
     ·by_cases z:t=a + x
      ·rw [z]; exact a3
      ·exact no t h1 ()
    ·have a7:¬ tt < (rss.length:Int):=by omega
     refine ⟨fsΓ V i a j (zo (.lst (Jb L))) (zo (.int tt)),S,?_,L,_,rfl,rfl,nd,lt,λy Z=>absurd Z (),λt h1 h2=>?_⟩
     ·rw [J];exact Q8 (Y2 (Qc G) rfl) (Y2 (Qc (Qb rfl (Ji rfl hL) (Q5t S a7))) rfl)
     ·by_cases z:t=a + x
      ·rw [z]; exact a3
      ·exact no t h1 ())
  ⟨[i],zl,rfl,rfl,by simp,λx hx=>by rw [G6.mp hx]; exact hi,λx _=>by
   rw [G6,Nat.add_zero];constructor
   ·rintro rfl; exact .refl _ _
   ·intro h;generalize hb:a=b at h;cases h with
    | refl=>rfl
    | wait h _=>have:=h.le; omega
    | move h _ _=>have:=h.le; omega,λt h1 h2=>by omega⟩
 have b1:Jr (a:Int) (rss.length + 1 - a)=(bc (rss.length + 1 - a)).map λk:Nat=>PV.int ((a:Int) + (k:Int)):=Q5k _ _
 rw [<- b1] at a1;have step:Vh [zo V,zo (.int i),zo (.int a),zo (.int j),zl,zl] S=.rt (moV (Qu rss i a j)) S:=by
  rcases a1 with ⟨b9,st',e,L,tu,rfl,rfl,nd,lt,mem,no⟩ | ⟨v,st',e,rfl,rfl⟩
  ·have U:Qu rss i a j=zl:=by
    cases z:Qu rss i a j with
    | none=>rfl
    | some b=>
     have h1:=(Kc z).1;have h2:=Q4e z ha;exact absurd h1 (no b h1.le (by rw [F7]; omega))
   rw [U];exact Q8 rfl (Q8 (Wu (Qgd rfl (Qb (Ji rfl hL) rfl rfl) () ()) e) rfl)
  ·exact Q8 rfl (Vd (Wu (Qgd rfl (Qb (Ji rfl hL) rfl rfl) () ()) e))
 show Qn Vh 6 _ S=_;unfold Qn;rw [show (([V,.int i,.int a,.int j]:List PV).map zo ++ bg (6 - [V,.int i,.int a,.int j].length) zl)=[zo V,zo (.int i),zo (.int a),zo (.int j),zl,zl] from rfl,step];exact Qsd S (Qu rss i a j)
def Q9t (i:Nat) (f:zAH) (p:PV):Kx (Qe i f) (.inl (i:Int)) p=Qe i f ++ [(.inl (i:Int),p)]:=Q3k _ (by rw [yz,bY ()])
def Qjb (i:Nat) (f:zAH) (p q:PV):Kx (Qe i f ++ [(.inl (i:Int),p)]) (.inl (i:Int)) q=Qe i f ++ [(.inl (i:Int),q)]:=by
 unfold Kx;have h1:((Qe i f ++ [((.inl (i:Int):Key),p)]).any λkv=>decide (kv.1=.inl (i:Int)))=zi:=by simp
 rw [bX h1,F5];have h2:(Qe i f).map (λkv=>if kv.1=(.inl (i:Int):Key) then (kv.1,q) else kv)=Qe i f:=by
  refine (M9 λkv B=>?_).trans (fb _);unfold Qe at B;obtain ⟨k,G,rfl⟩:=L9.mp B;have:k < i:=by simpa using G
  have ne:¬ ((.inl (k:Int):Key)=.inl (i:Int)):=λz=>by have:=dE z; omega
  rw [bY ne]; rfl
 rw [h2]; simp
def Q4p (i:Nat) (f:zAH):Qe (i + 1) f=Qe i f ++ [(.inl (i:Int),moV (f i))]:=by unfold Qe; rw [dY,F5]; rfl
abbrev mmΓ (n:Nat) (V:PV) (h:Nat) (a b:Nat) (k:Option PV):Gam:=[zo (.int n),zo V,zo (.int h),zo (.ref a),zo (.ref b),k]
def Qpt {c d e:Cell}:(S ++ [c,d]).set S.length e=S ++ [e,d]:=by rw [L0 _ _ (O6 _),cJ]; rfl
def Qfy {c d e:Cell}:(S ++ [c,d]).set (S.length + 1) e=S ++ [c,e]:=by rw [L0 _ _ (),show S.length + 1 - S.length=1 by omega]; rfl
def Q3x {V:PV} {rss:zAA} (hV:ListAt S V (rss.map Qp)) (O:rss.length<=40) (a2:n<=8) (a3:∀ rs∈rss,RsOk n rs) (hh:h < n) :
  Jv [.int n,V,.int h] S=.ok (.tup [.ref S.length,.ref (S.length + 1)]) (S ++ [.dic (Qe n (Qu rss h 0)),.dic (Qe n (Qh rss h))]):=by
 obtain ⟨a9,st',e,k',rfl,rfl⟩:=Yu (g:=λk:Nat=>PV.int (k:Int)) (xs:=bc n) (ga:=Q3 5) (body:=V7) (w:=[]) (Γ:=mmΓ n V h S.length (S.length + 1) zl) (st:=S ++ [.dic [],.dic []])
  (λi Γ st'=>∃ k',Γ=mmΓ n V h S.length (S.length + 1) k'/\st'=S ++ [.dic (Qe i (Qu rss h 0)),.dic (Qe i (Qh rss h))])
  (λ_ _ _ _=>by simp)
  (λi x Γ st' hx ⟨k',e1,e2⟩=>by
   subst e1; subst e2;have hi:i < n:=by simpa using (O0.mp hx).1
   have a6:x=i:=by
    rw [L8 hi] at hx;exact (bm hx).symm
   subst a6;obtain ⟨A,hA⟩:∃ A,Qe x (Qu rss h 0)=A:=⟨_,rfl⟩;obtain ⟨B,Z⟩:∃ B,Qe x (Qh rss h)=B:=⟨_,rfl⟩;have la:A.length < 1000000:=by rw [<- hA,Km]; omega
   have a8:B.length<=8:=by rw [<- Z,Km]; omega
   have lb:B.length < 1000000:=by omega
   have f1:=Q9a (Jc hV [.dic A,.dic B]) O a2 a3 (i:=h) (a:=0) (j:=x) hh (L5 _);have a1:=Q9t x (Qu rss h 0) (moV (Qu rss h 0 x));rw [<- Q4p,hA] at a1;have a4:=Q9t x (Qh rss h) .non;rw [Z] at a4;have J:qt (S ++ [.dic A,.dic B]) (.ref S.length) (.int x) (moV (Qu rss h 0 x))=zo (S ++ [.dic (Qe (x + 1) (Qu rss h 0)),.dic B]):=by
    rw [zp (kvs:=A) (by simp) la,Qpt,a1]
   obtain ⟨G,Y⟩:∃ G,Qe (x + 1) (Qu rss h 0)=G:=⟨_,rfl⟩;have I:Um (S ++ [.dic G,.dic (B ++ [(.inl (x:Int),.non)])]) (.ref S.length) (.int x)=.ok (moV (Qu rss h 0 x)) (S ++ [.dic G,.dic (B ++ [(.inl (x:Int),.non)])]):=by
    rw [<- Y];exact Uq (n:=x + 1) ⟨S.length,rfl,.inl (by simp)⟩ (cX x)
   have p2:qt (S ++ [.dic G,.dic B]) (.ref (S.length + 1)) (.int x) .non=zo (S ++ [.dic G,.dic (B ++ [(.inl (x:Int),.non)])]):=by
    rw [zp (kvs:=B) (by simp) lb,Qfy,a4]
   rw [Y] at J;refine ⟨_,rfl,mmΓ n V h S.length (S.length + 1) (zo (.int x)),S ++ [.dic G,.dic (Qe (x + 1) (Qh rss h))],?_,_,rfl,by rw [Y]⟩;rw [hA,Z];rw [show List.set (mmΓ n V h (cj S) (cj S + 1) k') 5 (zo (PV.int x))=[zo (.int n),zo V,zo (.int h),zo (.ref S.length),zo (.ref (S.length + 1)),zo (.int x)] from rfl];unfold mmΓ;have q:Jh [V,.int h,.int 0,.int x] (S ++ [.dic A,.dic B])=.ok (moV (Qu rss h 0 x)) (S ++ [.dic A,.dic B]):=f1;cases hf:Qu rss h 0 x with
   | none=>
    have U:Qe (x + 1) (Qh rss h)=B ++ [(.inl (x:Int),.non)]:=by
     rw [Q4p,Z];have:Qh rss h x=zl:=by unfold Qh; rw [hf]
     rw [this]; rfl
    rw [U];rw [hf] at J I q;have J:qt (S ++ [.dic A,.dic B]) (.ref S.length) (.int x) .non=zo (S ++ [.dic G,.dic B]):=J;have I:Um (S ++ [.dic G,.dic (B ++ [(.inl (x:Int),.non)])]) (.ref S.length) (.int x)=.ok .non (S ++ [.dic G,.dic (B ++ [(.inl (x:Int),.non)])]):=I;have q:Jh [V,.int h,.int 0,.int x] (S ++ [.dic A,.dic B])=.ok .non (S ++ [.dic A,.dic B]):=q;exact Q8 (Q19 (Qi (n:=4) rfl rfl q) rfl rfl J) (Q8 (Q19 rfl rfl rfl p2) (Y2 (Qc (Qb (Vm rfl rfl I) rfl rfl)) rfl))
   | some a=>
    have a7:=(Q4e hf (L5 _)).1;have f2:=Q9a (Jc hV [.dic G,.dic (B ++ [(.inl (x:Int),.non)])]) O a2 a3 (i:=x) (a:=a) (j:=h) hi a7;have a5:=Qjb x (Qh rss h) .non (moV (Qu rss x a h));rw [Z] at a5;have U:Qe (x + 1) (Qh rss h)=B ++ [(.inl (x:Int),moV (Qu rss x a h))]:=by
     rw [Q4p,Z];have:Qh rss h x=Qu rss x a h:=by unfold Qh; rw [hf]
     rw [this]
    have p3:qt (S ++ [.dic G,.dic (B ++ [(.inl (x:Int),.non)])]) (.ref (S.length + 1)) (.int x) (moV (Qu rss x a h))=zo (S ++ [.dic G,.dic (Qe (x + 1) (Qh rss h))]):=by
     rw [zp (kvs:=B ++ [(.inl (x:Int),.non)]) (by simp) (by rw [D4]; simp; omega),Qfy,a5,U]
    rw [hf] at J I q;have J:qt (S ++ [.dic A,.dic B]) (.ref S.length) (.int x) (.int a)=zo (S ++ [.dic G,.dic B]):=J;have I:Um (S ++ [.dic G,.dic (B ++ [(.inl (x:Int),.non)])]) (.ref S.length) (.int x)=.ok (.int a) (S ++ [.dic G,.dic (B ++ [(.inl (x:Int),.non)])]):=I;have q:Jh [V,.int h,.int 0,.int x] (S ++ [.dic A,.dic B])=.ok (.int a) (S ++ [.dic A,.dic B]):=q;exact Q8 (Q19 (Qi (n:=4) rfl rfl q) rfl rfl J) (Q8 (Q19 rfl rfl rfl p2) (Uj (Qc (Qb (Vm rfl rfl I) rfl rfl)) (Q19 (Qi (n:=4) (Q4 rfl (Q4 rfl (Q4 (Vm rfl rfl I) (Q4 rfl rfl)))) rfl f2) rfl rfl p3))))
  ⟨zl,rfl,by unfold Qe; rfl⟩
 rw [F7] at e;rw [<- Yn] at e;have step:Wk [zo (.int n),zo V,zo (.int h),zl,zl,zl] S=.rt (.tup [.ref S.length,.ref (S.length + 1)]) (S ++ [.dic (Qe n (Qu rss h 0)),.dic (Qe n (Qh rss h))]):=by
  have d0:∀ (Γ:Gam) (T:Q0),jp Γ T=.ok (.ref T.length) (T ++ [.dic []]):=λ_ _=>rfl
  have e0:S ++ [Cell.dic []] ++ [Cell.dic []]=S ++ [.dic [],.dic []]:=by simp
  have e1:(S ++ [Cell.dic []]).length=S.length + 1:=by simp
  exact Q8 rfl (Q8 (Jj (v:=.ref (S.length + 1)) (S1:=S ++ [Cell.dic [],Cell.dic []]) (by rw [d0,e0,e1])) (Q8 (Wu (Q3g () rfl) e) rfl))
 show Jx Wk 6 _ S=_;unfold Jx;rw [show (([.int n,V,.int h]:List PV).map zo ++ bg (6 - [PV.int n,V,.int h].length) zl)=[zo (.int n),zo V,zo (.int h),zl,zl,zl] from rfl,step]
def Qnb (o:Option Nat):Za 0 (moV o)=zi:=by cases o <;> rfl
def Qdf (n:Nat) (f:zAH):Q0v (Qe n f)=zi:=by
 unfold Q0v Qe;rw [cC,E8];intro k _; exact Qnb _
structure Mv4 where
 t:Int
 i:Int
 j:Int
 k:Int
variable {a ms N:List Mv4}
def mvI (m:Mv4):List Int:=[m.t,m.i,m.j,m.k]
def mvV (m:Mv4):PV:=Jm (mvI m)
def InN (n:Nat) (m:Mv4):Prop:=(0<=m.i/\m.i < n)/\0<=m.j/\m.j < n
def Yx (xs:List Int) (at' d:Int):List Int:=xs.set at'.toNat (xs.getD at'.toNat 0 + d)
def Wy (xs:List Int) (a d:Int):(Yx xs a d).length=xs.length:=by unfold Yx; simp
def Wz {a:Int} (h0:0<=a) (hl:a < xs.length) (d:Int) (k:Nat):(Yx xs a d).getD k 0=xs.getD k 0 + if (k:Int)=a then d else 0:=by
 unfold Yx;rw [D5,eE,D5,D5]
 by_cases q:a.toNat=k
 ·rw [bX q,bX (),bX (),q]; rfl
 ·rw [bY q,bY ()]; simp
def Qw (ms:List Mv4) (k:Nat):Int:=(ms.map λm=>if (k:Int)=m.i then m.k else 0).sum
def Yp (ms:List Mv4) (k:Nat):Int:=(ms.map λm=>if (k:Int)=m.j then m.k else 0).sum
def W5 (xs:List Int) (ms:List Mv4):List Int:=ms.foldl (λxs m=>Yx xs m.i (-m.k)) xs
def Kn (xs:List Int) (ms:List Mv4):List Int:=ms.foldl (λxs m=>Yx xs m.j m.k) xs
def Vc (ms:List Mv4):∀ xs,(W5 xs ms).length=xs.length:=by
 induction ms with
 | nil=>intro xs; rfl
 | cons m ms q=>intro xs; show (W5 (Yx xs m.i (-m.k)) ms).length=_; rw [q,Wy]
def zu (ms:List Mv4):∀ xs,(Kn xs ms).length=xs.length:=by
 induction ms with
 | nil=>intro xs; rfl
 | cons m ms q=>intro xs; show (Kn (Yx xs m.j m.k) ms).length=_; rw [q,Wy]
def Q32 (h:∀ m∈ms,InN n m):∀ {xs:List Int},xs.length=n->∀ k,(W5 xs ms).getD k 0=xs.getD k 0 - Qw ms k:=by
 induction ms with
 | nil=>intro xs _ k; show xs.getD k 0=xs.getD k 0 - 0; omega
 | cons m ms J=>
  intro xs G k;have B:=h m (by simp);show (W5 (Yx xs m.i (-m.k)) ms).getD k 0=_;rw [J (λI q=>h I (O7 _ q)) (by rw [Wy]; exact G),Wz B.1.1 (by rw [G]; exact B.1.2)]
  unfold Qw;rw [O5,E5]
  split <;> omega
def Q1c (h:∀ m∈ms,InN n m):∀ {xs:List Int},xs.length=n->∀ k,(Kn xs ms).getD k 0=xs.getD k 0 + Yp ms k:=by
 induction ms with
 | nil=>intro xs _ k; show xs.getD k 0=xs.getD k 0 + 0; omega
 | cons m ms J=>
  intro xs G k;have B:=h m (by simp);show (Kn (Yx xs m.j m.k) ms).getD k 0=_;rw [J (λI q=>h I (O7 _ q)) (by rw [Wy]; exact G),Wz B.2.1 (by rw [G]; exact B.2.2)]
  unfold Yp;rw [O5,E5]
  split <;> omega
abbrev brΓ (H M:PV) (L:Nat) (a3 a4 a5 a6:Option PV):Gam:=[zo H,zo M,zo (.ref L),a3,a4,a5,a6]
def Q1a {L:Nat} {a d:Int} (B:S[L]?=zo (.lst (xs.map .int))) (h0:0<=a) (hl:a < xs.length):Z9 S (.ref L)=zo (xs.map .int)/\atI (xs.map PV.int) a=zo (.int (xs.getD a.toNat 0))/\Uf S (.ref L) (.int a) (.int (xs.getD a.toNat 0 + d))=zo (S.set L (.lst ((Yx xs a d).map .int))):=by
 obtain ⟨k,rfl⟩:∃ k:Nat,a=k:=⟨a.toNat,by omega⟩;have G:k < xs.length:=by omega
 refine ⟨by simp [B],?_,?_⟩
 ·rw [zr,Sm.atI_get (Js G 0)]; rfl
 ·have hi:ixN (xs.map PV.int).length (k:Int)=zo k:=by
   rw [O3];unfold ixN;rw [bX ()];simp; omega
  show (match S[L]? with | some (.lst q)=>(ixN q.length (k:Int)).map λn=>S.set L (.lst (q.set n (.int (xs.getD (k:Int).toNat 0 + d)))) | _=>zl)=_
  rw [B];show (ixN (xs.map PV.int).length (k:Int)).map _=_;rw [hi];unfold Yx;rw [List.map_set]; rfl
theorem br1 {n:Nat} {H M:PV} {L:Nat}:∀ {ms:List Mv4} {S:Q0} {xs:List Int},(∀ m∈ms,InN n m)->xs.length=n->S[L]?=zo (.lst (xs.map .int))->∀ G q J B,∃ b3 Y b5 O,Jn (Z2 (Qa (Q3 3) (Qa (Q3 4) (Qa (Q3 5) (Qa (Q3 6) Z3))))) Yh [] (ms.map mvV) (brΓ H M L G q J B) S=.nx (brΓ H M L b3 Y b5 O) (S.set L (.lst ((W5 xs ms).map .int)))
 | [],S,xs,_,_,I,G,q,J,B=>⟨G,q,J,B,by
  rw [show W5 xs []=xs from rfl,show S.set L (.lst (xs.map PV.int))=S from by
   refine dA λt=>?_
   by_cases z:L=t
   ·subst z; rw [D6 (O0.mp I).1,I]
   ·rw [E4 z]]
  simp [Jn]⟩
 | m :: ms,S,xs,h,hx,I,G,q,J,B=>by
  have hm:=h m (by simp);obtain ⟨g1,g2,g3⟩:=Q1a (d:=-m.k) I hm.1.1 (by rw [hx]; exact hm.1.2);have Z:=(O0.mp I).1;obtain ⟨b3,Y,b5,O,e⟩:=br1 (H:=H) (M:=M) (L:=L) (ms:=ms) (S:=S.set L (.lst ((Yx xs m.i (-m.k)).map .int))) (xs:=Yx xs m.i (-m.k)) (λm' a1=>h m' (O7 _ a1)) (by rw [Wy]; exact hx) (D6 Z) (zo (.int m.t)) (zo (.int m.i)) (zo (.int m.j)) (zo (.int m.k))
  refine ⟨b3,Y,b5,O,?_⟩;rw [fZ] at e;have bd:Yh (brΓ H M L (zo (.int m.t)) (zo (.int m.i)) (zo (.int m.j)) (zo (.int m.k))) S=.nx (brΓ H M L (zo (.int m.t)) (zo (.int m.i)) (zo (.int m.j)) (zo (.int m.k))) (S.set L (.lst ((Yx xs m.i (-m.k)).map .int))):=by
   have U:Uf S (.ref L) (.int m.i) (.int (xs.getD m.i.toNat 0 - m.k))=zo (S.set L (.lst ((Yx xs m.i (-m.k)).map .int))):=by
    rw [show xs.getD m.i.toNat 0 - m.k=xs.getD m.i.toNat 0 + -m.k by omega]; exact g3
   unfold brΓ;generalize xs.getD m.i.toNat 0=x,(Yx xs m.i (-m.k)).map PV.int=yv,xs.map PV.int=xv at*;simp! [Yh,g1,g2,U,-jt,-xg]
  rw [O5,Jn,bX (by simp),show (Z2 (Qa (Q3 3) (Qa (Q3 4) (Qa (Q3 5) (Qa (Q3 6) Z3))))) (mvV m) (brΓ H M L G q J B)=zo (brΓ H M L (zo (.int m.t)) (zo (.int m.i)) (zo (.int m.j)) (zo (.int m.k))) from rfl];simp only [bd];exact e
theorem br2 {n:Nat} {H M:PV} {L:Nat}:∀ {ms:List Mv4} {S:Q0} {xs:List Int},(∀ m∈ms,InN n m)->xs.length=n->S[L]?=zo (.lst (xs.map .int))->∀ q G J I,∃ U Z b5 O,Jn (Z2 (Qa (Q3 3) (Qa (Q3 4) (Qa (Q3 5) (Qa (Q3 6) Z3))))) Yg [] (ms.map mvV) (brΓ H M L q G J I) S=.nx (brΓ H M L U Z b5 O) (S.set L (.lst ((Kn xs ms).map .int)))
 | [],S,xs,_,_,B,q,G,J,I=>⟨q,G,J,I,by
  rw [show Kn xs []=xs from rfl,show S.set L (.lst (xs.map PV.int))=S from by
   refine dA λt=>?_
   by_cases z:L=t
   ·subst z; rw [D6 (O0.mp B).1,B]
   ·rw [E4 z]]
  simp [Jn]⟩
 | m :: ms,S,xs,h,hx,B,q,G,J,I=>by
  have hm:=h m (by simp);obtain ⟨g1,g2,g3⟩:=Q1a (d:=m.k) B hm.2.1 (by rw [hx]; exact hm.2.2);have a1:=(O0.mp B).1;obtain ⟨U,Z,b5,O,e⟩:=br2 (H:=H) (M:=M) (L:=L) (ms:=ms) (S:=S.set L (.lst ((Yx xs m.j m.k).map .int))) (xs:=Yx xs m.j m.k) (λm' Y=>h m' (O7 _ Y)) (by rw [Wy]; exact hx) (D6 a1) (zo (.int m.t)) (zo (.int m.i)) (zo (.int m.j)) (zo (.int m.k))
  refine ⟨U,Z,b5,O,?_⟩;rw [fZ] at e;have bd:Yg (brΓ H M L (zo (.int m.t)) (zo (.int m.i)) (zo (.int m.j)) (zo (.int m.k))) S=.nx (brΓ H M L (zo (.int m.t)) (zo (.int m.i)) (zo (.int m.j)) (zo (.int m.k))) (S.set L (.lst ((Yx xs m.j m.k).map .int))):=by
   unfold brΓ;generalize xs.getD m.j.toNat 0=x,(Yx xs m.j m.k).map PV.int=yv,xs.map PV.int=xv at*;simp! [Yg,g1,g2,g3,-jt,-xg]
  rw [O5,Jn,bX (by simp),show (Z2 (Qa (Q3 3) (Qa (Q3 4) (Qa (Q3 5) (Qa (Q3 6) Z3))))) (mvV m) (brΓ H M L q G J I)=zo (brΓ H M L (zo (.int m.t)) (zo (.int m.i)) (zo (.int m.j)) (zo (.int m.k))) from rfl];simp only [bd];exact e
def Qmv:∀ (a:Int) (l:List Int),∃ m,Qrr (a :: l)=zo m/\(m < 0 <-> ∃ x∈a :: l,x < 0):=by
 have I:∀ (l:List Int) (a:Int),(l.foldl (λm x=>if x < m then x else m) a < 0 <-> ∃ x∈a :: l,x < 0):=by
  intro l
  induction l with
  | nil=>intro a; simp
  | cons b l J=>
   intro a;rw [cV,J];constructor
   ·rintro ⟨x,B,G⟩;rcases D3.mp B with rfl | B
    ·by_cases q:b < a
     ·rw [bX q] at G; exact ⟨b,by simp,G⟩
     ·rw [bY q] at G; exact ⟨a,by simp,G⟩
    ·exact ⟨x,by simp [B],G⟩
   ·rintro ⟨x,B,G⟩;rcases D3.mp B with rfl | B
    ·by_cases q:b < x
     ·exact ⟨b,by simp [q],by omega⟩
     ·exact ⟨x,by simp [q],G⟩
    ·rcases D3.mp B with rfl | B
     ·by_cases q:x < a
      ·exact ⟨x,by simp [q],G⟩
      ·exact ⟨a,by simp [q],by omega⟩
     ·exact ⟨x,by simp [B],G⟩
 intro a l;exact ⟨_,rfl,I l a⟩
def W3 (xs:List Int) (ms:List Mv4):Option (List Int):=if (W5 xs ms).all (λx=>decide (0<=x))=zi then zo (Kn (W5 xs ms) ms) else zl
def Qv8:Option (List Int)->PV
 | none=>.non
 | some ys=>.lst (ys.map .int)
def Q37 (S:Q0) (c d:Cell):(S ++ [c]).set S.length d=S ++ [d]:=by
 rw [L0 _ _ (O6 _),cJ]; rfl
def Qf4 (hn:1<=n) (a4:n<=8) (h:∀ m∈ms,InN n m) (a5:ms.length<=100000) (J:xs.length=n) (S:Q0):Zx [.lst (xs.map .int),.lst (ms.map mvV)] S=.ok (Qv8 (W3 xs ms)) S:=by
 have h0:(S ++ [Cell.lst (xs.map .int)])[S.length]?=zo (.lst (xs.map .int)):=by simp
 obtain ⟨b3,b4,b5,b6,O⟩:=br1 (H:=.lst (xs.map .int)) (M:=.lst (ms.map mvV)) h J h0 zl zl zl zl;rw [Q37] at O;have h1:(S ++ [Cell.lst ((W5 xs ms).map .int)])[S.length]?=zo (.lst ((W5 xs ms).map .int)):=by simp
 obtain ⟨c3,c4,c5,c6,e2⟩:=br2 (H:=.lst (xs.map .int)) (M:=.lst (ms.map mvV)) h (by rw [Vc]; exact J) h1 b3 b4 b5 b6;rw [Q37] at e2;have U:=Vc ms xs;obtain ⟨a,l,a3⟩:∃ a l,W5 xs ms=a :: l:=by
  cases z:W5 xs ms with
  | nil=>rw [z] at U; simp at U; omega
  | cons a l=>exact ⟨a,l,rfl⟩
 obtain ⟨mn,Z,B⟩:=Qmv a l;rw [<- a3] at Z B;have G:Qir (S ++ [Cell.lst ((W5 xs ms).map .int)]) [.ref S.length]=.ok (.int mn) (S ++ [Cell.lst ((W5 xs ms).map .int)]):=by
  show Vp (λns=>(Qrr ns).map .int) _ [.ref S.length]=_
  have hs:Wp (S ++ [Cell.lst ((W5 xs ms).map .int)]) (.ref S.length)=zo ((W5 xs ms).map .int):=by
   simp [Wp]
  unfold Vp;simp only [hs,eI,Q48,Z];rfl
 have a1:(ms.map mvV).length<=1000000:=by rw [O3]; omega
 have a2:∀ (T:Q0) (ys:List Int),fin S (.ref S.length) (S ++ [Cell.lst (ys.map .int)])=.ok (.lst (ys.map .int)) S:=λT ys=>by
  unfold fin;rw [bX (ce S _)];have:fz S.length (S ++ [Cell.lst (ys.map .int)]) 16 (.ref S.length)=zo (.lst (ys.map .int)):=by
   rw [fz,bY (),show (S ++ [Cell.lst (ys.map PV.int)])[S.length]?=zo (.lst (ys.map .int)) by simp];show (fzL S.length _ 15 _).map PV.lst=_;rw [show fzL S.length (S ++ [Cell.lst (ys.map PV.int)]) 15 (ys.map .int)=zo (ys.map .int) from by
    generalize S ++ [Cell.lst (ys.map PV.int)]=S9
    induction ys with
    | nil=>rw [bz,fzL]
    | cons y ys ih=>rw [O5,fzL,ih,Q0d (m:=0) (k:=15) (p:=.int y) rfl (by decide)]; rfl]
   rfl
  rw [this]; rfl
 show Qn Zs 7 _ S=_;unfold Qn;rw [show (([.lst (xs.map .int),.lst (ms.map mvV)]:List PV).map zo ++ bg (7 - [PV.lst (xs.map .int),.lst (ms.map mvV)].length) zl)=[zo (.lst (xs.map .int)),zo (.lst (ms.map mvV)),zl,zl,zl,zl,zl] from rfl];unfold W3
 by_cases q:(W5 xs ms).all (λx=>decide (0<=x))=zi
 ·rw [bX q];have hq:¬ mn < 0:=λz=>by
   obtain ⟨x,J,Y⟩:=B.mp z;have:=E8.mp q x J;simp at this; omega
  have step:Zs [zo (.lst (xs.map .int)),zo (.lst (ms.map mvV)),zl,zl,zl,zl,zl] S=.rt (.ref S.length) (S ++ [Cell.lst ((Kn (W5 xs ms) ms).map .int)]):=by
   unfold brΓ at O e2;generalize (S ++ [Cell.lst ((Kn (W5 xs ms) ms).map .int)])=S3,(S ++ [Cell.lst ((W5 xs ms).map .int)])=S2,I:(S ++ [Cell.lst (xs.map .int)])=S1,ms.map mvV=mm,xs.map PV.int=xv at*;simp! [Zs,I,a1,Qv,O,G,hq,e2]
  rw [step];exact a2 S _
 ·rw [bY q];have hq:mn < 0:=B.mpr (by
   have q:(W5 xs ms).all (λx=>decide (0<=x))=zb:=by simpa using q
   obtain ⟨x,J,Y⟩:=eD.mp q;exact ⟨x,J,by simp at Y; omega⟩)
  have step:Zs [zo (.lst (xs.map .int)),zo (.lst (ms.map mvV)),zl,zl,zl,zl,zl] S=.rt .non (S ++ [Cell.lst ((W5 xs ms).map .int)]):=by
   unfold brΓ at O e2;generalize (S ++ [Cell.lst ((W5 xs ms).map .int)])=S2,I:(S ++ [Cell.lst (xs.map .int)])=S1,ms.map mvV=mm,xs.map PV.int=xv at*;simp! [Zs,I,a1,Qv,O,G,hq]
  rw [step];show fin S .non _=_;unfold fin;rw [bX (ce S _),Q0d (m:=0) rfl (by decide)]; rfl
def atT (ms:List Mv4) (t:Nat):List Mv4:=ms.filter λm=>decide (m.t=(t:Int))
def Xv (ms:List Mv4):List Nat->List Int->Option (List Int)
 | [],xs=>zo xs
 | t :: ts,xs=>match W3 xs (atT ms t) with
  | none=>zl
  | some ys=>Xv ms ts ys
def jz (h:W3 xs ms=zo ys):ys.length=xs.length:=by
 unfold W3 at h
 split at h
 ·cases h; rw [zu,Vc]
 ·cases h
def Qja (h:∀ m∈ms,InN n m) (t:Nat):∀ m∈atT ms t,InN n m:=λm q=>h m (cF.mp q).1
abbrev haΓ (R:PV) (ms:List Mv4) (mo:Int) (b3 b4:Option PV):Gam:=[zo R,zo (.lst (ms.map mvV)),zo (.int mo),b3,b4]
theorem Q93 {n:Nat} (hn:1<=n) (I:n<=8) {ms:List Mv4} (h:∀ m∈ms,InN n m) (O:ms.length<=100000) {R:PV} {mo:Int} {S:Q0}:∀ {ts:List Nat} {xs:List Int},xs.length=n->∀ G,
  (∀ ys,Xv ms ts xs=zo ys->∃ c4,Jn (Q3 4) Wd [] (ts.map λk:Nat=>.int (k:Int)) (haΓ R ms mo (zo (.lst (xs.map .int))) G) S=.nx (haΓ R ms mo (zo (.lst (ys.map .int))) c4) S) /\
  (Xv ms ts xs=zl->Jn (Q3 4) Wd [] (ts.map λk:Nat=>.int (k:Int)) (haΓ R ms mo (zo (.lst (xs.map .int))) G) S=.rt .non S)
 | [],xs,_,G=>⟨λys e=>by cases e; exact ⟨G,by simp [Jn]⟩,λe=>by cases e⟩
 | t :: ts,xs,Z,G=>by
  have Y:J0 (Q3 0) Kr qg [] [zl,zo (.int t)] (ms.map mvV) S=.ok ((atT ms t).map mvV) S:=by
   unfold atT;refine U8 mvV mvV (λm=>decide (m.t=(t:Int))) (by simp) λm _=>⟨_,rfl,?_,λ_=>?_⟩
   ·have hi:oIx S (mvV m) (.int 0)=.ok (.int m.t) S:=rfl;generalize mvV m=v at*
    by_cases q:m.t=(t:Int) <;> simp! [Kr,hi,q]
   ·generalize mvV m=v at*;simp! [qg]
  have J:(ms.map mvV).length<=1000000:=by rw [O3]; omega
  have B:=Qf4 hn I (Qja h t) (by have:=eJ (λm:Mv4=>decide (m.t=(t:Int))) ms; unfold atT; omega) Z S
  rw [O5,Jn,bX (by simp),show (Q3 4) (.int (t:Int)) (haΓ R ms mo (zo (.lst (xs.map .int))) G)=zo (haΓ R ms mo (zo (.lst (xs.map .int))) (zo (.int t))) from rfl];rw [Xv];cases z:W3 xs (atT ms t) with
  | none=>
   rw [z] at B;have B:Zx [.lst (xs.map .int),.lst ((atT ms t).map mvV)] S=.ok .non S:=B;have bd:Wd (haΓ R ms mo (zo (.lst (xs.map .int))) (zo (.int t))) S=.rt .non S:=by
    unfold haΓ;generalize ms.map mvV=mm,(atT ms t).map mvV=mt,xs.map PV.int=xv at*;simp! [Wd,J,Qv,Jp,Y,B,Ka]
   simp only [bd];exact ⟨λys e=>(by cases e),λ_=>trivial⟩
  | some ys=>
   rw [z] at B;have B:Zx [.lst (xs.map .int),.lst ((atT ms t).map mvV)] S=.ok (.lst (ys.map .int)) S:=B;have bd:Wd (haΓ R ms mo (zo (.lst (xs.map .int))) (zo (.int t))) S=.nx (haΓ R ms mo (zo (.lst (ys.map .int))) (zo (.int t))) S:=by
    have U:∀ l,Ka (.lst l)=zb:=λ_=>rfl
    unfold haΓ;generalize ms.map mvV=mm,(atT ms t).map mvV=mt,xs.map PV.int=xv,ys.map PV.int=yv at*;simp! [Wd,J,Qv,Jp,Y,B,U]
   simp only [bd];exact Q93 hn I h O ((jz z).trans Z) _
def Qsa (Y:1<=n) (G:n<=8) (h:∀ m∈ms,InN n m) (B:ms.length<=100000) (U:xs.length=n) {mo:Nat} (Z:mo<=1000) (S:Q0):Kp [.tup (xs.map .int),.lst (ms.map mvV),.int mo] S=.ok (Qv8 (Xv ms (bc mo) xs)) S:=by
 have q:=Q93 Y G h B (R:=.tup (xs.map .int)) (mo:=mo) (S:=S) (ts:=bc mo) U zl;rw [<- Yn] at q;have I:-1000000<=(mo:Int)/\(mo:Int)<=1000000:=by omega
 show Qn Xq 5 _ S=_;unfold Qn;rw [show (([.tup (xs.map .int),.lst (ms.map mvV),.int mo]:List PV).map zo ++ bg (5 - [PV.tup (xs.map .int),.lst (ms.map mvV),.int mo].length) zl)=[zo (.tup (xs.map .int)),zo (.lst (ms.map mvV)),zo (.int mo),zl,zl] from rfl];cases z:Xv ms (bc mo) xs with
 | none=>
  have e:=q.2 z;have step:Xq [zo (.tup (xs.map .int)),zo (.lst (ms.map mvV)),zo (.int mo),zl,zl] S=.rt .non S:=by
   unfold haΓ at e;generalize ms.map mvV=J,xs.map PV.int=O at*;simp! [Xq,Qv,I,e]
  rw [step];show fin S .non S=_;unfold fin;rw [bX (ca S),Q0d (m:=0) rfl (by decide)]; rfl
 | some ys=>
  obtain ⟨c4,e⟩:=q.1 ys z;have step:Xq [zo (.tup (xs.map .int)),zo (.lst (ms.map mvV)),zo (.int mo),zl,zl] S=.rt (.lst (ys.map .int)) S:=by
   unfold haΓ at e;generalize ms.map mvV=J,xs.map PV.int=O,ys.map PV.int=yv at*;simp! [Xq,Qv,I,e]
  rw [step];show fin S _ S=_;unfold fin;rw [bX (ca S),Q0d (m:=1) (by simp [Za]) (by decide)]; rfl
def Qhc:Ka .non=zi:=rfl
def Qhd (i:Int):Ka (.int i)=zb:=rfl
def byB:Option Nat->Nat->Bool
 | some b,t=>decide (b<=t)
 | none,_=>zb
def Q8y (o:Option Nat) (t:Nat) (st:Q0):X8 [moV o,.int t] st=.ok (.bl (byB o t)) st:=by
 cases o with
 | none=>simp! [X8,Qn,Q2b,moV,byB,Qhc]
 | some b=>
  have e:decide ((b:Int)<=(t:Int))=decide (b<=t):=by
   by_cases q:b<=t
   ·rw [ba q,ba ()]
   ·rw [bZ q,bZ ()]
  simp! [X8,Qn,Q2b,moV,byB,e,Qhd]
def inR (rs:zAB) (i j:Int):Bool:=rs.any λr=>decide ((r.1:Int)=i) && decide ((r.2:Int)=j)
def Qhw (rs:zAB) (i j:Int) (st:Q0) (q:Bool):oIn q st (.tup [.int i,.int j]) (Qp rs)=.ok (.bl (inR rs i j != q)) st:=by
 have h1:(rs.map rdV).all (Za dep)=zi:=by
  rw [cC,E8];intro g _;simp [Za,rdV,dep]
 have h2:((rs.map rdV).any λy=>peq y (.tup [.int i,.int j]))=inR rs i j:=by
  rw [cy];unfold inR;congr 1;funext r;simp [rdV,peq,X1];rfl
 unfold oIn Qp;simp only [Q5g];have hd:der st (.tup [.int i,.int j])=.tup [.int i,.int j]:=rfl;have B:Za dep (.tup [.int i,.int j])=zi:=by simp [Za,dep]
 rw [hd,bX ⟨B,h1⟩,h2]
def Qay (h:RsOk n rs) {i j:Int} (e:inR rs i j=zi):(0<=i/\i < n)/\0<=j/\j < n:=by
 unfold inR at e;obtain ⟨r,B,q⟩:=dC.mp e;have:=h.ok r B;unfold Qbf at this;simp at q;omega
def X3 {V:PV} {xs:List PV} (h:ListAt S V xs) {k:Nat} {x:PV} (q:xs[k]?=zo x):oIx S V (.int k)=.ok x S:=by
 rw [h.ix,Sm.atI_get q]; rfl
def W4 (rss:zAA) (f:zAH) (mo:Int) (m:Mv4):Bool:=(decide (0<=m.t) && decide (m.t < mo)) && (inR (rss.getD m.t.toNat []) m.i m.j && (decide (1<=m.k) && byB (f m.i.toNat) m.t.toNat))
def Qrs {rss:zAA} (a1:∀ rs∈rss,RsOk n rs) {V A:PV} (hV:ListAt S V (rss.map Qp)) (hA:DicAt S A (Qe n f)) (a4:mo<=rss.length) (m:Mv4):Yj [V,A,.int mo,mvV m] S=.ok (.bl (W4 rss f mo m)) S:=by
 obtain ⟨t,i,j,k⟩:=m;have Y:∀ st,oIx st (mvV ⟨t,i,j,k⟩) (.int 0)=.ok (.int t) st:=λ_=>rfl
 have i1:∀ st,oIx st (mvV ⟨t,i,j,k⟩) (.int 1)=.ok (.int i) st:=λ_=>rfl
 have i3:∀ st,oIx st (mvV ⟨t,i,j,k⟩) (.int 3)=.ok (.int k) st:=λ_=>rfl
 have sl:∀ st,oSl st (mvV ⟨t,i,j,k⟩) (zo 1) (zo 3)=.ok (.tup [.int i,.int j]) st:=λ_=>rfl
 have ret:∀ b,Je [zo V,zo A,zo (.int mo),zo (mvV ⟨t,i,j,k⟩),zl] S=.rt (.bl b) S->Yj [V,A,.int mo,mvV ⟨t,i,j,k⟩] S=.ok (.bl b) S:=λb e=>by
  show Qn Je 5 _ S=_;unfold Qn;rw [show (([V,A,.int mo,mvV ⟨t,i,j,k⟩]:List PV).map zo ++ bg (5 - [V,A,.int mo,mvV ⟨t,i,j,k⟩].length) zl)=[zo V,zo A,zo (.int mo),zo (mvV ⟨t,i,j,k⟩),zl] from rfl,e];simp [fin,fz]
 refine ret _ ?_;unfold W4
 by_cases J:0<=t
 ·by_cases U:t < mo
  ·obtain ⟨q,rfl⟩:∃ q:Nat,t=q:=⟨t.toNat,by omega⟩;have a2:q < rss.length:=by omega
   have I:rss[q]?=zo (rss.getD q []):=Js a2 [];have O:=X3 hV (k:=q) (x:=Qp (rss.getD q [])) (by rw [E2,I]; rfl);have B:=Qhw (rss.getD q []) i j S zi;have hr:=a1 _ (D8 I);have e1:((q:Int)).toNat=q:=by simp
   rw [ba J,ba U,e1,G9,G9];cases z:inR (rss.getD q []) i j with
   | false=>
    rw [z] at B;have B:oIn zi S (.tup [.int i,.int j]) (Qp (rss.getD q []))=.ok (.bl zi) S:=B;rw [F8];generalize mvV ⟨(q:Int),i,j,k⟩=mv,Qp (rss.getD q [])=rv at*;simp! [Je,Y,J,U,sl,O,B]
   | true=>
    rw [z] at B;have B:oIn zi S (.tup [.int i,.int j]) (Qp (rss.getD q []))=.ok (.bl zb) S:=B;obtain ⟨⟨p1,p2⟩,_⟩:=Qay hr z;obtain ⟨G,rfl⟩:∃ G:Nat,i=G:=⟨i.toNat,by omega⟩;have g:=Uq hA (k:=G) ();have hb:=Q8y (f G) q S;have e2:((G:Int)).toNat=G:=by simp
    rw [G9,e2]
    by_cases Z:1<=k
    ·rw [ba Z,G9];generalize byB (f G) q=bb,moV (f G)=a3,mvV ⟨(q:Int),(G:Int),j,k⟩=mv,Qp (rss.getD q [])=rv at*;simp! [Je,Y,i1,i3,J,U,sl,O,B,Z,g,hb]
    ·rw [bZ Z,F8];generalize mvV ⟨(q:Int),(G:Int),j,k⟩=mv,Qp (rss.getD q [])=rv at*;simp! [Je,Y,i1,i3,J,U,sl,O,B,Z]
  ·rw [bZ U,cN,F8];generalize mvV ⟨t,i,j,k⟩=mv at*;simp! [Je,Y,J,U]
 ·rw [bZ J,F8,F8];generalize mvV ⟨t,i,j,k⟩=mv at*;simp! [Je,Y,J]
def Up (ms:List Mv4):Bool:=(ms.zip (ms.drop 1)).any λz=>decide (z.2.t < z.1.t)
def Q0c (rss:zAA) (f:zAH) (h:Nat) (xs:List Int) (am mo:Int) (ms:List Mv4):Bool:=
 (decide (0<=mo) && decide (mo<=(rss.length:Int))) && (!Up ms && (ms.all (W4 rss f mo) && (match Xv ms (bc mo.toNat) xs with
  | none=>zb
  | some ys=>decide (am<=ys.getD h 0))))
def Q13 {rss:zAA} (q:∀ rs∈rss,RsOk n rs) (B:mo<=rss.length) {m:Mv4} (h:W4 rss f mo m=zi):InN n m:=by
 unfold W4 at h;simp only [L1,decide_eq_true_eq] at h;obtain ⟨⟨h1,h2⟩,h3,_⟩:=h;have:rss[m.t.toNat]?=zo (rss.getD m.t.toNat []):=Js () [];exact Qay (q _ (D8 this)) h3
theorem Q4b {ms:List Mv4}:∀ {ts:List Nat} {xs ys:List Int},Xv ms ts xs=zo ys->ys.length=xs.length
 | [],xs,ys,h=>by cases h; rfl
 | t :: ts,xs,ys,h=>by
  rw [Xv] at h;cases z:W3 xs (atT ms t) with
  | none=>rw [z] at h; cases h
  | some zs=>
   rw [z] at h;exact (Q4b h).trans (jz z)
def Qi0 (a4:1<=n) (hn:n<=8) {rss:zAA} (Y:rss.length<=40) (G:∀ rs∈rss,RsOk n rs) {V:PV} (hV:ListAt S V (rss.map Qp)) (hh:h < n) (hx:xs.length=n) (a9:ms.length<=100000) (am mo:Int) :
  Xa [.tup (xs.map .int),V,.int h,.int am,.int mo,.lst (ms.map mvV)] S=.ok (.bl (Q0c rss (Qu rss h 0) h xs am mo ms)) S:=by
 have a8:∀ rs∈rss,rs.length<=100:=λrs h=>(G rs h).len
 have nd:=Qc0 hV Y G a4 hn hh;have O:J4 S [.tup (xs.map .int)]=.ok (.int n) S:=by simp [hx]
 have J:J4 S [V]=.ok (.int rss.length) S:=by
  have:=hV.len;rw [O3] at this;exact this
 obtain ⟨kvs,m0,A,e1⟩:=Kk hV Y a8 (n:=n) (house:=h) hn;rw [Q2n A] at e1;obtain ⟨T,hT⟩:∃ T,[Cell.dic kvs,Cell.dic (Qe n (Qu rss h 0))]=T:=⟨_,rfl⟩;have hD:DicAt (S ++ T) (.ref (S.length + 1)) (Qe n (Qu rss h 0)):=⟨_,rfl,.inl (by rw [<- hT,D0 (),show S.length + 1 - S.length=1 by omega]; rfl)⟩;rw [hT] at e1;have go:∀ (b:Bool) (T':Q0),U6 [zo (.tup (xs.map .int)),zo V,zo (.int h),zo (.int am),zo (.int mo),zo (.lst (ms.map mvV)),zl,zl] S=.rt (.bl b) (S ++ T')->Xa [.tup (xs.map .int),V,.int h,.int am,.int mo,.lst (ms.map mvV)] S=.ok (.bl b) S:=λb T' e=>by
  show Qn U6 8 _ S=_;unfold Qn;rw [show (([.tup (xs.map .int),V,.int h,.int am,.int mo,.lst (ms.map mvV)]:List PV).map zo ++ bg (8 - [.tup (xs.map .int),V,.int h,.int am,.int mo,.lst (ms.map mvV)].length) zl)=[zo (.tup (xs.map .int)),zo V,zo (.int h),zo (.int am),zo (.int mo),zo (.lst (ms.map mvV)),zl,zl] from rfl,e];show fin S (.bl b) (S ++ T')=_;unfold fin;rw [bX (ce S T')];simp [fz]
 have U:S ++ []=S:=E9 S;have a3:cut (ms.map mvV) (zo 1) zl=(ms.drop 1).map mvV:=by
  rw [Qci];exact congrArg _ (Q4g ms 1)
 have hz:J0 (Z2 (Qa (Q3 0) (Qa (Q3 1) Z3))) Z1 Va [] [zl,zl] ((ms.zip (ms.drop 1)).map λz=>.tup [mvV z.1,mvV z.2]) S=.ok (((ms.zip (ms.drop 1)).map λz=>decide (z.2.t < z.1.t)).map .bl) S:=by
  rw [G7];refine Yw _ _ (by simp) λz hz=>⟨_,rfl,?_⟩
  have a1:oIx S (mvV z.1) (.int 0)=.ok (.int z.1.t) S:=rfl;have a2:oIx S (mvV z.2) (.int 0)=.ok (.int z.2.t) S:=rfl;show _=Res.ok (PV.bl (decide (z.2.t < z.1.t))) S;generalize mvV z.1=v1,mvV z.2=v2 at*;simp [Va,a1,a2]
 have a6:Up ms=((ms.zip (ms.drop 1)).map λz=>decide (z.2.t < z.1.t)).any id:=by unfold Up; rw [cy]; rfl
 have Z:(ms.map mvV).length<=1000000:=by rw [O3]; omega
 rw [<- Q7m] at hz;obtain ⟨Γ,B⟩:∃ Γ:Gam,Γ=[zo (.tup (xs.map .int)),zo V,zo (.int h),zo (.int am),zo (.int mo),zo (.lst (ms.map mvV)),zl,zl]:=⟨_,rfl⟩;have k1:Xs (Qg 3 Zm (Q2 (Qj J4 (Q2 (Q1 0) Q7)) (Q2 (Q1 1) (Q2 (Q1 2) Q7)))) Γ S=.nx Γ S:=by subst B; exact Qb1 (Qi (Q4 (Ji rfl O) rfl) rfl nd)
 unfold Q0c
 by_cases q:0<=mo/\mo<=(rss.length:Int)
 ·obtain ⟨q1,q2⟩:=q;rw [ba q1,ba q2,G9,G9];have k2:J9 (Yb (toB (qd (oI λa b=>.bl (decide (a<=b))) (oI λa b=>.bl (decide (a<=b))) (mC (.int 0)) (Q1 4) (Qj J4 (Q2 (Q1 1) Q7))))) (Qz (mC (.bl zb))) Qs Γ S=.nx Γ S:=by
   subst B;generalize rss.length=rl at J q2;simp! [J,q1,q2]
  have zf:Q8r (Q2 (Q1 5) (Q2 (mSl (Q1 5) (jn (mC (.int 1))) X2) Q7)) Γ S=.ok (Q1u (ms.map mvV) ((ms.drop 1).map mvV),[]) S:=by
   subst B;generalize (ms.drop 1).map mvV=ds at a3 ⊢;generalize ms.map mvV=mm at a3 Z ⊢;simp! [a3,Z,Qv]
  have cb:∀ (T:Q0) (bs:List Bool) (g:List Bool->Bool),K6 (λns=>.bl (g ns)) T [.lst (bs.map .bl)]=.ok (.bl (g bs)) T:=λT bs g=>by simp
  have k3:(toB (Qj (K6 λns=>.bl (ns.any id)) (Q2 (Wr (J3 [zl,zl] (Z2 (Qa (Q3 0) (Qa (Q3 1) Z3))) (Q8r (Q2 (Q1 5) (Q2 (mSl (Q1 5) (jn (mC (.int 1))) X2) Q7))) Z1 Va)) Q7))) Γ S=.ok (Up ms) S:=by
   rw [a6];exact Qc (Ji (Q4 (qz (K1 zf (by subst B; exact hz))) rfl) (cb S _ _))
  have pre:∀ r,(Q5 (J9 (toB (Qj (K6 λns=>.bl (ns.any id)) (Q2 (Wr (J3 [zl,zl] (Z2 (Qa (Q3 0) (Qa (Q3 1) Z3))) (Q8r (Q2 (Q1 5) (Q2 (mSl (Q1 5) (jn (mC (.int 1))) X2) Q7))) Z1 Va)) Q7))) (Qz (mC (.bl zb))) Qs)
  (Q5 (Qr 6 (Qg 3 Qk (Q2 (Qj J4 (Q2 (Q1 0) Q7)) (Q2 (Q1 1) (Q2 (Q1 2) Q7)))))
  (Q5 (J9 (Yb (toB (Qj (K6 λns=>.bl (ns.all id)) (Q2 (Wr (J3 [zl,zo 1,zo 6,zo 4] (Q3 0) (Vv (Q1 5)) Z1 Uk)) Q7)))) (Qz (mC (.bl zb))) Qs)
  (Q5 (Qr 7 (Qg 3 Kp (Q2 (Q1 0) (Q2 (Q1 5) (Q2 (Q1 4) Q7)))))
  (Qz (jr (mOp V6 (Q1 7) (mC .non)) (mOp (oI λa b=>.bl (decide (b<=a))) (mOp oIx (Q1 7) (Q1 2)) (Q1 3)))))))) Γ S=r->U6 [zo (.tup (xs.map .int)),zo V,zo (.int h),zo (.int am),zo (.int mo),zo (.lst (ms.map mvV)),zl,zl] S=r:=λr e=>by
   rw [<- B];exact Q8 k1 (Q8 k2 e)
  cases d:Up ms with
  | true=>
   rw [d] at k3;refine go _ [] (pre _ ?_);rw [U,Yf,Uj k3 rfl];rfl
  | false=>
   rw [d] at k3;have a7:J0 (Q3 0) Z1 Uk [] [zl,zo V,zo (.ref (S.length + 1)),zo (.int mo)] (ms.map mvV) (S ++ T)=.ok ((ms.map (W4 rss (Qu rss h 0) mo)).map .bl) (S ++ T):=by
    rw [G7];refine Yw _ _ (by simp) λm _=>⟨_,rfl,?_⟩
    have:=Qrs G (Jc hV T) hD q2 m;show _=Res.ok (PV.bl (W4 rss (Qu rss h 0) mo m)) (S ++ T);exact Qi rfl rfl this
   have a5:(ms.map (W4 rss (Qu rss h 0) mo)).all id=ms.all (W4 rss (Qu rss h 0) mo):=by rw [cC]; rfl
   rw [fc,G9];have k4:Qr 6 (Qg 3 Qk (Q2 (Qj J4 (Q2 (Q1 0) Q7)) (Q2 (Q1 1) (Q2 (Q1 2) Q7)))) Γ S=.nx (Γ.set 6 (zo (.ref (S.length + 1)))) (S ++ T):=by subst B; exact Jj (Qi (Q4 (Ji rfl O) rfl) rfl e1)
   have k5:(Yb (toB (Qj (K6 λns=>.bl (ns.all id)) (Q2 (Wr (J3 [zl,zo 1,zo 6,zo 4] (Q3 0) (Vv (Q1 5)) Z1 Uk)) Q7)))) (Γ.set 6 (zo (.ref (S.length + 1)))) (S ++ T)=.ok (!ms.all (W4 rss (Qu rss h 0) mo)) (S ++ T):=by
    rw [<- a5];subst B;exact Q10 (Qc (Ji (Q4 (qz (K1 (Xw rfl rfl Z) a7)) rfl) (cb _ _ _)))
   cases a:ms.all (W4 rss (Qu rss h 0) mo) with
   | false=>
    rw [a] at k5;refine go _ T (pre _ (Q8 (Y2 k3 rfl) (Q8 k4 ?_)));rw [Yf,Uj k5 rfl];rfl
   | true=>
    rw [a] at k5;have b0:∀ m∈ms,InN n m:=λm hm=>Q13 G q2 (E8.mp a m hm)
    obtain ⟨I,rfl⟩:∃ I:Nat,mo=I:=⟨mo.toNat,by omega⟩;have b1:=Qsa a4 hn b0 a9 hx (mo:=I) () (S ++ T);rw [G9,show ((I:Int)).toNat=I by simp];refine go _ T (pre _ (Q8 (Y2 k3 rfl) (Q8 k4 (Q8 (Y2 k5 rfl) (Q8 (Jj (Qi (by subst B; rfl) rfl b1)) ?_)))));subst B;cases r:Xv ms (bc I) xs with
    | none=>rfl
    | some ys=>
     have b3:=(Q4b r).trans hx;have b2:oIx (S ++ T) (.lst (ys.map .int)) (.int h)=.ok (.int (ys.getD h 0)) (S ++ T):=X3 (.inl rfl) (by rw [E2,Js () 0]; rfl);have e9:(mOp (oI λa b=>.bl (decide (b<=a))) (mOp oIx (Q1 7) (Q1 2)) (Q1 3)) ([zo (.tup (xs.map .int)),zo V,zo (.int h),zo (.int am),zo (.int I),zo (.lst (ms.map mvV)),zo (.ref (S.length + 1)),zo (.lst (ys.map .int))]:Gam) (S ++ T)=.ok (.bl (decide (am<=ys.getD h 0))) (S ++ T):=Qb (Qb rfl rfl b2) rfl rfl
     show Qz (jr (mOp V6 (Q1 7) (mC .non)) (mOp (oI λa b=>.bl (decide (b<=a))) (mOp oIx (Q1 7) (Q1 2)) (Q1 3))) ([zo (.tup (xs.map .int)),zo V,zo (.int h),zo (.int am),zo (.int I),zo (.lst (ms.map mvV)),zo (.ref (S.length + 1)),zo (.lst (ys.map .int))]:Gam) (S ++ T)=_
     rw [Qc4,Qc7,show (mOp V6 (Q1 7) (mC .non)) ([zo (.tup (xs.map .int)),zo V,zo (.int h),zo (.int am),zo (.int I),zo (.lst (ms.map mvV)),zo (.ref (S.length + 1)),zo (.lst (ys.map .int))]:Gam) (S ++ T)=.ok (.bl zi) (S ++ T) from rfl,J1];show (mOp (oI λa b=>.bl (decide (b<=a))) (mOp oIx (Q1 7) (Q1 2)) (Q1 3) _ _).sbind _=_
     rw [e9]; rfl
 ·have q':(decide (0<=mo) && decide (mo<=(rss.length:Int)))=zb:=by
   by_cases z:0<=mo
   ·rw [bZ (show ¬ mo<=(rss.length:Int) from λw=>q ⟨z,w⟩),cN]
   ·rw [bZ z,F8]
  rw [q',F8];refine go _ [] ?_;rw [U];generalize ms.map mvV=mm,xs.map PV.int=xv,rss.length=rl at*
  by_cases z:0<=mo
  ·have z2:¬ mo<=(rl:Int):=λw=>q ⟨z,w⟩
   simp! [U6,O,nd,J,z,z2]
  ·simp! [U6,O,nd,J,z]
def Qcd (last:Int):List Mv4->Bool
 | []=>zi
 | m :: _=>decide (last<=m.t)
def Q46 (rss:zAA) (f:zAH) (mo:Int):Int->List Mv4->Bool
 | _,[]=>zi
 | last,m :: ms=>(decide (last<=m.t) && (decide (m.t < mo) && (decide (1<=m.k) && (inR (rss.getD m.t.toNat []) m.i m.j && byB (f m.i.toNat) m.t.toNat)))) && Q46 rss f mo m.t ms
theorem Q8x (rss:zAA) (f:zAH) (mo:Int):∀ (ms:List Mv4) (B:Int),0<=B->Q46 rss f mo B ms=(Qcd B ms && (!Up ms && ms.all (W4 rss f mo)))
 | [],_,_=>rfl
 | m :: ms,B,hl=>by
  rw [Q46]
  by_cases q:B<=m.t
  ·have J:=Q8x rss f mo ms m.t ();rw [J];have hd:Up (m :: ms)=(!Qcd m.t ms || Up ms):=by
    unfold Up;cases ms with
    | nil=>rfl
    | cons G ms=>
     show (decide (G.t < m.t) || _)=(!decide (m.t<=G.t) || _);congr 1
     by_cases z:G.t < m.t
     ·rw [ba z,bZ ()]; rfl
     ·rw [bZ z,ba ()]; rfl
   rw [hd,cY];have I:W4 rss f mo m=(decide (m.t < mo) && (decide (1<=m.k) && (inR (rss.getD m.t.toNat []) m.i m.j && byB (f m.i.toNat) m.t.toNat))):=by
    unfold W4;rw [ba (show 0<=m.t by omega),G9];cases decide (m.t < mo) <;> cases decide (1<=m.k) <;> cases inR (rss.getD m.t.toNat []) m.i m.j <;> rfl
   rw [<- I];show (decide (B<=m.t) && W4 rss f mo m && _)=(decide (B<=m.t) && _);rw [ba q];cases W4 rss f mo m <;> cases Qcd m.t ms <;> cases Up ms <;> cases ms.all (W4 rss f mo) <;> rfl
  ·show (decide (B<=m.t) && _ && _)=(decide (B<=m.t) && _);rw [bZ q]; rfl
def Qs4 (rss:zAA) (f:zAH) (mo:Int) (ms:List Mv4):Q46 rss f mo 0 ms=(!Up ms && ms.all (W4 rss f mo)):=by
 rw [Q8x rss f mo ms 0 (bq _)];cases z:ms.all (W4 rss f mo) with
 | false=>simp
 | true=>
  have:Qcd 0 ms=zi:=by
   cases ms with
   | nil=>rfl
   | cons m ms=>
    have:=E8.mp z m (by simp);unfold W4 at this;simp only [L1,decide_eq_true_eq] at this;exact ba this.1.1
  rw [this,G9]
def inn (g w:Nat->Int):List Nat->List Int->Option (List Int)
 | [],ys=>zo ys
 | k :: ks,ys=>if ys.getD k 0 < g k then zl else inn g w ks (ys.set k (ys.getD k 0 - g k + w k))
def Q7z {k:Nat} (B:k < ys.length) (v:Int) (j:Nat):(ys.set k v).getD j 0=if j=k then v else ys.getD j 0:=by
 rw [D5,eE,D5]
 by_cases q:k=j
 ·rw [bX q,bX B,bX q.symm]; rfl
 ·rw [bY q,bY (λz=>q z.symm)]
theorem Q90 (g w:Nat->Int):∀ {ks:List Nat} {ys:List Int},ks.Nodup->(∀ k∈ks,k < ys.length) ->
  ((∀ k∈ks,g k<=ys.getD k 0)->∃ zs,inn g w ks ys=zo zs/\zs.length=ys.length/\∀ j,zs.getD j 0=if j∈ks then ys.getD j 0 - g j + w j else ys.getD j 0)/\((∃ k∈ks,ys.getD k 0 < g k)->inn g w ks ys=zl)
 | [],ys,_,_=>⟨λ_=>⟨ys,rfl,rfl,λj=>by simp⟩,λ⟨k,h,_⟩=>by cases h⟩
 | k :: ks,ys,nd,hl=>by
  obtain ⟨n1,O⟩:=cT.mp nd;have I:=hl k (by simp);have J:=Q90 g w (ks:=ks) (ys:=ys.set k (ys.getD k 0 - g k + w k)) O (λj B=>by rw [L3]; exact hl j (O7 _ B))
  have same:∀ j∈ks,(ys.set k (ys.getD k 0 - g k + w k)).getD j 0=ys.getD j 0:=λj B=>by
   rw [Q7z I,bY (show ¬ j=k from λz=>n1 (by rw [<- z]; exact B))]
  rw [inn];refine ⟨λh=>?_,λ⟨j,B,G⟩=>?_⟩
  ·have U:=h k (by simp);rw [bY ()];obtain ⟨zs,e,l,v⟩:=J.1 λj B=>by rw [same j B]; exact h j (O7 _ B)
   refine ⟨zs,e,by rw [l,L3],λj=>?_⟩;rw [v j]
   by_cases q:j∈ks
   ·rw [bX q,same j q,bX (O7 _ q)]
   ·rw [bY q,Q7z I]
    by_cases z:j=k
    ·rw [bX z,bX (by rw [z]; simp),z]
    ·rw [bY z,bY (by simp [z,q])]
  ·by_cases q:ys.getD k 0 < g k
   ·rw [bX q]
   ·rw [bY q];rcases D3.mp B with rfl | B
    ·exact absurd G q
    ·exact J.2 ⟨j,B,by rw [same j B]; exact G⟩
def Qn5 (hl:xs.length=ys.length) (h:∀ k,xs.getD k 0=ys.getD k 0):xs=ys:=by
 refine List.ext_getElem hl λk h1 h2=>?_
 have:=h k;rw [D5,D5,O2 h1,O2 h2] at this;exact this
def Qax (h:∀ m∈ms,InN n m) (J:xs.length=n):inn (Qw ms) (Yp ms) (bc n) xs=W3 xs ms:=by
 have sp:=Q90 (Qw ms) (Yp ms) (ks:=bc n) (ys:=xs) fe (λk G=>by rw [J]; simpa using G);have U:=λk=>Q32 h J k
 unfold W3
 by_cases q:(W5 xs ms).all (λx=>decide (0<=x))=zi
 ·rw [bX q];have hq:∀ k∈bc n,Qw ms k<=xs.getD k 0:=λk G=>by
   have B:k < (W5 xs ms).length:=by rw [Vc,J]; simpa using G
   have h1:=E8.mp q _ (D8 (Js B 0));rw [U k] at h1;have h1:=of_decide_eq_true h1;omega
  obtain ⟨zs,e,l,v⟩:=sp.1 hq;rw [e];congr 1;refine Qn5 (by rw [l,zu,Vc]) λk=>?_
  rw [v k,Q1c h (by rw [Vc]; exact J),U k]
  by_cases z:k < n
  ·rw [bX (by simpa using z)]
  ·rw [bY (by simpa using z)];have zero:∀ l:List Mv4,(l.map λ_=>(0:Int)).sum=0:=λl=>by
    induction l with
    | nil=>rfl
    | cons a l ih=>rw [O5,E5,ih]; rfl
   have z1:Qw ms k=0:=by
    unfold Qw;have:(ms.map λm=>if (k:Int)=m.i then m.k else 0)=ms.map λ_=>(0:Int):=M9 λm O=>by
     have:=(h m O).1;rw [bY ()]
    rw [this,zero]
   have Z:Yp ms k=0:=by
    unfold Yp;have:(ms.map λm=>if (k:Int)=m.j then m.k else 0)=ms.map λ_=>(0:Int):=M9 λm O=>by
     have:=(h m O).2;rw [bY ()]
    rw [this,zero]
   rw [z1,Z]; omega
 ·rw [bY q];have q:(W5 xs ms).all (λx=>decide (0<=x))=zb:=by simpa using q
  obtain ⟨x,Y,I⟩:=eD.mp q;obtain ⟨k,G⟩:=List.getElem?_of_mem Y;have B:=(O0.mp G).1;rw [Vc,J] at B;refine sp.2 ⟨k,by simpa using B,?_⟩;have:(W5 xs ms).getD k 0=x:=by rw [D5,G]; rfl
  rw [U k] at this;have I:¬ 0<=x:=λz=>I (ba z)
  omega
def Q95 (ms:List Mv4) (t k:Nat):((ms.filter λm=>decide (m.t=(t:Int)) && decide (m.i=(k:Int))).map λm=>m.k).sum=Qw (atT ms t) k:=by
 unfold Qw atT
 induction ms with
 | nil=>rfl
 | cons m ms B=>
  rw [M0,M0]
  by_cases q:m.t=(t:Int)
  ·by_cases z:m.i=(k:Int)
   ·simp only [q,z,decide_true,iD,if_true,O5,E5] at B ⊢;rw [B]
   ·have G:¬ ((k:Int)=m.i):=λe=>z e.symm
    simp only [q,z,G,decide_true,decide_false,cN,cO,if_false,if_true,O5,E5] at B ⊢;rw [B]; omega
  ·simp only [q,decide_false,F8,cO,if_false] at B ⊢;exact B
def Qaj (ms:List Mv4) (t k:Nat):((ms.filter λm=>decide (m.t=(t:Int)) && decide (m.j=(k:Int))).map λm=>m.k).sum=Yp (atT ms t) k:=by
 unfold Yp atT
 induction ms with
 | nil=>rfl
 | cons m ms B=>
  rw [M0,M0]
  by_cases q:m.t=(t:Int)
  ·by_cases z:m.j=(k:Int)
   ·simp only [q,z,decide_true,iD,if_true,O5,E5] at B ⊢;rw [B]
   ·have G:¬ ((k:Int)=m.j):=λe=>z e.symm
    simp only [q,z,G,decide_true,decide_false,cN,cO,if_false,if_true,O5,E5] at B ⊢;rw [B]; omega
  ·simp only [q,decide_false,F8,cO,if_false] at B ⊢;exact B
abbrev jdΓ (X V A:PV) (h am mo:Int) (W:PV) (b7 b8 b9 b10 b11 b12 b13 b14 b15 b16:Option PV):Gam:=[zo X,zo V,zo A,zo (.int h),zo (.int am),zo (.int mo),zo W,b7,b8,b9,b10,b11,b12,b13,b14,b15,b16]
theorem jd1 {n:Nat} {rss:zAA} (a9:∀ rs∈rss,RsOk n rs) {X V A W:PV} {S:Q0} (hV:ListAt S V (rss.map Qp)) {f:zAH} (hA:DicAt S A (Qe n f)) {mo:Int} (b2:mo<=rss.length) {h am:Int} {w:Wt} (hw:wOk w S):∀ (ms:List Mv4) (q:Int),0<=q->∀ b8 b9 Z a1 b12 I G J B,
  (Q46 rss f mo q ms=zi->∃ c7 c8 c9 b3 b1,Jn (Z2 (Qa (Q3 8) (Qa (Q3 9) (Qa (Q3 10) (Qa (Q3 11) Z3))))) Qt w (ms.map mvV) (jdΓ X V A h am mo W (zo (.int q)) b8 b9 Z a1 b12 I G J B) S=.nx (jdΓ X V A h am mo W c7 c8 c9 b3 b1 b12 I G J B) S) /\
  (Q46 rss f mo q ms=zb->Jn (Z2 (Qa (Q3 8) (Qa (Q3 9) (Qa (Q3 10) (Qa (Q3 11) Z3))))) Qt w (ms.map mvV) (jdΓ X V A h am mo W (zo (.int q)) b8 b9 Z a1 b12 I G J B) S=.rt (.bl zb) S)
 | [],q,hl,b8,b9,Z,a1,b12,I,G,J,B=>⟨λ_=>⟨_,_,_,_,_,by rw [bz,Jn,bX hw]⟩,λe=>by cases e⟩
 | ⟨t,i,j,k⟩ :: ms,q,hl,b8,b9,Z,a1,b12,I,G,J,B=>by
  rw [O5,Jn,bX hw,show (Z2 (Qa (Q3 8) (Qa (Q3 9) (Qa (Q3 10) (Qa (Q3 11) Z3))))) (mvV ⟨t,i,j,k⟩) (jdΓ X V A h am mo W (zo (.int q)) b8 b9 Z a1 b12 I G J B)=zo (jdΓ X V A h am mo W (zo (.int q)) (zo (.int t)) (zo (.int i)) (zo (.int j)) (zo (.int k)) b12 I G J B) from rfl];rw [Q46]
  by_cases q1:q<=t
  ·have a4:¬ t < q:=by omega
   have f1:oLt S (.int t) (.int q)=.ok (.bl zb) S:=by simp [a4]
   by_cases q2:t < mo
   ·have a6:¬ mo<=t:=by omega
    have f2:(oI λa b=>.bl (decide (b<=a))) S (.int t) (.int mo)=.ok (.bl zb) S:=by simp [a6]
    obtain ⟨O,rfl⟩:∃ O:Nat,t=O:=⟨t.toNat,by omega⟩;have a3:rss[O]?=zo (rss.getD O []):=Js () [];have a2:=X3 hV (k:=O) (x:=Qp (rss.getD O [])) (by rw [E2,a3]; rfl);have U:=Qhw (rss.getD O []) i j S zi;have hr:=a9 _ (D8 a3);have e1:((O:Int)).toNat=O:=by simp
    simp only [ba q1,ba q2,e1,G9]
    by_cases q3:1<=k
    ·have a5:¬ k < 1:=by omega
     have f3:oLt S (.int k) (.int 1)=.ok (.bl zb) S:=by simp [a5]
     simp only [ba q3,G9];cases z:inR (rss.getD O []) i j with
     | false=>
      rw [z] at U;have U:oIn zi S (.tup [.int i,.int j]) (Qp (rss.getD O []))=.ok (.bl zi) S:=U;have bd:Qt (jdΓ X V A h am mo W (zo (.int q)) (zo (.int O)) (zo (.int i)) (zo (.int j)) (zo (.int k)) b12 I G J B) S=.rt (.bl zb) S:=Vd (Uj (Ww (Qc (Qb rfl rfl f1)) (Ww (Qc (Qb rfl rfl f2)) (Ww (Qc (Qb rfl rfl f3)) (Qc (Qb rfl (Qb rfl rfl a2) U))))) rfl);simp only [bd,F8];exact ⟨λe=>(by cases e),λ_=>trivial⟩
     | true=>
      rw [z] at U;have U:oIn zi S (.tup [.int i,.int j]) (Qp (rss.getD O []))=.ok (.bl zb) S:=U;obtain ⟨⟨p1,p2⟩,_⟩:=Qay hr z;obtain ⟨Y,rfl⟩:∃ Y:Nat,i=Y:=⟨i.toNat,by omega⟩;have g:=Uq hA (k:=Y) ();have e2:((Y:Int)).toNat=Y:=by simp
      simp only [e2,G9];cases b0:f Y with
      | none=>
       rw [b0] at g;have g:Um S A (.int Y)=.ok .non S:=g;have bd:Qt (jdΓ X V A h am mo W (zo (.int q)) (zo (.int O)) (zo (.int Y)) (zo (.int j)) (zo (.int k)) b12 I G J B) S=.rt (.bl zb) S:=Q8 (Y2 (Ww (Qc (Qb rfl rfl f1)) (Ww (Qc (Qb rfl rfl f2)) (Ww (Qc (Qb rfl rfl f3)) (Qc (Qb rfl (Qb rfl rfl a2) U))))) rfl) (Vd (Uj (Qdn (Qc (Qb (Vm rfl rfl g) rfl rfl))) rfl));simp only [bd,byB,F8];exact ⟨λe=>(by cases e),λ_=>trivial⟩
      | some b=>
       rw [b0] at g;have g:Um S A (.int Y)=.ok (.int b) S:=g
       by_cases q4:b<=O
       ·have a8:¬ (O:Int) < (b:Int):=by omega
        have a7:¬ O < b:=by omega
        have bd:Qt (jdΓ X V A h am mo W (zo (.int q)) (zo (.int O)) (zo (.int Y)) (zo (.int j)) (zo (.int k)) b12 I G J B) S=.nx (jdΓ X V A h am mo W (zo (.int O)) (zo (.int O)) (zo (.int Y)) (zo (.int j)) (zo (.int k)) b12 I G J B) S:=Q8 (Y2 (Ww (Qc (Qb rfl rfl f1)) (Ww (Qc (Qb rfl rfl f2)) (Ww (Qc (Qb rfl rfl f3)) (Qc (Qb rfl (Qb rfl rfl a2) U))))) rfl) (Q8 (Y2 (Ww (Qc (Qb (Vm rfl rfl g) rfl rfl)) (Qc (Qb (Vm rfl rfl g) rfl (show (oI λa b=>.bl (decide (b < a))) S (.int b) (.int O)=.ok (.bl zb) S from by simp [a8,a7])))) rfl) rfl)
        simp only [bd,byB,ba q4,G9];exact jd1 a9 hV hA b2 hw ms O () _ _ _ _ _ _ _ _ _
       ·have a8:(O:Int) < (b:Int):=by omega
        have a7:O < b:=by omega
        have bd:Qt (jdΓ X V A h am mo W (zo (.int q)) (zo (.int O)) (zo (.int Y)) (zo (.int j)) (zo (.int k)) b12 I G J B) S=.rt (.bl zb) S:=Q8 (Y2 (Ww (Qc (Qb rfl rfl f1)) (Ww (Qc (Qb rfl rfl f2)) (Ww (Qc (Qb rfl rfl f3)) (Qc (Qb rfl (Qb rfl rfl a2) U))))) rfl) (Vd (Uj (Ww (Qc (Qb (Vm rfl rfl g) rfl rfl)) (Qc (Qb (Vm rfl rfl g) rfl (show (oI λa b=>.bl (decide (b < a))) S (.int b) (.int O)=.ok (.bl zi) S from by simp [a8,a7])))) rfl))
        simp only [bd,byB,bZ q4,F8];exact ⟨λe=>(by cases e),λ_=>trivial⟩
    ·have a5:k < 1:=by omega
     have bd:Qt (jdΓ X V A h am mo W (zo (.int q)) (zo (.int O)) (zo (.int i)) (zo (.int j)) (zo (.int k)) b12 I G J B) S=.rt (.bl zb) S:=Vd (Uj (Ww (Qc (Qb rfl rfl f1)) (Ww (Qc (Qb rfl rfl f2)) (Qdn (Qc (Qb rfl rfl (show oLt S (.int k) (.int 1)=.ok (.bl zi) S from by simp [a5])))))) rfl);simp only [bd,bZ q3,F8];exact ⟨λe=>(by cases e),λ_=>trivial⟩
   ·have a6:mo<=t:=by omega
    have bd:Qt (jdΓ X V A h am mo W (zo (.int q)) (zo (.int t)) (zo (.int i)) (zo (.int j)) (zo (.int k)) b12 I G J B) S=.rt (.bl zb) S:=Vd (Uj (Ww (Qc (Qb rfl rfl f1)) (Qdn (Qc (Qb rfl rfl (show (oI λa b=>.bl (decide (b<=a))) S (.int t) (.int mo)=.ok (.bl zi) S from by simp [a6]))))) rfl)
    simp only [bd,bZ q2,F8,cN];exact ⟨λe=>(by cases e),λ_=>trivial⟩
  ·have a4:t < q:=by omega
   have bd:Qt (jdΓ X V A h am mo W (zo (.int q)) (zo (.int t)) (zo (.int i)) (zo (.int j)) (zo (.int k)) b12 I G J B) S=.rt (.bl zb) S:=Vd (Uj (Qdn (Qc (Qb rfl rfl (show oLt S (.int t) (.int q)=.ok (.bl zi) S from by simp [a4])))) rfl);simp only [bd,bZ q1,F8];exact ⟨λe=>(by cases e),λ_=>trivial⟩
def Qvz {n:Nat} {W:PV} (Y:ListAt S W (ms.map mvV)) (U:ms.length<=100000) (k t:Nat):Y9 [zo (.int k),zo W,zo (.int t)] S=.ok (.int (Qw (atT ms t) k)) S/\Y8 [zo (.int k),zo W,zo (.int t)] S=.ok (.int (Yp (atT ms t) k)) S:=by
 obtain ⟨w,B,O⟩:=Y.src;have hl:(ms.map mvV).length<=1000000:=by rw [O3]; omega
 constructor
 ·have I:J0 (Q3 0) Y5 W2 w [zl,zo (.int t),zo (.int k)] (ms.map mvV) S=.ok ((ms.filter λm=>decide (m.t=(t:Int)) && decide (m.i=(k:Int))).map λm=>.int m.k) S:=by
   refine U8 mvV (λm=>.int m.k) (λm=>decide (m.t=(t:Int)) && decide (m.i=(k:Int))) O λm _=>⟨_,rfl,?_,λ_=>?_⟩
   ·have G:oIx S (mvV m) (.int 0)=.ok (.int m.t) S:=rfl;have i1:oIx S (mvV m) (.int 1)=.ok (.int m.i) S:=rfl;generalize mvV m=v at*
    by_cases q:m.t=(t:Int)
    ·by_cases z:m.i=(k:Int) <;> simp! [Y5,G,i1,q,z]
    ·simp! [Y5,G,q]
   ·have J:oIx S (mvV m) (.int 3)=.ok (.int m.k) S:=rfl;generalize mvV m=v at*;simp! [W2,J]
  have hs:=X9 (λns=>zo (.int ns.sum)) S (ms.filter λm=>decide (m.t=(t:Int)) && decide (m.i=(k:Int))) (λm=>m.k)
  rw [Q95] at hs;generalize ((ms.filter λm=>decide (m.t=(t:Int)) && decide (m.i=(k:Int))).map λm=>PV.int m.k)=ov at*
  generalize ms.map mvV=Z,Qw (atT ms t) k=gs at*;simp! [Y9,B,hl,Qv,Jp,I,hs,-xb,-X9]
 ·have I:J0 (Q3 0) Y4 W1 w [zl,zo (.int t),zo (.int k)] (ms.map mvV) S=.ok ((ms.filter λm=>decide (m.t=(t:Int)) && decide (m.j=(k:Int))).map λm=>.int m.k) S:=by
   refine U8 mvV (λm=>.int m.k) (λm=>decide (m.t=(t:Int)) && decide (m.j=(k:Int))) O λm _=>⟨_,rfl,?_,λ_=>?_⟩
   ·have G:oIx S (mvV m) (.int 0)=.ok (.int m.t) S:=rfl;have i1:oIx S (mvV m) (.int 2)=.ok (.int m.j) S:=rfl;generalize mvV m=v at*
    by_cases q:m.t=(t:Int)
    ·by_cases z:m.j=(k:Int) <;> simp! [Y4,G,i1,q,z]
    ·simp! [Y4,G,q]
   ·have J:oIx S (mvV m) (.int 3)=.ok (.int m.k) S:=rfl;generalize mvV m=v at*;simp! [W1,J]
  have hs:=X9 (λns=>zo (.int ns.sum)) S (ms.filter λm=>decide (m.t=(t:Int)) && decide (m.j=(k:Int))) (λm=>m.k)
  rw [Qaj] at hs;generalize ((ms.filter λm=>decide (m.t=(t:Int)) && decide (m.j=(k:Int))).map λm=>PV.int m.k)=ov at*
  generalize ms.map mvV=Z,Yp (atT ms t) k=gs at*;simp! [Y8,B,hl,Qv,Jp,I,hs,-xb,-X9]
def Y0 (n:Nat) (g:Nat->Int):List PV:=(bc n).map λk:Nat=>.int (g k)
def Qg7 {k:Nat} (q:k < n) (g:Nat->Int) (S:Q0):oIx S (.lst (Y0 n g)) (.int k)=.ok (.int (g k)) S:=X3 (.inl rfl) (by unfold Y0; rw [E2,L8 q]; rfl)
theorem jd3 {n:Nat} {X V A W:PV} {S:Q0} {h am mo:Int} {g w:Nat->Int}:∀ {ks:List Nat} {ys:List Int},(∀ k∈ks,k < n)->ys.length=n->∀ b7 U O B I G J,
  (∀ zs,inn g w ks ys=zo zs->∃ a2,Jn (Q3 16) J6 [] (ks.map λk:Nat=>.int (k:Int)) (jdΓ X V A h am mo W b7 U O B I (zo (.ref S.length)) G (zo (.lst (Y0 n g))) (zo (.lst (Y0 n w))) J) (S ++ [.lst (ys.map .int)])=.nx (jdΓ X V A h am mo W b7 U O B I (zo (.ref S.length)) G (zo (.lst (Y0 n g))) (zo (.lst (Y0 n w))) a2) (S ++ [.lst (zs.map .int)])) /\
  (inn g w ks ys=zl->∃ T,Jn (Q3 16) J6 [] (ks.map λk:Nat=>.int (k:Int)) (jdΓ X V A h am mo W b7 U O B I (zo (.ref S.length)) G (zo (.lst (Y0 n g))) (zo (.lst (Y0 n w))) J) (S ++ [.lst (ys.map .int)])=.rt (.bl zb) (S ++ T))
 | [],ys,_,_,b7,U,O,B,I,G,J=>⟨λzs e=>by cases e; exact ⟨J,by simp [Jn]⟩,λe=>by cases e⟩
 | k :: ks,ys,hk,hy,b7,U,O,B,I,G,J=>by
  have a1:=hk k (by simp);have hL:(S ++ [Cell.lst (ys.map .int)])[S.length]?=zo (.lst (ys.map .int)):=by simp
  have Z:oIx (S ++ [Cell.lst (ys.map .int)]) (.ref S.length) (.int k)=.ok (.int (ys.getD k 0)) (S ++ [Cell.lst (ys.map .int)]):=X3 (.inr (.inr ⟨_,rfl,hL⟩)) (by rw [E2,Js () 0]; rfl);have hg:=Qg7 a1 g (S ++ [Cell.lst (ys.map .int)]);have hw:=Qg7 a1 w (S ++ [Cell.lst (ys.map .int)]);rw [O5,Jn,bX (by simp),show (Q3 16) (.int (k:Int)) (jdΓ X V A h am mo W b7 U O B I (zo (.ref S.length)) G (zo (.lst (Y0 n g))) (zo (.lst (Y0 n w))) J)=zo (jdΓ X V A h am mo W b7 U O B I (zo (.ref S.length)) G (zo (.lst (Y0 n g))) (zo (.lst (Y0 n w))) (zo (.int k))) from rfl];rw [inn]
  by_cases q:ys.getD k 0 < g k
  ·rw [bX q];have bd:J6 (jdΓ X V A h am mo W b7 U O B I (zo (.ref S.length)) G (zo (.lst (Y0 n g))) (zo (.lst (Y0 n w))) (zo (.int k))) (S ++ [Cell.lst (ys.map .int)])=.rt (.bl zb) (S ++ [Cell.lst (ys.map .int)]):=by
    unfold jdΓ;generalize ys.getD k 0=yk,g k=gk,Y0 n g=gv,Y0 n w=wv,S ++ [Cell.lst (ys.map .int)]=S1,S.length=sl at*;simp! [J6,Z,hg,q,-Qbx,-zz]
   simp only [bd];exact ⟨λzs e=>(by cases e),λ_=>⟨_,rfl⟩⟩
  ·rw [bY q];obtain ⟨_,_,Y⟩:=Q1a (a:=(k:Int)) (d:=w k - g k) hL () ();rw [Q37,show ((k:Int)).toNat=k by simp,show Yx ys (k:Int) (w k - g k)=ys.set k (ys.getD k 0 - g k + w k) by unfold Yx; rw [show ((k:Int)).toNat=k by simp]; congr 1; omega,show ys.getD k 0 + (w k - g k)=ys.getD k 0 - g k + w k by omega] at Y;have bd:J6 (jdΓ X V A h am mo W b7 U O B I (zo (.ref S.length)) G (zo (.lst (Y0 n g))) (zo (.lst (Y0 n w))) (zo (.int k))) (S ++ [Cell.lst (ys.map .int)])=.nx (jdΓ X V A h am mo W b7 U O B I (zo (.ref S.length)) G (zo (.lst (Y0 n g))) (zo (.lst (Y0 n w))) (zo (.int k))) (S ++ [Cell.lst ((ys.set k (ys.getD k 0 - g k + w k)).map .int)]):=by
    unfold jdΓ;generalize S ++ [Cell.lst ((ys.set k (ys.getD k 0 - g k + w k)).map .int)]=S2 at*;generalize ys.getD k 0=yk,g k=gk,w k=wk,Y0 n g=gv,Y0 n w=wv,S ++ [Cell.lst (ys.map .int)]=S1,S.length=sl at*;simp! [J6,Z,hg,hw,q,Y,-Qbx,-zz,-xg]
   simp only [bd];exact jd3 (λj hj=>hk j (O7 _ hj)) (by rw [L3]; exact hy) b7 U O B I G _
theorem jd2 {n:Nat} (hn:n<=8) {q:List Int} (a4:q.length=n) {V A W:PV} {S:Q0} {ms:List Mv4} (a6:∀ m∈ms,InN n m) (a3:ms.length<=100000) (hW:ListAt S W (ms.map mvV)) {h am mo:Int}:∀ {ts:List Nat} {ys:List Int},ys.length=n->∀ b7 Z Y B G U J O I,
  (∀ zs,Xv ms ts ys=zo zs->∃ a8 a9 b0 a1,Jn (Q3 13) J7 [] (ts.map λk:Nat=>.int (k:Int)) (jdΓ (.tup (q.map .int)) V A h am mo W b7 Z Y B G (zo (.ref S.length)) U J O I) (S ++ [.lst (ys.map .int)])=.nx (jdΓ (.tup (q.map .int)) V A h am mo W b7 Z Y B G (zo (.ref S.length)) a8 a9 b0 a1) (S ++ [.lst (zs.map .int)])) /\
  (Xv ms ts ys=zl->∃ T,Jn (Q3 13) J7 [] (ts.map λk:Nat=>.int (k:Int)) (jdΓ (.tup (q.map .int)) V A h am mo W b7 Z Y B G (zo (.ref S.length)) U J O I) (S ++ [.lst (ys.map .int)])=.rt (.bl zb) (S ++ T))
 | [],ys,_,b7,Z,Y,B,G,U,J,O,I=>⟨λzs e=>by cases e; exact ⟨U,J,O,I,by simp [Jn]⟩,λe=>by cases e⟩
 | t :: ts,ys,hy,b7,Z,Y,B,G,U,J,O,I=>by
  have a5:=Jc hW [Cell.lst (ys.map .int)];have c1:J0 (Q3 0) Z1 Y9 [] [zl,zo W,zo (.int t)] (Jr 0 n) (S ++ [Cell.lst (ys.map .int)])=.ok (Y0 n (Qw (atT ms t))) (S ++ [Cell.lst (ys.map .int)]):=by
   rw [Yn];exact Yw _ _ (by simp) λk _=>⟨_,rfl,(Qvz (n:=n) a5 a3 k t).1⟩
  have c2:J0 (Q3 0) Z1 Y8 [] [zl,zo W,zo (.int t)] (Jr 0 n) (S ++ [Cell.lst (ys.map .int)])=.ok (Y0 n (Yp (atT ms t))) (S ++ [Cell.lst (ys.map .int)]):=by
   rw [Yn];exact Yw _ _ (by simp) λk _=>⟨_,rfl,(Qvz (n:=n) a5 a3 k t).2⟩
  have a2:=jd3 (n:=n) (X:=.tup (q.map .int)) (V:=V) (A:=A) (W:=W) (S:=S) (h:=h) (am:=am) (mo:=mo) (g:=Qw (atT ms t)) (w:=Yp (atT ms t)) (ks:=bc n) (ys:=ys) (λk hk=>by simpa using hk) hy b7 Z Y B G (zo (.int t)) I;rw [Qax (Qja a6 t) hy,<- Yn] at a2;have a7:∀ st,J4 st [.tup (q.map .int)]=.ok (.int n) st:=λst=>by simp [a4]
  have hb:-1000000<=(n:Int)/\(n:Int)<=1000000:=by omega
  rw [O5,Jn,bX (by simp),show (Q3 13) (.int (t:Int)) (jdΓ (.tup (q.map .int)) V A h am mo W b7 Z Y B G (zo (.ref S.length)) U J O I)=zo (jdΓ (.tup (q.map .int)) V A h am mo W b7 Z Y B G (zo (.ref S.length)) (zo (.int t)) J O I) from rfl];rw [Xv];cases z:W3 ys (atT ms t) with
  | none=>
   obtain ⟨T,e⟩:=a2.2 z;have bd:J7 (jdΓ (.tup (q.map .int)) V A h am mo W b7 Z Y B G (zo (.ref S.length)) (zo (.int t)) J O I) (S ++ [Cell.lst (ys.map .int)])=.rt (.bl zb) (S ++ T):=by
    unfold jdΓ at e ⊢;generalize Y0 n (Qw (atT ms t))=r1,Y0 n (Yp (atT ms t))=r2,S ++ T=S9,S ++ [Cell.lst (ys.map .int)]=S1,S.length=sl,q.map PV.int=xv at*;simp! [J7,a7,hb,Qv,Jp,c1,c2,e,-Q4k]
   simp only [bd];exact ⟨λzs e=>(by cases e),λ_=>⟨_,rfl⟩⟩
  | some zs=>
   obtain ⟨a1,e⟩:=a2.1 zs z;have bd:J7 (jdΓ (.tup (q.map .int)) V A h am mo W b7 Z Y B G (zo (.ref S.length)) (zo (.int t)) J O I) (S ++ [Cell.lst (ys.map .int)])=.nx (jdΓ (.tup (q.map .int)) V A h am mo W b7 Z Y B G (zo (.ref S.length)) (zo (.int t)) (zo (.lst (Y0 n (Qw (atT ms t))))) (zo (.lst (Y0 n (Yp (atT ms t))))) a1) (S ++ [Cell.lst (zs.map .int)]):=by
    unfold jdΓ at e ⊢;generalize Y0 n (Qw (atT ms t))=r1,Y0 n (Yp (atT ms t))=r2,S ++ [Cell.lst (zs.map .int)]=S9,S ++ [Cell.lst (ys.map .int)]=S1,S.length=sl,q.map PV.int=xv at*;simp! [J7,a7,hb,Qv,Jp,c1,c2,e,-Q4k]
   simp only [bd];exact jd2 hn a4 a6 a3 hW ((jz z).trans hy) _ _ _ _ _ _ _ _ _
def Q5w (hn:n<=8) {rss:zAA} (a6:rss.length<=40) (Y:∀ rs∈rss,RsOk n rs) {V A W:PV} (hV:ListAt S V (rss.map Qp)) (hA:DicAt S A (Qe n f)) (hh:h < n) (hx:xs.length=n) (a3:ms.length<=100000) (hW:ListAt S W (ms.map mvV)) (am mo:Int) :
  Y3 [.tup (xs.map .int),V,A,.int h,.int am,.int mo,W] S=.ok (.bl (Q0c rss f h xs am mo ms)) S:=by
 have J:J4 S [V]=.ok (.int rss.length) S:=by
  have:=hV.len;rw [O3] at this;exact this
 have go:∀ (b:Bool) (Z:Q0),V3 (jdΓ (.tup (xs.map .int)) V A h am mo W zl zl zl zl zl zl zl zl zl zl) S=.rt (.bl b) (S ++ Z)->Y3 [.tup (xs.map .int),V,A,.int h,.int am,.int mo,W] S=.ok (.bl b) S:=λb Z e=>by
  show Qn V3 17 _ S=_;unfold Qn;rw [show (([.tup (xs.map .int),V,A,.int h,.int am,.int mo,W]:List PV).map zo ++ bg (17 - [.tup (xs.map .int),V,A,.int h,.int am,.int mo,W].length) zl)=jdΓ (.tup (xs.map .int)) V A h am mo W zl zl zl zl zl zl zl zl zl zl from rfl,e];show fin S (.bl b) (S ++ Z)=_;unfold fin;rw [bX (ce S Z)];simp [fz]
 unfold Q0c
 by_cases q1:0<=mo
 ·have q:¬ mo < 0:=by omega
  by_cases q2:mo<=(rss.length:Int)
  ·have B:¬ (rss.length:Int) < mo:=by omega
   rw [ba q1,ba q2,G9,G9];obtain ⟨w,G,hw⟩:=hW.src;have O:(ms.map mvV).length<=1000000:=by rw [O3]; omega
   have U:=jd1 Y hV hA q2 (X:=.tup (xs.map .int)) (W:=W) (h:=h) (am:=am) hw ms 0 (bq _) zl zl zl zl zl zl zl zl zl;rw [Qs4] at U;rw [<- Bool.and_assoc];cases z:(!Up ms && ms.all (W4 rss f mo)) with
   | false=>
    have e:=U.2 z;refine go _ [] ?_;rw [E9,F8];exact Q8 (Y2 (Ww (Qc (Q5t S q)) (Qc (Qb rfl (Ji rfl J) (Q4c S B)))) rfl) (Q8 rfl (Vd (Wu (Xw rfl G O) e)))
   | true=>
    obtain ⟨c7,c8,c9,a1,a2,e⟩:=U.1 z;have a4:∀ m∈ms,InN n m:=λm hm=>Q13 Y q2 (E8.mp (Bool.and_eq_true_iff.mp z).2 m hm)
    obtain ⟨I,rfl⟩:∃ I:Nat,mo=I:=⟨mo.toNat,by omega⟩;have k2:=jd2 hn hx (V:=V) (A:=A) (S:=S) a4 a3 hW (h:=h) (am:=am) (mo:=I) (ts:=bc I) hx c7 c8 c9 a1 a2 zl zl zl zl;rw [<- Yn] at k2;rw [G9,show ((I:Int)).toNat=I by simp];cases r:Xv ms (bc I) xs with
    | none=>
     obtain ⟨T,e2⟩:=k2.2 r;exact go _ T (Q8 (Y2 (Ww (Qc (Q5t S q)) (Qc (Qb rfl (Ji rfl J) (Q4c S B)))) rfl) (Q8 rfl (Q8 (Wu (Xw rfl G O) e) (Q8 rfl (Vd (Wu (Q3g (show I<=1000 by omega) rfl) e2))))))
    | some ys=>
     obtain ⟨a7,a9,b0,a8,e2⟩:=k2.1 ys r;have b1:=(Q4b r).trans hx;have a5:oIx (S ++ [Cell.lst (ys.map .int)]) (.ref S.length) (.int h)=.ok (.int (ys.getD h 0)) (S ++ [Cell.lst (ys.map .int)]):=X3 (xs:=ys.map .int) (.inr (.inr ⟨_,rfl,by simp⟩)) (by rw [E2,Js (show h < ys.length by omega) 0]; rfl);refine go _ [Cell.lst (ys.map .int)] ?_;show _=SR.rt (.bl (decide (am<=ys.getD h 0))) _;exact Q8 (Y2 (Ww (Qc (Q5t S q)) (Qc (Qb rfl (Ji rfl J) (Q4c S B)))) rfl) (Q8 rfl (Q8 (Wu (Xw rfl G O) e) (Q8 rfl (Q8 (Wu (Q3g (show I<=1000 by omega) rfl) e2) (Q0u (Qb (Qb rfl rfl a5) rfl rfl))))))
  ·have B:(rss.length:Int) < mo:=by omega
   rw [bZ q2,cN,F8];refine go _ [] ?_;rw [E9];exact Vd (Uj (Ww (Qc (Q5t S q)) (Qc (Qb rfl (Ji rfl J) (Q1k S B)))) rfl)
 ·have q:mo < 0:=by omega
  rw [bZ q1,F8,F8];refine go _ [] ?_;rw [E9];exact Vd (Uj (Qdn (Qc (Qhs S q))) rfl)
def Qjk {L:Nat} (T:TapeAt S L ns) (n:Nat) (hn:n<=8):∃ (xs:List Int) (S':Q0),TapeAt S' L ns/\Mv L S S'/\xs.length=n/\(∀ x∈xs,0<=x/\x<=100000000000000000000000000006)/\V0 [.ref L,.int n] S=.ok (.tup (xs.map .int)) S':=by
 obtain ⟨d,S1,hd,T1,M1,e1⟩:=Z5 T 4 (by decide) (by decide);rw [show ((4:Nat):Int)=4 from rfl] at e1;obtain ⟨q,Y,a1,I⟩:∃ q:Nat,1<=q/\q<=100000000000000000000000000000/\atI [PV.int 4,.int 11,.int 1000,.int 100000000000000000000000000000] (d:Int)=zo (.int q):=by
  have:d=0\/d=1\/d=2\/d=3:=by omega
  rcases this with rfl | rfl | rfl | rfl
  ·exact ⟨4,by decide,by decide,rfl⟩
  ·exact ⟨11,by decide,by decide,rfl⟩
  ·exact ⟨1000,by decide,by decide,rfl⟩
  ·exact ⟨100000000000000000000000000000,by decide,by decide,rfl⟩
 have one:∀ (k:Int) (st:Q0),TapeAt st L ns->∃ (x:Int) (st':Q0),TapeAt st' L ns/\Mv L st st'/\(0<=x/\x<=100000000000000000000000000006)/\Yv [zo (.int k),zo (.ref L),zo (.int q)] st=.ok (.int x) st':=λk st T=>by
  obtain ⟨a,s1,ha,t1,m1,q1⟩:=Z5 T 3 (by decide) (by decide);obtain ⟨b,s2,O,t2,m2,q2⟩:=Z5 t1 7 (by decide) (by decide);obtain ⟨c,s3,hc,t3,m3,q3⟩:=Z5 t2 q Y ();rw [show ((3:Nat):Int)=3 from rfl] at q1;rw [show ((7:Nat):Int)=7 from rfl] at q2;have h2:(a:Int) / 2=0\/(a:Int) / 2=1:=by omega
  refine ⟨(a:Int) / 2 * b + c,s3,t3,(m1.trans m2).trans m3,?_,?_⟩
  ·rcases h2 with h2 | h2 <;> rw [h2] <;> omega
  ·have B:=Q8g s2 ((a:Int) / 2) b;rw [bX (Or.inr ⟨by omega,by omega⟩)] at B;generalize (a:Int) / 2 * (b:Int)=ab at*;simp! [Yv,q1,q2,q3,B,-Q8g]
 obtain ⟨out,S2,e2,xs,G,T2,M2,hl,O⟩:=Qet (g:=λk:Nat=>PV.int (k:Int)) (xs:=bc n) (λi out st=>∃ xs:List Int,out=xs.map .int/\TapeAt st L ns/\Mv L S1 st/\xs.length=i/\∀ x∈xs,0<=x/\x<=100000000000000000000000000006) (ga:=Q3 0) (me:=Yv) (w:=[]) (Γ0:=[zl,zo (.ref L),zo (.int q)]) (λ_ _ _ _=>by simp)
  (λi k out st hk ⟨xs,G,T',M',hl,O⟩=>by
   obtain ⟨x,st',T2,M2,U,e⟩:=one k st T';refine ⟨_,rfl,_,st',e,xs ++ [x],by rw [F5,G]; rfl,T2,M'.trans M2,by rw [D4,hl]; rfl,λy J=>?_⟩;rcases E6.mp J with J | J
   ·exact O y J
   ·rw [G6.mp J]; exact U)
  (st:=S1) ⟨[],rfl,T1,Mv.refl _ _,rfl,λx U=>by cases U⟩
 rw [F7] at hl;rw [<- Yn] at e2;subst G;refine ⟨xs,S2,T2,M1.trans M2,hl,O,?_⟩;have Z:-1000000<=(n:Int)/\(n:Int)<=1000000:=by omega
 have step:Wx [zo (.ref L),zo (.int n),zl] S=.rt (.tup (xs.map .int)) S2:=by
  generalize xs.map PV.int=xv at*;simp! [Wx,e1,I,Qv,Z,Jp,e2]
 show Jx Wx 3 _ S=_;unfold Jx;rw [show (([.ref L,.int n]:List PV).map zo ++ bg (3 - [PV.ref L,.int n].length) zl)=[zo (.ref L),zo (.int n),zl] from rfl,step]
def Q0a (a b:List Mv4) (k:Nat):Qw (a ++ b) k=Qw a k + Qw b k:=by unfold Qw; rw [F5,dJ]
def Qbz (a b:List Mv4) (k:Nat):Yp (a ++ b) k=Yp a k + Yp b k:=by unfold Yp; rw [F5,dJ]
def Q89 {a b:List Int} (h:a.Perm b):a.sum=b.sum:=by
 induction h with
 | nil=>rfl
 | cons x _ q=>rw [E5,E5,q]
 | swap x y l=>rw [E5,E5,E5,E5]; omega
 | trans _ _ h1 h2=>exact h1.trans h2
def Q60 {b:List Mv4} (h:a.Perm b) (k:Nat):Qw a k=Qw b k:=Q89 (h.map _)
def Qhg {b:List Mv4} (h:a.Perm b) (k:Nat):Yp a k=Yp b k:=Q89 (h.map _)
def Q7i (a b:List Mv4) (t:Nat):atT (a ++ b) t=atT a t ++ atT b t:=List.filter_append _ _
def Q7h {b:List Mv4} (h:a.Perm b) (t:Nat):(atT a t).Perm (atT b t):=h.filter _
def Has (ms:List Mv4):List Nat->(Nat->Int)->(Nat->Int)->Prop
 | [],x,y=>∀ k,y k=x k
 | t :: ts,x,y=>(∀ k,0<=x k - Qw (atT ms t) k)/\∃ z:Nat->Int,(∀ k,z k=x k - Qw (atT ms t) k + Yp (atT ms t) k)/\Has ms ts z y
theorem Has.add {b:List Mv4}:∀ {ts:List Nat} {G O J I x y:Nat->Int},Has a ts G O->Has b ts J I->(∀ k,x k=G k + J k)->(∀ k,y k=O k + I k)->Has (a ++ b) ts x y
 | [],_,_,_,_,_,_,h1,h2,q,B=>λk=>by rw [B,q,h1,h2]
 | t :: ts,G,O,J,I,x,y,⟨n1,Y,e1,r1⟩,⟨n2,U,e2,Z⟩,q,B=>by
  refine ⟨λk=>?_,λk=>Y k + U k,λk=>?_,Has.add r1 Z (λ_=>rfl) B⟩
  ·rw [Q7i,Q0a,q]; have:=n1 k; have:=n2 k; omega
  ·show Y k + U k=_;rw [Q7i,Q0a,Qbz,q,e1,e2]; omega
def Has.perm {b:List Mv4} (h:a.Perm b):∀ {ts:List Nat} {x y:Nat->Int},Has a ts x y->Has b ts x y
 | [],_,_,h1=>h1
 | t :: ts,x,y,⟨n1,q,B,G⟩=>⟨λk=>by rw [<- Q60 (Q7h h t)]; exact n1 k,q,λk=>by rw [<- Q60 (Q7h h t),<- Qhg (Q7h h t)]; exact B k,G.perm h⟩
def Has.loc {b:List Mv4}:∀ {ts:List Nat} {x y:Nat->Int},(∀ t∈ts,atT a t=atT b t)->Has a ts x y->Has b ts x y
 | [],_,_,_,h1=>h1
 | t :: ts,x,y,h,⟨n1,J,B,G⟩=>by
  have q:=h t E3;exact ⟨λk=>by rw [<- q]; exact n1 k,J,λk=>by rw [<- q]; exact B k,G.loc λu I=>h u (O7 _ I)⟩
theorem Has.idle :∀ {ts:List Nat} {x:Nat->Int},(∀ t∈ts,atT a t=[])->(∀ k,0<=x k)->Has a ts x x
 | [],_,_,_=>λ_=>rfl
 | t :: ts,x,h,h0=>by
  have q:=h t E3;refine ⟨λk=>?_,x,λk=>?_,Has.idle (λu B=>h u (O7 _ B)) h0⟩
  ·rw [q]; show 0<=x k - 0; have:=h0 k; omega
  ·rw [q]; show x k=x k - 0 + 0; omega
def Has.app :∀ {ts us:List Nat} {x z y:Nat->Int},Has a ts x z->Has a us z y->Has a (ts ++ us) x y
 | [],us,x,z,y,h1,h2=>by rw [show z=x from funext h1] at h2; exact h2
 | t :: ts,us,x,z,y,⟨n1,B,q,G⟩,h2=>⟨n1,B,q,G.app h2⟩
def Qcn (h:∀ m∈ms,InN n m) (t:Nat):∀ m∈atT ms t,InN n m:=λm q=>h m (cF.mp q).1
theorem Has.toL (q:∀ m∈ms,InN n m):∀ {ts:List Nat} {xs:List Int} {y:Nat->Int},xs.length=n->Has ms ts (λk=>xs.getD k 0) y->∃ ys,Xv ms ts xs=zo ys/\∀ k,ys.getD k 0=y k
 | [],xs,y,_,h=>⟨xs,rfl,λk=>(h k).symm⟩
 | t :: ts,xs,y,G,⟨n1,z,Z,J⟩=>by
  have I:=Q32 (Qcn q t) G;have hl:(W5 xs (atT ms t)).length=n:=by rw [Vc]; exact G
  have g2:=Q1c (Qcn q t) hl;have B:(W5 xs (atT ms t)).all (λx=>decide (0<=x))=zi:=E8.mpr λv O=>by
   obtain ⟨i,hi⟩:=List.mem_iff_getElem?.mp O;have e:=I i;rw [D5,hi] at e;have:=n1 i;simp at e ⊢;rw [e]; simpa using this
  have hb:W3 xs (atT ms t)=zo (Kn (W5 xs (atT ms t)) (atT ms t)):=by unfold W3; rw [bX B]
  have hz:z=λk=>(Kn (W5 xs (atT ms t)) (atT ms t)).getD k 0:=funext λk=>by rw [g2,I,Z]
  rw [hz] at J;obtain ⟨ys,U,Y⟩:=Has.toL q (by rw [zu]; exact hl) J;exact ⟨ys,by rw [Xv,hb]; exact U,Y⟩
theorem Has.ofL (B:∀ m∈ms,InN n m):∀ {ts:List Nat} {xs ys:List Int},xs.length=n->Xv ms ts xs=zo ys->Has ms ts (λk=>xs.getD k 0) (λk=>ys.getD k 0)
 | [],xs,ys,_,h=>by cases h; exact λ_=>rfl
 | t :: ts,xs,ys,I,h=>by
  rw [Xv] at h;have J:=Q32 (Qcn B t) I;have hl:(W5 xs (atT ms t)).length=n:=by rw [Vc]; exact I
  have g2:=Q1c (Qcn B t) hl;cases G:W3 xs (atT ms t) with
  | none=>rw [G] at h; cases h
  | some zs=>
   rw [G] at h;unfold W3 at G
   split at G
   ·rename_i q;cases G;refine ⟨λk=>?_,λk=>(Kn (W5 xs (atT ms t)) (atT ms t)).getD k 0,λk=>by show (Kn (W5 xs (atT ms t)) (atT ms t)).getD k 0=xs.getD k 0 - _ + _; rw [g2,J],Has.ofL B (by rw [zu]; exact hl) h⟩;rw [<- J];rw [D5];cases z:(W5 xs (atT ms t))[k]? with
    | none=>simp
    | some v=>
     have:=E8.mp q v (D8 z);simpa using this
   ·cases G
def sw (W:Nat->Bool) (n:Nat) (x:Nat->Int):Int:=((bc n).map λk=>if W k=zi then x k else 0).sum
theorem Xd {α:Type} {f g:α->Int}:∀ {l:List α},(∀ k∈l,f k<=g k)->(l.map f).sum<=(l.map g).sum
 | [],_=>bq _
 | a :: l,h=>by
  rw [O5,O5,E5,E5];have:=h a E3;have:=Xd (l:=l) λk q=>h k (O7 _ q)
  omega
theorem Q1d {α:Type} (f g:α->Int):∀ l:List α,(l.map λk=>f k + g k).sum=(l.map f).sum + (l.map g).sum
 | []=>rfl
 | a :: l=>by rw [O5,O5,O5,E5,E5,E5,Q1d f g l]; omega
def Qa2 (W:Nat->Bool) (n:Nat) (x y:Nat->Int):sw W n (λk=>x k + y k)=sw W n x + sw W n y:=by
 unfold sw;rw [<- Q1d];congr 1;refine M9 λk _=>?_
 split <;> simp
def K7 {a:Nat} (c:Nat->Int) (J:a < n):((bc n).map λk=>if k=a then c k else 0).sum=c a:=by
 induction n with
 | zero=>omega
 | succ n B=>
  rw [dY,F5,dJ]
  by_cases q:a=n
  ·subst q;have:((bc a).map λk=>if k=a then c k else 0).sum=0:=by
    have h0:((bc a).map λk=>if k=a then c k else 0)=(bc a).map λ_=>(0:Int):=M9 λk I=>bY (by have:=eQ.mp I; omega)
    rw [h0];generalize bc a=l
    induction l with
    | nil=>rfl
    | cons x l B=>rw [O5,E5,B]; rfl
   rw [this]; simp
  ·have G:¬ n=a:=λz=>q z.symm
   rw [B ()]; simp [G]
theorem Qfi {n:Nat} (W:Nat->Bool) (B:Mv4->Int):∀ {ms:List Mv4},(∀ m∈ms,0<=B m/\B m < n)->sw W n (λk=>(ms.map λm=>if (k:Int)=B m then m.k else 0).sum)=(ms.map λm=>if W (B m).toNat=zi then m.k else 0).sum
 | [],_=>by
  unfold sw;generalize bc n=l
  induction l with
  | nil=>rfl
  | cons a l I=>rw [O5,E5,I]; simp
 | m :: ms,h=>by
  have U:=h m E3;have I:=Qfi W B (ms:=ms) λJ G=>h J (O7 _ G)
  have e:(λk:Nat=>((m :: ms).map λm=>if (k:Int)=B m then m.k else 0).sum)=λk:Nat=>(if (k:Int)=B m then m.k else 0) + (ms.map λm=>if (k:Int)=B m then m.k else 0).sum:=funext λk=>by rw [O5,E5]
  rw [e,Qa2,I,O5,E5];congr 1;unfold sw;have O:(λk:Nat=>if W k=zi then (if (k:Int)=B m then m.k else 0) else 0)=λk=>if k=(B m).toNat then (if W k=zi then m.k else 0) else 0:=funext λk=>by
   by_cases q:(k:Int)=B m
   ·rw [bX q,bX (show k=(B m).toNat by omega)]
   ·rw [bY q,bY (show ¬ k=(B m).toNat by omega)]; split <;> rfl
  rw [O,K7 (λk=>if W k=zi then m.k else 0) ()]
def Qfh {M:List Mv4} (G:∀ m∈M,InN n m) (Y:∀ m∈M,0<=m.k) {W V:Nat->Bool} (I:∀ k,W k=zi->V k=zi) (J:∀ m∈M,W m.j.toNat=zi->V m.i.toNat=zi) {x z:Nat->Int} (h0:∀ k,0<=x k - Qw M k) (hz:∀ k,z k=x k - Qw M k + Yp M k):sw W n z<=sw V n x:=by
 have e1:sw W n z=sw W n (λk=>x k - Qw M k) + sw W n (Yp M):=by rw [<- Qa2]; exact congrArg _ (funext hz)
 have e2:sw V n x=sw V n (λk=>x k - Qw M k) + sw V n (Qw M):=by rw [<- Qa2]; exact congrArg _ (funext λk=>by omega)
 have Z:sw W n (λk=>x k - Qw M k)<=sw V n (λk=>x k - Qw M k):=by
  unfold sw;refine Xd λk _=>?_
  by_cases q:W k=zi
  ·rw [bX q,bX (I k q)]; exact bq _
  ·rw [bY q]; split
   ·exact h0 k
   ·exact bq _
 have a2:sw W n (Yp M)<=sw V n (Qw M):=by
  have O:=Qfi W (λm=>m.j) (n:=n) (ms:=M) λm B=>(G m B).2
  have U:=Qfi V (λm=>m.i) (n:=n) (ms:=M) λm B=>(G m B).1
  rw [show sw W n (Yp M)=_ from O,show sw V n (Qw M)=_ from U];refine Xd λm B=>?_
  by_cases q:W m.j.toNat=zi
  ·rw [bX q,bX (J m B q)]; exact bq _
  ·rw [bY q]; split
   ·exact Y m B
   ·exact bq _
 omega
def Qms {M:List Mv4} (B:∀ m∈M,0<=m.k) (k:Nat):0<=Yp M k:=by
 unfold Yp
 induction M with
 | nil=>simp
 | cons m M I=>
  rw [O5,E5];have:=I λG q=>B G (O7 _ q)
  have:=B m E3
  split <;> omega
def Qpc (G:h < n) {W:Nat->Bool} (B:W h=zi) {x:Nat->Int} (h0:∀ k,0<=x k):x h<=sw W n x:=by
 unfold sw;rw [<- K7 x G];refine Xd λk _=>?_
 by_cases q:k=h
 ·subst q; rw [bX rfl,bX B]; exact bq _
 ·rw [bY q]; split
  ·exact h0 k
  ·exact bq _
def Y7 (n:Nat) (f:zAH) (t:Nat):List Nat:=(bc n).filter λk=>byB (f k) t
def X6 (n:Nat) (f:zAH) (t:Nat) (xs:List Int):Int:=((Y7 n f t).map λk=>xs.getD k 0).sum
def Qna (n:Nat) (f:zAH) (t:Nat) (xs:List Int):X6 n f t xs=sw (λk=>byB (f k) t) n λk=>xs.getD k 0:=by
 unfold X6 Y7 sw;generalize bc n=l
 induction l with
 | nil=>rfl
 | cons a l q=>
  rw [O5,E5,<- q,M0]
  split <;> simp
def WP (rss:zAA) (f:zAH) (h t s k:Nat):Prop:=k=h\/∃ a b q,s<=a/\f k=zo q/\q<=a/\b<=t/\Pa rss k a h b
def Q2i (o:Option Nat) (t:Nat):byB o t=zi <-> ∃ q,o=zo q/\q<=t:=by
 cases o with
 | none=>simp [byB]
 | some q=>simp [byB]
def Qc1 {rss:zAA} (I:mo<=rss.length) {m:Mv4} (h:W4 rss f mo m=zi):0<=m.t/\m.t < mo/\1<=m.k/\0<=m.i/\0<=m.j/\(∃ q,f m.i.toNat=zo q/\q<=m.t.toNat)/\∃ rs,rss[m.t.toNat]?=zo rs/\(m.i.toNat,m.j.toNat)∈rs:=by
 unfold W4 at h;simp only [L1,decide_eq_true_eq] at h;obtain ⟨⟨h1,h2⟩,h3,h4,h5⟩:=h;have B:rss[m.t.toNat]?=zo (rss.getD m.t.toNat []):=Js () [];unfold inR at h3;obtain ⟨r,G,q⟩:=dC.mp h3;simp only [L1,decide_eq_true_eq] at q;refine ⟨h1,h2,h4,by omega,by omega,(Q2i _ _).mp h5,_,B,?_⟩;have e:(m.i.toNat,m.j.toNat)=r:=by
  obtain ⟨O,J⟩:=r;simp only at q;rw [<- q.1,<- q.2]; simp
 rw [e]; exact G
def WP.mono {rss:zAA} {t s s' k:Nat} (hs:s<=s') (w:WP rss f h t s' k):WP rss f h t s k:=by
 rcases w with rfl | ⟨a,b,q,h1,h2⟩
 ·exact .inl rfl
 ·exact .inr ⟨a,b,q,by omega,h2⟩
def WP.step {rss:zAA} {t s i:Nat} (ht:t<=rss.length) (hs:s < t) (Y:rss[s]?=zo rs) (B:(i,j)∈rs) (Z:∃ q,f i=zo q/\q<=s) (w:WP rss f h t (s + 1) j):WP rss f h t s i:=by
 obtain ⟨q,J,G⟩:=Z;have I:Pa rss i s j (s + 1):=(Pa.step Y (O6 _)).mpr (.inr ⟨i,.refl _ _,B⟩);rcases w with rfl | ⟨a,b,q',h1,_,_,h2,O⟩
 ·exact .inr ⟨s,s + 1,q,O6 _,J,G,by omega,I⟩
 ·have U:=O.le;exact .inr ⟨s,b,q,O6 _,J,G,h2,(I.trans (Pa.stayTo j h1 ())).trans O⟩
def WP.home {rss:zAA} {t k:Nat} (J:t<=rss.length) (w:WP rss (Qu rss h 0) h t 0 k):byB (Qh rss h k) t=zi:=by
 rw [Q2i];rcases w with rfl | ⟨a,b,q,_,h1,h2,O,G⟩
 ·obtain ⟨c,e,B⟩:=Q4d (Pa.refl (rss:=rss) k 0);have B:c=0:=by omega
  subst B;refine ⟨0,?_,by omega⟩;unfold Qh;rw [e]; exact e
 ·have I:=G.le;have p:=(Pa.stayTo (rss:=rss) k h2 ()).trans G;obtain ⟨c,e,B⟩:=Q4d p;refine ⟨c,?_,by omega⟩;unfold Qh;rw [h1]; exact e
def WB (rss:zAA) (f:zAH) (h t s k:Nat):Bool:=@decide (WP rss f h t s k) (Classical.propDecidable _)
def WB_iff {rss:zAA} {t s k:Nat}:WB rss f h t s k=zi <-> WP rss f h t s k:=by
 unfold WB;exact @decide_eq_true_iff _ (Classical.propDecidable _)
theorem Q5z {rss:zAA} {n:Nat} (I:∀ rs∈rss,RsOk n rs) {f:zAH} {h t:Nat} (Y:h < n) (ht:t<=rss.length) {mo:Int} (B:mo<=rss.length) {ms:List Mv4} (q:∀ m∈ms,W4 rss f mo m=zi):∀ (d s:Nat) (x y:Nat->Int),s + d=t->(∀ k,0<=x k)->Has ms (bn s d) x y->y h<=sw (WB rss f h t s) n x
 | 0,s,x,y,_,h0,hs=>by
  rw [show y h=x h from hs h];exact Qpc Y (WB_iff.mpr (.inl rfl)) h0
 | d + 1,s,x,y,hd,h0,hs=>by
  rw [eC] at hs;obtain ⟨n1,z,e1,r1⟩:=hs;have O:∀ m∈atT ms s,InN n m:=λm G=>Q13 I B (q m (cF.mp G).1)
  have hk:∀ m∈atT ms s,0<=m.k:=λm G=>by have:=(Qc1 B (q m (cF.mp G).1)).2.2.1; omega
  have J:∀ k,0<=z k:=λk=>by rw [e1]; have:=n1 k; have:=Qms hk k; omega
  have ih:=Q5z I Y ht B q d (s + 1) z y () J r1;refine fP ih (Qfh O hk (λk w=>WB_iff.mpr ((WB_iff.mp w).mono ())) (λm G w=>WB_iff.mpr ?_) n1 e1)
  obtain ⟨q1,Z⟩:=cF.mp G;have Z:m.t=(s:Int):=by simpa using Z
  obtain ⟨_,_,_,_,_,hf,rs,hr,U⟩:=Qc1 B (q m q1);rw [show m.t.toNat=s by omega] at hf hr;exact WP.step ht () hr U hf (WB_iff.mp w)
def Qaz {rss:zAA} (B:∀ rs∈rss,RsOk n rs) {t:Nat} (hh:h < n) (O:t<=rss.length) (I:mo<=rss.length) (G:∀ m∈ms,W4 rss (Qu rss h 0) mo m=zi) (Z:xs.length=n) (h0:∀ k,0<=xs.getD k 0) (Y:Xv ms (bc t) xs=zo ys):ys.getD h 0<=X6 n (Qh rss h) t xs:=by
 have J:∀ m∈ms,InN n m:=λm U=>Q13 B I (G m U)
 have hs:=Has.ofL J Z Y;rw [fg] at hs;have b:=Q5z B hh O I G t 0 _ _ () h0 hs;rw [Qna];refine fP b ?_;unfold sw;refine Xd λk _=>?_
 by_cases q:WB rss (Qu rss h 0) h t 0 k=zi
 ·rw [bX q,bX (WP.home O (WB_iff.mp q))]; exact bq _
 ·rw [bY q]; split
  ·exact h0 k
  ·exact bq _
inductive Way (rss:zAA) (one a:Nat):Nat->Nat->List (Nat × Nat × Nat)->Prop
 | nil:Way rss one a one a []
 | hop {i q t j:Nat} {L:List (Nat × Nat × Nat)} {rs:zAB} (w:Way rss one a i q L) (hq:q<=t) (hr:rss[t]?=zo rs) (hm:(i,j)∈rs):Way rss one a j (t + 1) ((t,i,j) :: L)
def Uw (x:Int) (p:Nat × Nat × Nat):Mv4:=⟨p.1,p.2.1,p.2.2,x⟩
def Q91 (p:Nat × Nat × Nat):List Int:=[p.1,p.2.1,p.2.2]
def Way.facts {rss:zAA} {one a:Nat} (w:Way rss one a j b L):a<=b/\Pa rss one a j b/\∀ p∈L,a<=p.1/\p.1 < b/\(∃ q,q<=p.1/\Pa rss one a p.2.1 q)/\∃ rs,rss[p.1]?=zo rs/\(p.2.1,p.2.2)∈rs:=by
 induction w with
 | nil=>exact ⟨O6 _,.refl _ _,λp B=>by cases B⟩
 | hop w J G I Z=>
  obtain ⟨h1,h2,U⟩:=Z;have O:=(O0.mp G).1;refine ⟨by omega,(Pa.step G ()).mpr (.inr ⟨_,h2.trans (Pa.stayTo _ J ()),I⟩),λp B=>?_⟩
  rcases D3.mp B with rfl | B
  ·exact ⟨by show a<=_; omega,by show _ < _; omega,⟨_,J,h2⟩,_,G,I⟩
  ·obtain ⟨Y,g2,g3⟩:=U p B;exact ⟨Y,by omega,g3⟩
def dl (v:Nat) (x:Int):Nat->Int:=λk=>if k=v then x else 0
def Qb2 (q:0<=x) (v k:Nat):0<=dl v x k:=by unfold dl; split <;> omega
def Qcm {t:Nat} (h:∀ p∈L,p.1≠t):atT (L.map (Uw x)) t=[]:=by
 unfold atT;rw [eK];intro m q;obtain ⟨p,B,rfl⟩:=L9.mp q;have:=h p B;show ¬ (decide ((p.1:Int)=(t:Int))=zi);simp; omega
def Qj9 {p:Nat × Nat × Nat} {t:Nat}:atT ((p :: L).map (Uw x)) t=if p.1=t then Uw x p :: atT (L.map (Uw x)) t else atT (L.map (Uw x)) t:=by
 unfold atT;rw [O5,M0]
 by_cases q:p.1=t
 ·rw [bX q,bX (by show decide ((p.1:Int)=(t:Int))=zi; simp; omega)]
 ·rw [bY q,bY (by show ¬ decide ((p.1:Int)=(t:Int))=zi; simp; omega)]
def Way.has {rss:zAA} {one a:Nat} (w:Way rss one a j b L) (J:0<=x):∀ {s d:Nat},s<=a->b<=s + d->Has (L.map (Uw x)) (bn s d) (dl one x) (dl j x):=by
 induction w with
 | nil=>exact λ_ _=>Has.idle (λ_ _=>rfl) (Qb2 J _)
 | @hop i q t j L rs w hq hr hm Z=>
  intro s d hs hb;obtain ⟨h1,h2,O⟩:=w.facts;have hd:bn s d=bn s (t - s) ++ ([t] ++ bn (t + 1) (s + d - (t + 1))):=by
   have Y:[t] ++ bn (t + 1) (s + d - (t + 1))=bn t (s + d - t):=by
    rw [show s + d - t=(s + d - (t + 1)) + 1 by omega,eC]; rfl
   have U:=eL (s:=s) (m:=t - s) (n:=s + d - t);rw [Y,show bn t (s + d - t)=bn (s + (t - s)) (s + d - t) by rw [show s + (t - s)=t by omega],U,show t - s + (s + d - t)=d by omega]
  rw [hd];have p1:Has (((t,i,j) :: L).map (Uw x)) (bn s (t - s)) (dl one x) (dl i x):=(Z hs ()).loc λu G=>by
   rw [Qj9,bY];have:=eM.mp G;show ¬ t=u;omega
  have I:atT (((t,i,j) :: L).map (Uw x)) t=[Uw x (t,i,j)]:=by
   rw [Qj9,bX rfl,Qcm λp B=>by have:=(O p B).2.1; omega]
  have g:∀ k,Qw [Uw x (t,i,j)] k=dl i x k:=λk=>by
   unfold Qw dl Uw
   by_cases q:k=i
   ·simp [q]
   ·have:¬ ((k:Int)=i):=by omega
    simp [q,this]
  have g':∀ k,Yp [Uw x (t,i,j)] k=dl j x k:=λk=>by
   unfold Yp dl Uw
   by_cases q:k=j
   ·simp [q]
   ·have:¬ ((k:Int)=j):=by omega
    simp [q,this]
  have p2:Has (((t,i,j) :: L).map (Uw x)) [t] (dl i x) (dl j x):=by
   refine ⟨λk=>?_,dl j x,λk=>?_,λ_=>rfl⟩
   ·rw [I,g]; omega
   ·rw [I,g,g']; omega
  have p3:Has (((t,i,j) :: L).map (Uw x)) (bn (t + 1) (s + d - (t + 1))) (dl j x) (dl j x):=by
   refine Has.idle (λu G=>Qcm λp B=>?_) (Qb2 J _);have G:=eM.mp G;rcases D3.mp B with rfl | B
   ·show t≠u; omega
   ·have:=(O p B).2.1; omega
  exact p1.app (p2.app p3)
def Way.nodup {rss:zAA} {one a:Nat} (w:Way rss one a j b L) (G:∀ p∈L,m p.2.2=zo (p.1 + 1,zo p.2.1)) (h1:m one=zo (a,zl)):(one :: L.map λp=>p.2.2).Nodup:=by
 have h0:one∉L.map λp=>p.2.2:=λz=>by
  obtain ⟨p,B,e⟩:=L9.mp z;have:=G p B;rw [e,h1] at this;cases this
 refine cT.mpr ⟨h0,?_⟩;clear h0
 induction w with
 | nil=>exact fY
 | @hop i q t j L rs w hq Z O U=>
  refine cT.mpr ⟨λz=>?_,U λp B=>G p (O7 _ B)⟩;obtain ⟨p,B,e⟩:=L9.mp z;have J:=G p (O7 _ B);have I:=G (t,i,j) E3;have e:p.2.2=j:=e;rw [e] at J;have I:m j=zo (t + 1,zo i):=I;rw [I] at J;have:=(w.facts.2.2 p B).2.1;have Y:t + 1=p.1 + 1:=congrArg bh (bm J);omega
def Way.short {rss:zAA} (B:∀ rs∈rss,RsOk n rs) {one a:Nat} (O:one < n) (w:Way rss one a j b L) (G:∀ p∈L,m p.2.2=zo (p.1 + 1,zo p.2.1)) (h1:m one=zo (a,zl)):L.length + 1<=n:=by
 have:=Ug (n:=n) (w.nodup G h1) λv q=>by
  rcases D3.mp q with rfl | q
  ·exact O
  ·obtain ⟨p,I,rfl⟩:=L9.mp q;obtain ⟨_,_,_,rs,J,hi⟩:=w.facts.2.2 p I;have:=(B rs (D8 J)).ok _ hi;unfold Qbf at this;omega
 simpa using this
def Qhz (h:S[D]?=zo (.dic (Qe n f))) (Y:n<=8) (t:Nat):Ju [.ref D,.int t] S=.ok (.lst (Jb (Y7 n f t))) (S.set D (.frd (Qe n f))):=by
 have q:=(O0.mp h).1;have O:jy S D=zo (Qe n f):=by unfold jy; rw [h]
 have B:Uv S (.ref D)=zo ((Qe n f).map (λkv=>kP kv.1),D,Qe n f):=by simp only [Uv,O]
 rw [Q43] at B;have hl:((bc n).map λk:Nat=>PV.int (k:Int)).length<=1000000:=by simp; omega
 have J:DicAt (S.set D (.frd (Qe n f))) (.ref D) (Qe n f):=⟨_,rfl,.inr (D6 q)⟩;have U:J0 (Q3 0) Ym Yq [(D,.frd (Qe n f))] [zl,zo (.int t),zo (.ref D)] ((bc n).map λk:Nat=>PV.int (k:Int)) (S.set D (.frd (Qe n f)))=.ok (Jb (Y7 n f t)) (S.set D (.frd (Qe n f))):=by
  refine U8 _ _ (λk=>byB (f k) t) (Q6h q _) λk B=>⟨_,rfl,?_,λ_=>?_⟩
  ·have g:=Uq J (show k < n by simpa using B);have b:=Q8y (f k) t (S.set D (.frd (Qe n f)));generalize S.set D (.frd (Qe n f))=S1,moV (f k)=mv at*;simp! [Ym,g,b]
  ·simp! [Yq]
 have step:Yd [zo (.ref D),zo (.int t)] S=.rt (.lst (Jb (Y7 n f t))) (S.set D (.frd (Qe n f))):=by
  generalize G:S.set D (.frd (Qe n f))=S1 at*;generalize Qe n f=ad,((bc n).map λk:Nat=>PV.int (k:Int))=rv at*
  generalize Jb (Y7 n f t)=Z at*;simp! [Yd,qk,B,hl,Qv,Jp,G,U]
 show Qn Yd 2 _ S=_;unfold Qn;rw [show (([.ref D,.int t]:List PV).map zo ++ bg (2 - [PV.ref D,.int t].length) zl)=[zo (.ref D),zo (.int t)] from rfl,step];show fin S _ _=_;unfold fin;rw [bY];rintro ⟨T,I⟩;have hz:T=[]:=by
  have:=congrArg cj I;rw [D4,L3] at this;exact eA.mp ()
 rw [hz,E9] at I;have:=D6 (a:=Cell.frd (Qe n f)) q;rw [<- I,h] at this;cases this
abbrev wyΓ (V:PV) (one a to D:Nat) (at':Nat):Gam:=[zo V,zo (.int one),zo (.int a),zo (.int to),zo (.ref D),zo (.ref (D + 1)),zo (.int at')]
def Qcv {rss:zAA} {one a to:Nat} {V:PV} {S:Q0} {kvs:List (Key × PV)} (F:Fd kvs m) (A:Arr rss one a rss.length rss.length [] m) :
  ∀ (d:Nat) (B:Nat) (p:Nat × Option Nat) (mv:List (List Int)),m B=zo p->p.1<=d->mv.length + d<=1000->∀ k,d < k->∃ (L:List (Nat × Nat × Nat)),Way rss one a B p.1 L/\(∀ p∈L,m p.2.2=zo (p.1 + 1,zo p.2.1)) /\
   Xb Uz Q0i k (wyΓ V one a to S.length B) (S ++ [.dic kvs,.lst (mv.map Jm)])=.nx (wyΓ V one a to S.length one) (S ++ [.dic kvs,.lst ((mv ++ L.map Q91).map Jm)]):=by
 intro d
 induction d with
 | zero=>
  intro B p mv G hd hl k hk;obtain ⟨k,rfl⟩:∃ j,k=j + 1:=⟨k - 1,by omega⟩;have I:B=one:=Classical.byContradiction λz=>by
   obtain ⟨_,_,h2,_⟩:=A.b B p G z;omega
  subst I;rw [A.a] at G;cases G;have Z:DicAt (S ++ [.dic kvs,.lst (mv.map Jm)]) (.ref S.length) kvs:=⟨_,rfl,.inl (by simp)⟩;have g:=Z.get (k:=(B:Int)) (v:=.tup [.int a,.non]) (by rw [F B,A.a]; rfl);refine ⟨[],.nil,λp G=>(by cases G),?_⟩;rw [bz,E9];have U:Uz (wyΓ V B a to S.length B) (S ++ [.dic kvs,.lst (mv.map Jm)])=.ok zb (S ++ [.dic kvs,.lst (mv.map Jm)]):=by
   unfold wyΓ;generalize (S ++ [Cell.dic kvs,Cell.lst (mv.map Jm)])=S1,S.length=sl at*;simp! [Uz,g,atI,ixN,Qhc,Qhd]
  rw [Xb,U];rfl
 | succ d ih=>
  intro B p mv G hd hl k hk;obtain ⟨k,rfl⟩:∃ j,k=j + 1:=⟨k - 1,by omega⟩;have Z:DicAt (S ++ [.dic kvs,.lst (mv.map Jm)]) (.ref S.length) kvs:=⟨_,rfl,.inl (by simp)⟩
  by_cases I:B=one
  ·subst I;rw [A.a] at G;cases G;have g:=Z.get (k:=(B:Int)) (v:=.tup [.int a,.non]) (by rw [F B,A.a]; rfl);refine ⟨[],.nil,λp G=>(by cases G),?_⟩;rw [bz,E9];have U:Uz (wyΓ V B a to S.length B) (S ++ [.dic kvs,.lst (mv.map Jm)])=.ok zb (S ++ [.dic kvs,.lst (mv.map Jm)]):=by
    unfold wyΓ;generalize (S ++ [Cell.dic kvs,Cell.lst (mv.map Jm)])=S1,S.length=sl at*;simp! [Uz,g,atI,ixN,Qhc,Qhd]
   rw [Xb,U];rfl
  ·obtain ⟨i,hi,hm,hb,⟨rs,a2,O⟩,q,hq,hqp⟩:=A.b B p G I;have g:=Z.get (k:=(B:Int)) (v:=.tup [.int (p.1:Nat),.int i]) (by rw [F B,G]; simp [hi,frV]);have U:Uz (wyΓ V one a to S.length B) (S ++ [.dic kvs,.lst (mv.map Jm)])=.ok zi (S ++ [.dic kvs,.lst (mv.map Jm)]):=by
    unfold wyΓ;generalize (S ++ [Cell.dic kvs,Cell.lst (mv.map Jm)])=S1,S.length=sl at*;simp! [Uz,g,atI,ixN,Qhc,Qhd]
   have a3:DicAt (S ++ [.dic kvs,.lst ((mv ++ [[(p.1:Int) - 1,(i:Int),(B:Int)]]).map Jm)]) (.ref S.length) kvs:=⟨_,rfl,.inl (by simp)⟩;have g2:=a3.get (k:=(B:Int)) (v:=.tup [.int (p.1:Nat),.int i]) (by rw [F B,G]; simp [hi,frV]);have a1:chg (S ++ [.dic kvs,.lst (mv.map Jm)]) (.ref (S.length + 1)) (λxs=>if xs.length < 1000000 then zo (.non,xs ++ [.tup [.int ((p.1:Int) - 1),.int i,.int B]]) else zl)=.ok .non (S ++ [.dic kvs,.lst ((mv ++ [[(p.1:Int) - 1,(i:Int),(B:Int)]]).map Jm)]):=by
    have J:(S ++ [Cell.dic kvs,Cell.lst (mv.map Jm)])[S.length + 1]?=zo (.lst (mv.map Jm)):=by
     rw [D0 (),show S.length + 1 - S.length=1 by omega]; rfl
    unfold chg;simp only [J];rw [bX (by rw [O3]; show _ < 1000000; omega)];have Y:(S ++ [Cell.dic kvs,Cell.lst (mv.map Jm)]).set (S.length + 1) (.lst (mv.map Jm ++ [.tup [.int ((p.1:Int) - 1),.int i,.int B]]))=S ++ [.dic kvs,.lst ((mv ++ [[(p.1:Int) - 1,(i:Int),(B:Int)]]).map Jm)]:=by
     rw [L0 _ _ (),show S.length + 1 - S.length=1 by omega,F5]; rfl
    simp only [Y]
   have bd:Q0i (wyΓ V one a to S.length B) (S ++ [.dic kvs,.lst (mv.map Jm)])=.nx (wyΓ V one a to S.length i) (S ++ [.dic kvs,.lst ((mv ++ [[(p.1:Int) - 1,(i:Int),(B:Int)]]).map Jm)]):=by
    have a4:Z9 (S ++ [.dic kvs,.lst (mv.map Jm)]) (.ref (S.length + 1))=zo (mv.map Jm):=by
     have J:(S ++ [Cell.dic kvs,Cell.lst (mv.map Jm)])[S.length + 1]?=zo (.lst (mv.map Jm)):=by
      rw [D0 (),show S.length + 1 - S.length=1 by omega]; rfl
     simp [J]
    unfold wyΓ;generalize (S ++ [Cell.dic kvs,Cell.lst ((mv ++ [[(p.1:Int) - 1,(i:Int),(B:Int)]]).map Jm)])=S2,(S ++ [Cell.dic kvs,Cell.lst (mv.map Jm)])=S1 at*;generalize mv.map Jm=a5,S.length + 1=a6 at*;generalize S.length=sl at*;simp! [Q0i,g,g2,atI,ixN,Qv,a4,a1,-jt,-Qnk]
   rw [Xb,U];simp only [Yc,if_true,bd];obtain ⟨L,k1,k2,k3⟩:=ih i q (mv ++ [[(p.1:Int) - 1,(i:Int),(B:Int)]]) hq () (by simp; omega) k ();have w1:=Way.hop k1 (t:=p.1 - 1) (j:=B) () a2 O;rw [show p.1 - 1 + 1=p.1 by omega] at w1;refine ⟨(p.1 - 1,i,B) :: L,w1,λz hz=>?_,?_⟩
   ·rcases D3.mp hz with rfl | hz
    ·show m B=zo (p.1 - 1 + 1,zo i);rw [G,show p.1 - 1 + 1=p.1 by omega,<- hi]
    ·exact k2 z hz
   ·rw [k3,O5,F4];have e9:Q91 (p.1 - 1,i,B)=[(p.1:Int) - 1,(i:Int),(B:Int)]:=by
     show [((p.1 - 1:Nat):Int),(i:Int),(B:Int)]=_;rw [show ((p.1 - 1:Nat):Int)=(p.1:Int) - 1 by omega]
    rw [e9]; rfl
theorem Q97 (n:Nat) (st:Q0):∀ gs:List (List Int),fzL n st 15 (gs.map Jm)=zo (gs.map Jm)
 | []=>by rw [bz,fzL]
 | g :: gs=>by
  have h1:fz n st 15 (Jm g)=zo (Jm g):=Q0d (m:=1) (by simp [Za,Jm]) (by decide);rw [O5,fzL,h1,Q97 n st gs]; rfl
def Qp3 {V:PV} {rss:zAA} (hV:ListAt S V (rss.map Qp)) (q:rss.length<=40) (U:∀ rs∈rss,rs.length<=100) (I:∀ rs∈rss,RsOk n rs) {one a to:Nat} (ho:one < n) (Z:a<=rss.length) (hp:Qu rss one a to=zo b):∃ L:List (Nat × Nat × Nat),Way rss one a to b L/\L.length + 1<=n/\Q9u [V,.int one,.int a,.int to] S=.ok (.lst ((L.map Q91).map Jm)) S:=by
 obtain ⟨kvs,m,F,A,e⟩:=z8 hV q U (house:=one) (mom:=a) Z;obtain ⟨p,hm,B⟩:∃ p,m to=zo p/\p.1=b:=by
  have:moM m to=zo b:=by rw [Q2n A]; exact hp
  unfold moM at this;cases z:m to with
  | none=>rw [z] at this; cases this
  | some p=>rw [z] at this; exact ⟨p,rfl,bm this⟩
 have hb:=(Q4e hp Z).1;obtain ⟨L,Y,O,w⟩:=Qcv (V:=V) (S:=S) (to:=to) F A b to p [] hm () (by simp; omega) 100000 ();rw [B] at Y;rw [dI] at w;refine ⟨L,Y,Y.short I ho O A.a,?_⟩;generalize L.map Q91=mv at*;have G:S ++ [Cell.dic kvs] ++ [Cell.lst []]=S ++ [.dic kvs,.lst (([]:List (List Int)).map Jm)]:=by simp
 have step:Q8q [zo V,zo (.int one),zo (.int a),zo (.int to),zl,zl,zl] S=.rt (.ref (S.length + 1)) (S ++ [.dic kvs,.lst (mv.map Jm)]):=by
  have J:(S ++ [Cell.dic kvs]).length=S.length + 1:=by simp
  unfold wyΓ at w;rw [<- G] at w;generalize (S ++ [Cell.dic kvs,Cell.lst (mv.map Jm)])=S2,a1:S ++ [Cell.dic kvs]=S1,S.length=sl at*;simp! [Q8q,e,J,w]
 show Qn Q8q 7 _ S=_;unfold Qn;rw [show (([V,.int one,.int a,.int to]:List PV).map zo ++ bg (7 - [V,.int one,.int a,.int to].length) zl)=[zo V,zo (.int one),zo (.int a),zo (.int to),zl,zl,zl] from rfl,step];show fin S _ _=_;unfold fin;rw [bX (ce S _)];have hg:(S ++ [Cell.dic kvs,Cell.lst (mv.map Jm)])[S.length + 1]?=zo (.lst (mv.map Jm)):=by
  rw [D0 (),show S.length + 1 - S.length=1 by omega]; rfl
 have:fz S.length (S ++ [Cell.dic kvs,Cell.lst (mv.map Jm)]) 16 (.ref (S.length + 1))=zo (.lst (mv.map Jm)):=by
  rw [fz,bY (),hg];show (fzL S.length _ 15 _).map PV.lst=_;rw [Q97]; rfl
 rw [this]; rfl
abbrev mhΓ (X V:PV) (h t A D M:Nat) (b7:Option PV):Gam:=[zo X,zo V,zo (.int h),zo (.int t),zo (.ref A),zo (.ref D),zo (.ref M),b7]
def Q6i {k:Nat} (q:k < xs.length) (S:Q0):oIx S (.tup (xs.map .int)) (.int k)=.ok (.int (xs.getD k 0)) S:=by
 have e:oIx S (.tup (xs.map .int)) (.int k)=okO S (atI (xs.map PV.int) (k:Int)):=rfl;rw [e,zr,Sm.atI_get (Js q 0)]; rfl
def Qje {rss:zAA} {k a:Nat} (I:Qu rss h 0 k=zo a) (w:Way rss k a h b L) (hb:b<=T) (Z:1<=x):∀ m∈L.map (Uw x),W4 rss (Qu rss h 0) T m=zi:=λm G=>by
 obtain ⟨p,J,rfl⟩:=L9.mp G;obtain ⟨_,h2,⟨q,hq,B⟩,rs,hr,hij⟩:=w.facts.2.2 p J;obtain ⟨c,e,hc⟩:=Q4d ((Kc I).1.trans B);unfold W4 Uw;have Y:((p.1:Int)).toNat=p.1:=by simp
 have U:((p.2.1:Int)).toNat=p.2.1:=by simp
 simp only [Y,U,L1,decide_eq_true_eq];refine ⟨⟨by omega,by omega⟩,?_,Z,(Q2i _ _).mpr ⟨c,e,by omega⟩⟩;have O:rss.getD p.1 []=rs:=by rw [D5,hr]; rfl
 rw [O];unfold inR;exact dC.mpr ⟨_,hij,by simp⟩
def Qmw {V:PV} {rss:zAA} {T:Q0} (hV:ListAt S V (rss.map Qp)) (J:rss.length<=40) (hn:n<=8) (I:∀ rs∈rss,RsOk n rs) {t D k:Nat} (hk:k < n) (O:Qh rss h k=zo b) (a7:b<=t) (hA:(S ++ T)[A]?=zo (.dic (Qe n (Qu rss h 0)))) (U:(S ++ T)[M]?=zo (.lst (ms.map mvV))) (a8:S.length<=M) (a6:M≠A) (hl:ms.length<=100) (hx:xs.length=n) (h0:0<=xs.getD k 0) :
  ∃ (Z:Q0) (N:List Mv4),Zv (mhΓ (.tup (xs.map .int)) V h t A D M (zo (.int k))) (S ++ T)=.nx (mhΓ (.tup (xs.map .int)) V h t A D M (zo (.int k))) (S ++ Z)/\(S ++ Z)[A]?=zo (.dic (Qe n (Qu rss h 0)))/\(S ++ Z)[M]?=zo (.lst ((ms ++ N).map mvV))/\N.length<=7/\(∀ m∈N,W4 rss (Qu rss h 0) t m=zi)/\Has N (bn 0 t) (dl k (xs.getD k 0)) (dl h (xs.getD k 0)):=by
 have G:=Q6i (S:=S ++ T) (k:=k) (xs:=xs) ();have a5:∀ rs∈rss,rs.length<=100:=λrs h=>(I rs h).len
 obtain ⟨q,a4⟩:∃ q,xs.getD k 0=q:=⟨_,rfl⟩;rw [a4] at G h0 ⊢
 by_cases k0:q=0
 ·refine ⟨T,[],?_,hA,by rw [E9]; exact U,by simp,(λm hm=>by cases hm),?_⟩
  ·subst k0;unfold mhΓ;generalize xs.map PV.int=xv,S ++ T=S1 at*;simp! [Zv,G,-zg]
  ·have e:dl h q=dl k q:=funext λv=>by unfold dl; rw [k0]; split <;> split <;> rfl
   rw [e];exact Has.idle (λ_ _=>rfl) (Qb2 h0 _)
 ·have k1:0 < q:=by omega
  obtain ⟨a,Y,a2⟩:∃ a,Qu rss h 0 k=zo a/\Qu rss k a h=zo b:=by
   unfold Qh at O;cases z:Qu rss h 0 k with
   | none=>rw [z] at O; cases O
   | some a=>rw [z] at O; exact ⟨a,rfl,O⟩
  have b1:=(Q4e Y (L5 _)).1;obtain ⟨L,hw,b3,ew⟩:=Qp3 (S:=S ++ T) (Jc hV T) J a5 I hk b1 a2;have g:Um (S ++ T) (.ref A) (.int k)=.ok (.int a) (S ++ T):=by
   have:=Uq (S:=S ++ T) (V:=.ref A) ⟨_,rfl,.inl hA⟩ hk;rw [Y] at this; exact this
  have hc:J0 (Q3 0) Z1 Wc [] [zl,zo (.tup (xs.map .int)),zo (.int k)] ((L.map Q91).map Jm) (S ++ T)=.ok ((L.map (Uw q)).map mvV) (S ++ T):=by
   rw [G7,G7];refine Yw (Jm ∘ Q91) (mvV ∘ Uw q) (by simp) λp hp=>⟨_,rfl,?_⟩
   show Wc [zo (.tup [.int (p.1:Nat),.int (p.2.1:Nat),.int (p.2.2:Nat)]),zo (.tup (xs.map .int)),zo (.int k)] (S ++ T)=.ok (.tup [.int (p.1:Nat),.int (p.2.1:Nat),.int (p.2.2:Nat),.int q]) (S ++ T);generalize xs.map PV.int=xv,S ++ T=S1 at*;simp! [Wc,G,Qv,-zg]
  have a3:=(O0.mp U).1;have B:(S ++ T).set M (.lst ((ms ++ L.map (Uw q)).map mvV))=S ++ T.set (M - S.length) (.lst ((ms ++ L.map (Uw q)).map mvV)):=by
   rw [L0 _ _ a8]
  refine ⟨T.set (M - S.length) (.lst ((ms ++ L.map (Uw q)).map mvV)),L.map (Uw q),?_,?_,?_,by rw [O3]; omega,Qje Y hw a7 (),hw.has () (L5 _) ()⟩
  ·rw [<- B];have a9:Z9 (S ++ T) (.ref M)=zo (ms.map mvV):=by simp [U]
   have a1:((L.map Q91).map Jm).length<=1000000:=by rw [O3,O3]; omega
   have b0:(ms.map mvV).length + ((L.map (Uw q)).map mvV).length<=1000000:=by rw [O3,O3,O3]; omega
   rw [F5];unfold mhΓ;generalize xs.map PV.int=xv,b2:S ++ T=S1,(L.map (Uw q)).map mvV=mk,ms.map mvV=mm,(L.map Q91).map Jm=mw at*;simp! [Zv,G,k1,a9,g,ew,a1,Qv,Jp,hc,Xp,qm,U,b0,-jt,-zg]
  ·rw [<- B,E4 a6]; exact hA
  ·rw [<- B]; exact D6 a3
theorem Q4q {α:Type} {R:α->α->Prop}:∀ {l:List α},l.Pairwise R->∀ z∈l.zip (l.drop 1),R z.1 z.2
 | [],_,z,hz=>by cases hz
 | [a],_,z,hz=>by cases hz
 | a :: b :: l,h,z,hz=>by
  have hz:z∈(a,b) :: (b :: l).zip ((b :: l).drop 1):=hz;obtain ⟨h1,h2⟩:=F9.mp h;rcases D3.mp hz with rfl | hz
  ·exact h1 b (by simp)
  ·exact Q4q h2 z hz
def mvJ:List Int->Mv4
 | [a,b,c,d]=>⟨a,b,c,d⟩
 | _=>⟨0,0,0,0⟩
def Q4w (ms:List Mv4):List Mv4:=(xc (ms.map mvI)).map mvJ
def Qfq (ms:List Mv4):(xc (ms.map mvI)).map Jm=(Q4w ms).map mvV:=by
 unfold Q4w;rw [G7];refine M9 λe q=>?_
 obtain ⟨m,_,rfl⟩:=L9.mp ((Vx _).mem_iff.mp q);rfl
def Qd1 (ms:List Mv4):(Q4w ms).Perm ms:=by
 have:=(Vx (ms.map mvI)).map mvJ;rw [G7,show (mvJ ∘ mvI)=id from funext λm=>by cases m; rfl,fb] at this
 exact this
def Qd2 (ms:List Mv4):Up (Q4w ms)=zb:=by
 have I:(Q4w ms).Pairwise λa b=>a.t<=b.t:=by
  unfold Q4w;rw [dR];refine (Ks (ms.map mvI)).imp_of_mem λ{a b} ha hb B=>?_
  obtain ⟨m,_,rfl⟩:=L9.mp ((Vx _).mem_iff.mp ha);obtain ⟨G,_,rfl⟩:=L9.mp ((Vx _).mem_iff.mp hb);show m.t<=G.t;have B:Vb (mvI G) (mvI m)=zb:=B;unfold mvI at B;rw [Vb] at B
  by_cases q:G.t < m.t
  ·simp [q] at B; omega
  ·omega
 unfold Up;rw [eS];intro z hz;have:=Q4q I z hz;simp; omega
def Q5s {t k:Nat} (h:k∈Y7 n f t):k < n/\∃ b,f k=zo b/\b<=t:=by
 unfold Y7 at h;obtain ⟨h1,h2⟩:=cF.mp h;exact ⟨by simpa using h1,(Q2i _ _).mp h2⟩
def Kb (n t:Nat) (f:zAH):(Y7 n f t).length<=n:=by
 unfold Y7;have:=eJ (λk=>byB (f k) t) (bc n)
 simpa using this
def Q92 (n t:Nat) (f:zAH):(Y7 n f t).Nodup:=by
 unfold Y7;exact fe.sublist iE
structure MH (rss:zAA) (h t:Nat) (xs:List Int) (pre:List Nat) (ms:List Mv4):Prop where
 len:ms.length<=7 * pre.length
 may:∀ m∈ms,W4 rss (Qu rss h 0) t m=zi
 has:Has ms (bn 0 t) (λv=>if v∈pre then xs.getD v 0 else 0) (dl h ((pre.map λk=>xs.getD k 0).sum))
def MH.nil (rss:zAA) (h t:Nat) (xs:List Int):MH rss h t xs [] []:=by
 refine ⟨by simp,(λm q=>by cases q),?_⟩;have G:(λv=>if v∈([]:List Nat) then xs.getD v 0 else 0)=λ_=>(0:Int):=funext λv=>by simp
 have B:dl h ((([]:List Nat).map λk=>xs.getD k 0).sum)=λ_=>(0:Int):=funext λv=>by unfold dl; simp
 rw [G,B];exact Has.idle (λ_ _=>rfl) (λ_=>bq _)
def MH.more {rss:zAA} {t:Nat} {pre:List Nat} (B:MH rss h t xs pre ms) {k:Nat} (O:k∉pre) (U:N.length<=7) (J:∀ m∈N,W4 rss (Qu rss h 0) t m=zi) (hs:Has N (bn 0 t) (dl k (xs.getD k 0)) (dl h (xs.getD k 0))):MH rss h t xs (pre ++ [k]) (ms ++ N):=by
 refine ⟨by rw [D4,D4]; have:=B.len; simp only [E7,cH]; omega,λm G=>?_,B.has.add hs (λv=>?_) (λv=>?_)⟩
 ·rcases E6.mp G with q | q
  ·exact B.may m q
  ·exact J m q
 ·unfold dl
  by_cases q:v=k
  ·subst q; simp [O]
  ·by_cases I:v∈pre
   ·simp [q,I]
   ·simp [q,I]
 ·unfold dl;rw [F5,dJ]
  split <;> simp
def MH.fin' {rss:zAA} (I:∀ rs∈rss,RsOk n rs) {t:Nat} (ht:t<=rss.length) (hx:xs.length=n) (h0:∀ k,0<=xs.getD k 0) (m:MH rss h t xs (Y7 n (Qh rss h) t) ms) {B:List Mv4} (Y:B.Perm ms):∃ ys,Xv B (bc t) xs=zo ys/\X6 n (Qh rss h) t xs<=ys.getD h 0:=by
 obtain ⟨q,G⟩:∃ q,Y7 n (Qh rss h) t=q:=⟨_,rfl⟩;have U:X6 n (Qh rss h) t xs=(q.map λk=>xs.getD k 0).sum:=by unfold X6; rw [G]
 rw [U];rw [G] at m;have r:Has [] (bn 0 t) (λv=>if v∈q then 0 else xs.getD v 0) (λv=>if v∈q then 0 else xs.getD v 0):=Has.idle (λ_ _=>rfl) λv=>by split; exact bq _; exact h0 v
 have s:=m.has.add r (x:=λv=>xs.getD v 0) (y:=λv=>dl h ((q.map λk=>xs.getD k 0).sum) v + if v∈q then 0 else xs.getD v 0) (λv=>by split <;> simp) (λ_=>rfl)
 rw [E9] at s;have Z:=s.perm Y.symm;rw [<- fg] at Z;have O:∀ m∈B,InN n m:=λm' J=>Q13 I () (m.may m' (Y.mem_iff.mp J))
 obtain ⟨ys,e1,e2⟩:=Has.toL O hx Z;refine ⟨ys,e1,?_⟩;rw [e2];have:dl h ((q.map λk=>xs.getD k 0).sum) h=(q.map λk=>xs.getD k 0).sum:=by unfold dl; rw [bX rfl]
 rw [this];have:=h0 h
 split <;> omega
def Qjh (ms:List Mv4):Q2v (ms.map mvV)=zo (ms.map mvI):=by
 induction ms with
 | nil=>rfl
 | cons m ms q=>
  rw [O5,O5];show (match Ui ((mvI m).map PV.int) with | some (n :: ns)=>(Q2v (ms.map mvV)).map ((n :: ns) :: ·) | _=>zl)=_
  rw [q]; rfl
structure Home (rss:zAA) (n h t:Nat) (xs:List Int) (ms:List Mv4):Prop where
 len:ms.length<=63
 may:∀ m∈ms,W4 rss (Qu rss h 0) t m=zi
 desc:Up ms=zb
 has:∃ ys,Xv ms (bc t) xs=zo ys/\X6 n (Qh rss h) t xs<=ys.getD h 0
def Q72 (q:xs.length=n) (S:Q0):J4 S [.tup (xs.map .int)]=.ok (.int n) S:=by simp [q]
def Q54 {V:PV} {rss:zAA} (hV:ListAt S V (rss.map Qp)) (a6:rss.length<=40) {h t:Nat} (O:∀ rs∈rss,RsOk n rs) (hn:n<=8) (ht:t<=rss.length) (hx:xs.length=n) (h0:∀ k,0<=xs.getD k 0) :
  ∃ (T:Q0) (ms:List Mv4),Home rss n h t xs ms/\Vu [.tup (xs.map .int),V,.int h,.int t] S=.ok (.ref (S ++ T).length) ((S ++ T) ++ [.lst (ms.map mvV)]):=by
 have Z:∀ rs∈rss,rs.length<=100:=λrs h=>(O rs h).len
 obtain ⟨kvs,e1⟩:=Q1b hV () Z (n:=n) (house:=h) hn;obtain ⟨A,hA⟩:∃ A,Qe n (Qu rss h 0)=A:=⟨_,rfl⟩;obtain ⟨S1,q⟩:∃ S1,S ++ [Cell.dic kvs,Cell.dic A]=S1:=⟨_,rfl⟩;obtain ⟨ex,e2⟩:=qp (S:=S1) (by rw [<- q]; exact Jc hV _) () Z (n:=n) (house:=h) hn;obtain ⟨S2,B⟩:∃ S2,S1 ++ Cell.dic (Qe n (Qh rss h)) :: ex=S2:=⟨_,rfl⟩;have l1:S1.length=S.length + 2:=by rw [<- q]; simp
 have l2:S1.length < S2.length:=by rw [<- B]; simp
 rw [hA,q] at e1;rw [B] at e2;have h1:S1[S.length + 1]?=zo (.dic A):=by rw [<- q,D0 (),show S.length + 1 - S.length=1 by omega]; rfl
 have h2:S2[S.length + 1]?=zo (.dic A):=by rw [<- B,O4 ()]; exact h1
 have b2:S2[S1.length]?=zo (.dic (Qe n (Qh rss h))):=by rw [<- B]; simp
 have b0:(S2 ++ [Cell.lst []])[S1.length]?=zo (.dic (Qe n (Qh rss h))):=by rw [O4 l2]; exact b2
 have e3:=Qhz b0 hn t;obtain ⟨Hm,a7⟩:∃ Hm,Qe n (Qh rss h)=Hm:=⟨_,rfl⟩;obtain ⟨G,I⟩:∃ G,(S2 ++ [Cell.lst []]).set S1.length (.frd Hm)=S ++ G:=by
  refine ⟨([Cell.dic kvs,Cell.dic A] ++ (Cell.dic Hm :: ex) ++ [Cell.lst []]).set 2 (.frd Hm),?_⟩;rw [<- B,a7,<- q,F4,F4,L0 _ _ (by simp)];congr 2;simp
 have b8:(S ++ G)[S.length + 1]?=zo (.dic A):=by
  rw [<- I,E4 (),O4 ()]; exact h2
 have c0:(S ++ G)[S2.length]?=zo (.lst (([]:List Mv4).map mvV)):=by
  rw [<- I,E4 ()]; simp
 rw [a7,I] at e3;obtain ⟨c5,st',e4,T,ms,b7,rfl,rfl,kA,kM,Y⟩:=Q61 (g:=λk:Nat=>PV.int (k:Int)) (xs:=Y7 n (Qh rss h) t) (ga:=Q3 7) (body:=Zv) (w:=[]) (Γ:=mhΓ (.tup (xs.map .int)) V h t (S.length + 1) S1.length S2.length zl) (st:=S ++ G)
  (λpre Γ st'=>∃ T ms b7,Γ=mhΓ (.tup (xs.map .int)) V h t (S.length + 1) S1.length S2.length b7/\st'=S ++ T/\(S ++ T)[S.length + 1]?=zo (.dic A)/\(S ++ T)[S2.length]?=zo (.lst (cZ mvV ms))/\MH rss h t xs pre ms)
  (λ_ _ _ _=>by simp)
  (λpre k c1 Γ st' U ⟨T,ms,b7,g1,g2,kA,kM,Y⟩=>by
   subst g1; subst g2;have a4:k∈Y7 n (Qh rss h) t:=by rw [U]; simp
   obtain ⟨hk,b,hb,b1⟩:=Q5s a4;have a5:=Q92 n t (Qh rss h);rw [U] at a5;have a8:k∉pre:=λz=>(dU.mp a5).2.2 k z k (by simp) rfl
   have c3:pre.length<=7:=by
    have h1:=Kb n t (Qh rss h);rw [U,D4,E7] at h1;omega
   rw [<- hA] at kA;obtain ⟨T',N,q1,q2,q3,q4,q5,q6⟩:=Qmw hV a6 hn O (h:=h) (t:=t) (D:=S1.length) hk hb b1 kA kM () () (by have:=Y.len; omega) hx (h0 k);rw [hA] at q2;exact ⟨_,rfl,_,_,q1,T',ms ++ N,_,rfl,rfl,q2,q3,Y.more a8 q4 q5 q6⟩)
  ⟨G,[],zl,rfl,rfl,b8,c0,MH.nil _ _ _ _⟩
 have b6:ms.length < 64:=by have:=Kb n t (Qh rss h); have:=Y.len; omega
 have J:=Qd1 ms;refine ⟨T,Q4w ms,⟨by rw [J.length_eq]; omega,λm hm=>Y.may m (J.mem_iff.mp hm),Qd2 ms,Y.fin' O ht hx h0 J⟩,?_⟩;have b4:Q4j (S ++ T) [.ref S2.length]=.ok (.ref (S ++ T).length) (S ++ T ++ [.lst ((Q4w ms).map mvV)]):=by
  unfold Q4j;have:Z9 (S ++ T) (.ref S2.length)=zo (ms.map mvV):=by simp [kM]
  simp only [this,Qjh];rw [bX (by rw [O3]; exact b6),Qfq]
 have b9:=Q72 hx;have b3:(Jb (Y7 n (Qh rss h) t)).length<=1000000:=by unfold Jb; rw [O3]; have:=Kb n t (Qh rss h); omega
 have e4:Jn (Q3 7) Zv [] (Jb (Y7 n (Qh rss h) t)) (mhΓ (.tup (xs.map .int)) V h t (S.length + 1) S1.length S2.length zl) (S ++ G)=.nx (mhΓ (.tup (xs.map .int)) V h t (S.length + 1) S1.length S2.length b7) (S ++ T):=e4;have step:Vf [zo (.tup (xs.map .int)),zo V,zo (.int h),zo (.int t),zl,zl,zl,zl] S=.rt (.ref (S ++ T).length) (S ++ T ++ [.lst ((Q4w ms).map mvV)]):=by
  unfold mhΓ at e4;generalize (Q4w ms).map mvV=ov,Jb (Y7 n (Qh rss h) t)=nv,xs.map PV.int=xv,c4:S ++ T=S9,S ++ G=S4,S.length + 1=a1,S1.length=a2,b5:S2.length=a3 at*;generalize S9 ++ [Cell.lst ov]=c2,S9.length=a9 at*;simp! [Vf,b9,e1,e2,b5,e3,b3,Qv,e4,b4,-Q4k]
 show Jx Vf 8 _ S=_;unfold Jx;rw [show (([.tup (xs.map .int),V,.int h,.int t]:List PV).map zo ++ bg (8 - [PV.tup (xs.map .int),V,.int h,.int t].length) zl)=[zo (.tup (xs.map .int)),zo V,zo (.int h),zo (.int t),zl,zl,zl,zl] from rfl,step]
theorem Q99 {α:Type} (g:α->PV) (J:List α->Gam->Prop) (Rt:PV->Q0->Prop) {ga:GA} {body:MS} {st:Q0}:∀ (xs pre:List α),(∀ p x q Γ,pre ++ xs=p ++ x :: q->J p Γ->∃ G,ga (g x) Γ=zo G/\((∃ B,J (p ++ [x]) B/\body G st=.nx B st)\/∃ v st',Rt v st'/\body G st=.rt v st')) ->
  ∀ Γ,J pre Γ->(∃ I,J (pre ++ xs) I/\Jn ga body [] (xs.map g) Γ st=.nx I st)\/∃ v st',Rt v st'/\Jn ga body [] (xs.map g) Γ st=.rt v st'
 | [],pre,_,Γ,O=>.inl ⟨Γ,by rw [E9]; exact O,by simp [Jn]⟩
 | x :: xs,pre,h,Γ,O=>by
  obtain ⟨G,h1,h2⟩:=h pre x xs Γ rfl O;rw [O5,Jn,bX (by simp),h1];rcases h2 with ⟨B,U,Y⟩ | ⟨v,st',r,e⟩
  ·simp only [Y];have:=Q99 g J Rt xs (pre ++ [x]) (λp y q Γ e Z=>h p y q Γ (by rw [<- e,F4]; rfl) Z) B U
   rw [F4] at this;exact this
  ·simp only [e];exact .inr ⟨v,st',r,rfl⟩
def Gth (rss:zAA) (n h:Nat) (xs:List Int) (am:Int) (S S':Q0) (v:PV):Prop:=
 (∃ (t M:Nat) (ms:List Mv4),t<=rss.length/\am<=X6 n (Qh rss h) t xs/\(∀ t',t' < t->¬ am<=X6 n (Qh rss h) t' xs)/\Home rss n h t xs ms/\v=.tup [.str "gathered",.int t,.ref M]/\S'[M]?=zo (.lst (ms.map mvV))/\S.length<=M) \/
 ((∀ t,t<=rss.length->¬ am<=X6 n (Qh rss h) t xs)/\∃ a b:Nat,v=.tup [.str "short",.ref a,.ref b]/\S'[a]?=zo (.dic (Qe n (Qu rss h 0)))/\S'[b]?=zo (.dic (Qe n (Qh rss h)))/\S.length<=a/\S.length<=b)
def Qdb {m:Nat} {p:List Nat} {x:Nat} {q:List Nat} (h:bc m=p ++ x :: q):p=bc x/\x < m:=by
 have B:(bc m)[p.length]?=zo x:=by rw [h]; simp
 have hl:=(O0.mp B).1;rw [F7] at hl;rw [L8 hl] at B;cases B;refine ⟨?_,hl⟩;have:p=(bc m).take p.length:=by rw [h]; simp
 rw [this,List.take_range,fX ()];simp
def Qtx {m:MS} {q:Gam} (h:m Γ S=.nx q S1) (h2:Ue S S1 S.length=S2):jm m Γ S=.nx q S2:=by rw [jk,h]; show SR.nx _ _=_; rw [h2]
def Qtw {m:MS} (h:m Γ S=.rt v S1):jm m Γ S=.rt v S1:=by rw [jk,h]
def gei (S:Q0) {a b:Int} {c:Bool} (h:decide (b<=a)=c):(oI λa b=>.bl (decide (b<=a))) S (.int a) (.int b)=.ok (.bl c) S:=congrArg (λx=>Res.ok (PV.bl x) S) h
def Q1m {V:PV} {rss:zAA} (hV:ListAt S V (rss.map Qp)) (a7:rss.length<=40) (Z:∀ rs∈rss,RsOk n rs) (b1:1<=n) (hn:n<=8) (hh:h < n) (hx:xs.length=n) (h0:∀ k,0<=xs.getD k 0) (am:Int) :
  ∃ v T,Wf [.tup (xs.map .int),V,.int h,.int am] S=.ok v (S ++ T)/\Gth rss n h xs am S (S ++ T) v:=by
 have a3:∀ rs∈rss,rs.length<=100:=λrs h=>(Z rs h).len
 have nd:=Qc0 hV () Z b1 hn hh;obtain ⟨ex,e2⟩:=qp hV () a3 (n:=n) (house:=h) hn;obtain ⟨B,U⟩:∃ B,Qe n (Qh rss h)=B:=⟨_,rfl⟩;have hd:(S ++ Cell.dic (Qe n (Qh rss h)) :: ex)[S.length]?=zo (.dic (Qe n (Qh rss h))):=by simp
 have b0:=Q72 hx;have Y:(S ++ Cell.dic B :: ex).set S.length (.frd B)=S ++ Cell.frd B :: ex:=by
  rw [L0 _ _ (O6 _),cJ]; rfl
 have th:Ue (S ++ Cell.dic B :: ex) (S ++ Cell.frd B :: ex) (S ++ Cell.dic B :: ex).length=S ++ Cell.dic B :: ex:=by
  rw [U] at hd;rw [<- Y,za hd,bX (by simp)]
 have a5:J4 (S ++ Cell.dic B :: ex) [V]=.ok (.int rss.length) (S ++ Cell.dic B :: ex):=by
  have:=(Jc hV (Cell.dic B :: ex)).len;rw [O3] at this;exact this
 have a4:=Q99 (g:=λk:Nat=>PV.int (k:Int)) (J:=λpre Γ=>(∃ b5,Γ=[zo (.tup (xs.map .int)),zo V,zo (.int h),zo (.int am),zo (.ref S.length),b5])/\∀ t∈pre,¬ am<=X6 n (Qh rss h) t xs) (Rt:=λv st'=>∃ T,st'=S ++ T/\Gth rss n h xs am S (S ++ T) v) (ga:=Q3 5) (body:=Vq) (st:=S ++ Cell.dic B :: ex) (bc (rss.length + 1)) [] (λp t b4 Γ a8 ⟨⟨b5,e⟩,O⟩=>by
  subst e;rw [dI] at a8;obtain ⟨b3,b7⟩:=Qdb a8;have e3:=Qhz hd hn t;rw [U,Y] at e3;have hc:J0 (Q3 0) Z1 X7 [] [zl,zo (.tup (xs.map .int))] (Jb (Y7 n (Qh rss h) t)) (S ++ Cell.frd B :: ex)=.ok (((Y7 n (Qh rss h) t).map λk=>xs.getD k 0).map PV.int) (S ++ Cell.frd B :: ex):=by
   rw [G7];refine Yw _ (PV.int ∘ λk=>xs.getD k 0) (by simp) λk hk=>⟨_,rfl,?_⟩
   have:=Q6i (xs:=xs) (k:=k) (by rw [hx]; exact (Q5s hk).1) (S ++ Cell.frd B :: ex);show _=Res.ok (PV.int (xs.getD k 0)) (S ++ Cell.frd B :: ex);generalize S ++ Cell.frd B :: ex=S9,xs.getD k 0=xk,xs.map PV.int=xv at*;simp! [X7,this,-zg]
  have I:(Vp λns=>zo (.int ns.sum)) (S ++ Cell.frd B :: ex) [.lst (((Y7 n (Qh rss h) t).map λk=>xs.getD k 0).map PV.int)]=.ok (.int (X6 n (Qh rss h) t xs)) (S ++ Cell.frd B :: ex):=by
   rw [X9 _ _ _ (λy=>y)];show Res.ok (PV.int (cZ (λy=>y) ((Y7 n (Qh rss h) t).map λk=>xs.getD k 0)).sum) _=_
   rw [iF]; rfl
  have a6:(Jb (Y7 n (Qh rss h) t)).length<=1000000:=by unfold Jb; rw [O3]; have:=Kb n t (Qh rss h); omega
  have b6:(((Y7 n (Qh rss h) t).map λk=>xs.getD k 0).map PV.int).length<=1000000:=by rw [O3,O3]; have:=Kb n t (Qh rss h); omega
  obtain ⟨T9,ms,a1,em⟩:=Q54 (S:=S ++ Cell.frd B :: ex) (Jc hV _) a7 Z hn (h:=h) (t:=t) () hx h0;refine ⟨_,rfl,?_⟩;show (∃ b2,_/\Vq [zo (.tup (xs.map .int)),zo V,zo (.int h),zo (.int am),zo (.ref S.length),zo (.int t)] (S ++ Cell.dic B :: ex)=.nx b2 (S ++ Cell.dic B :: ex))\/∃ v st',_/\Vq [zo (.tup (xs.map .int)),zo V,zo (.int h),zo (.int am),zo (.ref S.length),zo (.int t)] (S ++ Cell.dic B :: ex)=.rt v st'
  by_cases q:am<=X6 n (Qh rss h) t xs
  ·refine .inr ⟨.tup [.str "gathered",.int t,.ref (S ++ Cell.frd B :: ex ++ T9).length],S ++ Cell.frd B :: ex ++ T9 ++ [.lst (ms.map mvV)],⟨Cell.frd B :: ex ++ T9 ++ [.lst (ms.map mvV)],by simp,.inl ⟨t,(S ++ Cell.frd B :: ex ++ T9).length,ms,by omega,q,λt' a2=>O t' (by rw [b3]; simpa using a2),a1,rfl,?_,by simp⟩⟩,?_⟩
   ·rw [show S ++ (Cell.frd B :: ex ++ T9 ++ [Cell.lst (ms.map mvV)])=(S ++ Cell.frd B :: ex ++ T9) ++ [Cell.lst (ms.map mvV)] by simp];rw [D0 (O6 _),cJ]; rfl
   ·exact Qtw (Uj (Qc (Qb (Ji (Q4 (qz (K1 (Xw (Qi (n:=2) rfl rfl e3) rfl a6) hc)) rfl) I) rfl (gei _ (ba q)))) (Q0u (Qfe (Q4 rfl (Q4 rfl (Q4 (Qi (n:=4) rfl rfl em) rfl))) (show 3<=1000000 by decide))))
  ·refine .inl ⟨[zo (.tup (xs.map .int)),zo V,zo (.int h),zo (.int am),zo (.ref S.length),zo (.int t)],⟨⟨_,rfl⟩,λt' a2=>?_⟩,?_⟩
   ·rcases E6.mp a2 with z | z
    ·exact O t' z
    ·rw [G6.mp z]; exact q
   ·exact Qtx (Y2 (Qc (Qb (Ji (Q4 (qz (K1 (Xw (Qi (n:=2) rfl rfl e3) rfl a6) hc)) rfl) I) rfl (gei _ (bZ q)))) rfl) th) [zo (.tup (xs.map .int)),zo V,zo (.int h),zo (.int am),zo (.ref S.length),zl] ⟨⟨_,rfl⟩,λt ht=>by cases ht⟩
 rw [<- Yn] at a4;rw [U] at e2;obtain ⟨kvs,e5⟩:=Q1b (S:=S ++ Cell.dic B :: ex) (Jc hV _) () a3 (n:=n) (house:=h) hn;have go:∀ v T,qa [zo (.tup (xs.map .int)),zo V,zo (.int h),zo (.int am),zl,zl] S=.rt v (S ++ T)->Wf [.tup (xs.map .int),V,.int h,.int am] S=.ok v (S ++ T):=λv T e=>by
  show Jx qa 6 _ S=_;unfold Jx;rw [show (([.tup (xs.map .int),V,.int h,.int am]:List PV).map zo ++ bg (6 - [PV.tup (xs.map .int),V,.int h,.int am].length) zl)=[zo (.tup (xs.map .int)),zo V,zo (.int h),zo (.int am),zl,zl] from rfl,e]
 have G:=b0 S;have a9:=b0 (S ++ Cell.dic B :: ex);rcases a4 with ⟨b8,⟨⟨b5,rfl⟩,O⟩,e4⟩ | ⟨v,st',⟨T,rfl,hg⟩,e4⟩
 ·refine ⟨.tup [.str "short",.ref ((S ++ Cell.dic B :: ex).length + 1),.ref S.length],Cell.dic B :: ex ++ [.dic kvs,.dic (Qe n (Qu rss h 0))],go _ _ ?_,.inr ⟨λt ht=>O t (by simp; omega),_,_,rfl,?_,?_,by simp; omega,O6 _⟩⟩
  ·rw [<- F4];exact Q8 (Qb1 (Qi (n:=3) (Q4 (Ji rfl G) rfl) rfl nd)) (Q8 (Jj (Qi (n:=3) (Q4 (Ji rfl G) rfl) rfl e2)) (Q8 (Wu (Q3g (n:=rss.length + 1) () (Qb (Ji rfl a5) rfl rfl)) e4) (Q0u (Qfe (Q4 rfl (Q4 (Qi (n:=3) (Q4 (Ji rfl a9) rfl) rfl e5) rfl)) (show 3<=1000000 by decide)))))
  ·rw [<- F4,D0 (),show (S ++ Cell.dic B :: ex).length + 1 - (S ++ Cell.dic B :: ex).length=1 by omega]; rfl
  ·rw [U]; simp
 ·refine ⟨v,T,go v T ?_,hg⟩;exact Q8 (Qb1 (Qi (n:=3) (Q4 (Ji rfl G) rfl) rfl nd)) (Q8 (Jj (Qi (n:=3) (Q4 (Ji rfl G) rfl) rfl e2)) (Vd (Wu (Q3g (n:=rss.length + 1) () (Qb (Ji rfl a5) rfl rfl)) e4)))
theorem Qbm:∀ {xs:List Int} {k:Nat} (_:k < xs.length) (v:Int),(xs.set k v).sum=xs.sum + v - xs.getD k 0
 | x :: xs,0,_,v=>by simp; omega
 | x :: xs,k + 1,h,v=>by
  have:=Qbm (xs:=xs) (k:=k) (by simpa using h) v;simp only [List.set_cons_succ,E5,iG] at this ⊢;omega
def Q9q {a:Int} (h0:0<=a) (hl:a < xs.length) (d:Int):(Yx xs a d).sum=xs.sum + d:=by
 unfold Yx;rw [Qbm ()];omega
theorem yq:∀ {xs:List Int} (_:∀ k,0<=xs.getD k 0) (k:Nat),xs.getD k 0<=xs.sum
 | [],_,k=>by simp
 | x :: xs,h,0=>by
  have q:0<=x:=h 0;have B:=yq (xs:=xs) (λk=>by have:=h (k + 1); simpa using this) 0
  have h1:0<=xs.getD 0 0:=by have:=h 1; simpa using this
  simp only [List.getD_cons_zero,E5];omega
 | x :: xs,h,k + 1=>by
  have q:0<=x:=h 0;have B:=yq (xs:=xs) (λk=>by have:=h (k + 1); simpa using this) k
  simp only [iG,E5];omega
structure SMo (ns:List Int) (n:Nat) (f:zAH) (rss:zAA) (L R A Hh Mm:Nat) (S:Q0) (ys:List Int) (ms:List Mv4):Prop where
 T:TapeAt S L ns
 R:S[R]?=zo (.lst (rss.map Qp))
 A:S[A]?=zo (.dic (Qe n f))
 H:S[Hh]?=zo (.lst (ys.map .int))
 hl:ys.length=n
 pos:∀ k,0<=ys.getD k 0
 sum:ys.sum<=800000000000000000000000000048
 M:S[Mm]?=zo (.lst (ms.map mvV))
def SMo.mv {rss:zAA} {L:Nat} (s:SMo ns n f rss L R A Hh Mm S ys ms) (J:R≠L) (G:A≠L) (I:Hh≠L) (B:Mm≠L) (q:TapeAt S' L ns) (m:Mv L S S'):SMo ns n f rss L R A Hh Mm S' ys ms:=
 ⟨q,by rw [m.keep R J]; exact s.R,by rw [m.keep A G]; exact s.A,by rw [m.keep Hh I]; exact s.H,s.hl,s.pos,s.sum,by rw [m.keep Mm B]; exact s.M⟩
abbrev smΓ (L:Nat) (X:PV) (R A Hh Mm t:Nat) (one:PV) (Lf st i j:Nat) (b12:Option PV):Gam:=[zo (.ref L),zo X,zo (.ref R),zo (.ref A),zo (.ref Hh),zo (.ref Mm),zo (.int t),zo one,zo (.ref Lf),zo (.int st),zo (.int i),zo (.int j),b12]
def LeL (n:Nat) (ls ys:List Int):Prop:=ls.length=n/\∀ k,0<=ls.getD k 0/\ls.getD k 0<=ys.getD k 0
structure Dis (L R A Hh Mm Lf:Nat):Prop where
 a:R≠L/\A≠L/\Hh≠L/\Mm≠L/\Lf≠L
 b:Hh≠R/\Hh≠A/\Hh≠Mm/\Hh≠Lf
 c:Mm≠R/\Mm≠A/\Mm≠Lf
 d:Lf≠R/\Lf≠A
structure SmN (f:zAH) (t i j:Nat) (N:List Mv4):Prop where
 len:N.length<=1
 ok:∀ m∈N,m.t=(t:Int)/\m.i=(i:Int)/\m.j=(j:Int)/\1<=m.k/\byB (f i) t=zi
def SmN.nil {t i:Nat}:SmN f t i j []:=⟨by simp,λm q=>by cases q⟩
def Q2q (x:Nat->Int) (k:Nat):x k=x k - Qw [] k:=by show x k=x k - 0; omega
def Q0n (x:Nat->Int) (k:Nat):x k=x k - Qw [] k + Yp [] k:=by show x k=x k - 0 + 0; omega
def Qk3 {rss:zAA} {L B:Nat} (D:Dis L R A Hh Mm B) (s:SMo ns n f rss L R A Hh Mm S ys ms) {G:List Int} (hL:S[B]?=zo (.lst (G.map .int))) (I:LeL n G ys) (c6:ms.length<=10000) {X one:PV} {t st i:Nat} (hi:i < n) (hj:j < n) (b12:Option PV) :
  ∃ b1 S' J N O,J8 (smΓ L X R A Hh Mm t one B st i j b12) S=.nx (smΓ L X R A Hh Mm t one B st i j b1) S'/\SMo ns n f rss L R A Hh Mm S' J (ms ++ N)/\S'[B]?=zo (.lst (cZ PV.int O))/\LeL n O J/\SmN f t i j N/\(∀ k,O.getD k 0=G.getD k 0 - Qw N k)/\∀ k,J.getD k 0=ys.getD k 0 - Qw N k + Yp N k:=by
 have g:Um S (.ref A) (.int i)=.ok (moV (f i)) S:=Uq ⟨_,rfl,.inl s.A⟩ hi;have a9:oIx S (.ref B) (.int i)=.ok (.int (G.getD i 0)) S:=X3 (xs:=G.map .int) (.inr (.inr ⟨_,rfl,hL⟩)) (by rw [E2,Js (show i < G.length by rw [I.1]; exact hi) 0]; rfl);have same:J8 (smΓ L X R A Hh Mm t one B st i j b12) S=.nx (smΓ L X R A Hh Mm t one B st i j b12) S->∃ b1 S' J N O,J8 (smΓ L X R A Hh Mm t one B st i j b12) S=.nx (smΓ L X R A Hh Mm t one B st i j b1) S'/\SMo ns n f rss L R A Hh Mm S' J (ms ++ N)/\S'[B]?=zo (.lst (cZ PV.int O))/\LeL n O J/\SmN f t i j N/\(∀ k,O.getD k 0=G.getD k 0 - Qw N k)/\∀ k,J.getD k 0=ys.getD k 0 - Qw N k + Yp N k:=λe=>⟨_,S,ys,[],G,e,by rw [E9]; exact s,hL,I,SmN.nil,Q2q _,Q0n _⟩
 cases z:f i with
 | none=>
  rw [z] at g;exact same (Y2 (Q0m (Qc (Qb (Vm rfl rfl g) rfl rfl))) rfl)
 | some b=>
  rw [z] at g;have g:Um S (.ref A) (.int i)=.ok (.int b) S:=g
  by_cases q1:b<=t
  ·have c2:=Qp0 S (show (b:Int)<=t by omega)
   by_cases q2:0 < G.getD i 0
   ·obtain ⟨d,S1,hd,T1,M1,e1⟩:=Z5 s.T 3 (by decide) (by decide);rw [show ((3:Nat):Int)=3 from rfl] at e1;have s1:=s.mv D.a.1 D.a.2.1 D.a.2.2.1 D.a.2.2.2.1 T1 M1;have a2:S1[B]?=zo (.lst (G.map .int)):=by rw [M1.keep B D.a.2.2.2.2]; exact hL
    by_cases q3:d=0
    ·subst q3;refine ⟨b12,S1,ys,[],G,?_,by rw [E9]; exact s1,a2,I,SmN.nil,Q2q _,Q0n _⟩;rw [show ((0:Nat):Int)=0 from rfl] at e1;exact Y2 (Yi (Qc (Qb (Vm rfl rfl g) rfl rfl)) (Yi (Qc (Qb (Vm rfl rfl g) rfl c2)) (Yi (Qc (Qb (Qb rfl rfl a9) rfl (Q1k S q2))) (Qc (Qb (Qi (n:=2) rfl rfl e1) rfl rfl))))) rfl
    ·have c1:(0:Int) < d:=by omega
     obtain ⟨Z,a1⟩:∃ Z:Nat,G.getD i 0=Z:=⟨(G.getD i 0).toNat,by omega⟩;have c0:Z < 1267650600228229401496703205376:=by
      have h1:=(I.2 i).2;have h2:=yq s.pos i;have h3:=s.sum;omega
     have b2:∀ S2,S2[B]?=zo (.lst (G.map .int))->oIx S2 (.ref B) (.int i)=.ok (.int Z) S2:=λS2 h=>by
      rw [<- a1];exact X3 (xs:=G.map .int) (.inr (.inr ⟨_,rfl,h⟩)) (by rw [E2,Js (show i < G.length by rw [I.1]; exact hi) 0]; rfl)
     obtain ⟨q,S3,m1,m2,T3,M3,t2⟩:∃ (q:Int) (S3:Q0),1<=q/\q<=Z/\TapeAt S3 L ns/\Mv L S1 S3/\J9 (toB (mOp oEq (Qg 2 Qf (Q2 (Q1 0) (Q2 (mC (.int 2)) Q7))) (mC (.int 0)))) (Qr 12 (mOp Y1 (mC (.int 1)) (Qg 2 Qf (Q2 (Q1 0) (Q2 (mOp oIx (Q1 8) (Q1 10)) Q7))))) Qs (smΓ L X R A Hh Mm t one B st i j (zo (.int Z))) S1=.nx (smΓ L X R A Hh Mm t one B st i j (zo (.int q))) S3:=by
      obtain ⟨d2,S2,c5,T2,M2,e2⟩:=Z5 T1 2 (by decide) (by decide);rw [show ((2:Nat):Int)=2 from rfl] at e2
      by_cases w:d2=0
      ·subst w;obtain ⟨d3,S3,c4,T3,M3,e3⟩:=Z5 T2 Z () c0;have h:=b2 S2 (by rw [M2.keep B D.a.2.2.2.2]; exact a2);refine ⟨1 + d3,S3,by omega,by omega,T3,M2.trans M3,?_⟩;rw [show ((0:Nat):Int)=0 from rfl] at e2;exact Uj (Qc (Qb (Qi rfl rfl e2) rfl rfl)) (Jj (Qb rfl (Qi (Q4 rfl (Q4 (Qb rfl rfl h) rfl)) rfl e3) rfl))
      ·exact ⟨Z,S2,by omega,by omega,T2,M2,Y2 (Qc (Qb (Qi rfl rfl e2) rfl (qq S2 ()))) rfl⟩
     have s3:=s1.mv D.a.1 D.a.2.1 D.a.2.2.1 D.a.2.2.2.1 T3 M3;have a8:S3[B]?=zo (.lst (G.map .int)):=by rw [M3.keep B D.a.2.2.2.2]; exact a2
     have a4:(i:Int) < G.length:=by rw [I.1]; omega
     have Y:(i:Int) < ys.length:=by rw [s.hl]; omega
     obtain ⟨_,_,u1⟩:=Q1a (d:=-q) a8 (show (0:Int)<=i by omega) a4;rw [show ((i:Int)).toNat=i by simp] at u1;obtain ⟨S4,b0⟩:∃ S4,S3.set B (.lst ((Yx G i (-q)).map .int))=S4:=⟨_,rfl⟩;have b8:=(O0.mp a8).1;have k4:∀ x,x≠B->S4[x]?=S3[x]?:=λx hx=>by rw [<- b0,E4 (λe=>hx e.symm)]
     have l4:S4[B]?=zo (.lst ((Yx G i (-q)).map .int)):=by rw [<- b0]; exact D6 b8
     rw [b0,a1] at u1;have a7:S4[Hh]?=zo (.lst (ys.map .int)):=by rw [k4 Hh D.b.2.2.2]; exact s3.H
     obtain ⟨_,_,u2⟩:=Q1a (d:=-q) a7 (show (0:Int)<=i by omega) Y;rw [show ((i:Int)).toNat=i by simp] at u2;obtain ⟨S5,a5⟩:∃ S5,S4.set Hh (.lst ((Yx ys i (-q)).map .int))=S5:=⟨_,rfl⟩;have b9:=(O0.mp a7).1;have k5:∀ x,x≠Hh->S5[x]?=S4[x]?:=λx hx=>by rw [<- a5,E4 (λe=>hx e.symm)]
     have h5:S5[Hh]?=zo (.lst ((Yx ys i (-q)).map .int)):=by rw [<- a5]; exact D6 b9
     rw [a5] at u2;have b4:∀ (S2:Q0) (zs:List Int) (k:Nat),k < zs.length->S2[Hh]?=zo (.lst (zs.map .int))->oIx S2 (.ref Hh) (.int k)=.ok (.int (zs.getD k 0)) S2:=λS2 zs k hk h=>X3 (xs:=zs.map .int) (.inr (.inr ⟨_,rfl,h⟩)) (by rw [E2,Js hk 0]; rfl)
     have U:(Yx ys i (-q)).length=n:=by rw [Wy]; exact s.hl
     obtain ⟨_,_,u3⟩:=Q1a (d:=q) h5 (show (0:Int)<=j by omega) (by rw [U]; omega);rw [show ((j:Int)).toNat=j by simp] at u3;obtain ⟨S6,a3⟩:∃ S6,S5.set Hh (.lst ((Yx (Yx ys i (-q)) j q).map .int))=S6:=⟨_,rfl⟩;have b5:=(O0.mp h5).1;have k6:∀ x,x≠Hh->S6[x]?=S5[x]?:=λx hx=>by rw [<- a3,E4 (λe=>hx e.symm)]
     have h6:S6[Hh]?=zo (.lst ((Yx (Yx ys i (-q)) j q).map .int)):=by rw [<- a3]; exact D6 b5
     rw [a3] at u3;have a6:S6[Mm]?=zo (.lst (ms.map mvV)):=by rw [k6 Mm (λe=>D.b.2.2.1 e.symm),k5 Mm (λe=>D.b.2.2.1 e.symm),k4 Mm D.c.2.2]; exact s3.M
     have b6:=(O0.mp a6).1;obtain ⟨S7,b3⟩:∃ S7,S6.set Mm (.lst ((ms ++ [(⟨t,i,j,q⟩:Mv4)]).map mvV))=S7:=⟨_,rfl⟩;have k7:∀ x,x≠Mm->S7[x]?=S6[x]?:=λx hx=>by rw [<- b3,E4 (λe=>hx e.symm)]
     have c3:Z9 S6 (.ref Mm)=zo (ms.map mvV):=by simp [a6]
     have b7:chg S6 (.ref Mm) (λxs=>if xs.length < 1000000 then zo (.non,xs ++ [.tup [.int t,.int i,.int j,.int q]]) else zl)=.ok .non S7:=by
      unfold chg;simp only [a6];rw [bX (by rw [O3]; omega)];rw [<- b3,F5];rfl
     refine ⟨zo (.int q),S7,Yx (Yx ys i (-q)) j q,[(⟨t,i,j,q⟩:Mv4)],Yx G i (-q),?_,⟨?_,?_,?_,?_,?_,λk=>?_,?_,?_⟩,?_,⟨?_,λk=>?_⟩,⟨by simp,λm hm=>?_⟩,λk=>?_,λk=>?_⟩
     ·exact Uj (Yi (Qc (Qb (Vm rfl rfl g) rfl rfl)) (Yi (Qc (Qb (Vm rfl rfl g) rfl c2)) (Yi (Qc (Qb (Qb rfl rfl a9) rfl (Q1k S q2))) (Qc (Qb (Qi (n:=2) rfl rfl e1) rfl (Q1k S1 c1)))))) (Q8 (Jj (Qb rfl rfl (b2 S1 a2))) (Q8 t2 (Q8 (Qa7 (Qb (Qb rfl rfl (b2 S3 a8)) rfl rfl) rfl rfl (show Uf S3 (.ref B) (.int i) (.int ((Z:Int) - q))=zo S4 from by rw [show (Z:Int) - q=Z + -q by omega]; exact u1)) (Q8 (Qa7 (Qb (Qb rfl rfl (b4 S4 ys i (by rw [s.hl]; exact hi) a7)) rfl rfl) rfl rfl (show Uf S4 (.ref Hh) (.int i) (.int (ys.getD i 0 - q))=zo S5 from by rw [show ys.getD i 0 - q=ys.getD i 0 + -q by omega]; exact u2)) (Q8 (Qa7 (Qb (Qb rfl rfl (b4 S5 (Yx ys i (-q)) j (by rw [U]; exact hj) h5)) rfl rfl) rfl rfl u3) (Qt2 rfl c3 rfl b7))))))
     ·exact T3.of (by rw [k7 L (λe=>D.a.2.2.2.1 e.symm),k6 L (λe=>D.a.2.2.1 e.symm),k5 L (λe=>D.a.2.2.1 e.symm),k4 L (λe=>D.a.2.2.2.2 e.symm)])
     ·rw [k7 R (λe=>D.c.1 e.symm),k6 R (λe=>D.b.1 e.symm),k5 R (λe=>D.b.1 e.symm),k4 R (λe=>D.d.1 e.symm)]; exact s3.R
     ·rw [k7 A (λe=>D.c.2.1 e.symm),k6 A (λe=>D.b.2.1 e.symm),k5 A (λe=>D.b.2.1 e.symm),k4 A (λe=>D.d.2 e.symm)]; exact s3.A
     ·rw [k7 Hh D.b.2.2.1]; exact h6
     ·rw [Wy,Wy]; exact s.hl
     ·rw [Wz () (by rw [U]; omega),Wz () Y];have h1:=I.2 i;have h2:=s.pos k;rw [a1] at h1
      by_cases e1:(k:Int)=i
      ·have:k=i:=by omega
       subst this;rw [bX rfl]
       split <;> omega
      ·rw [bY e1]
       split <;> omega
     ·rw [Q9q () (by rw [U]; omega),Q9q () Y];have:=s.sum;omega
     ·rw [<- b3]; exact D6 b6
     ·rw [k7 B (λe=>D.c.2.2 e.symm),k6 B (λe=>D.b.2.2.2 e.symm),k5 B (λe=>D.b.2.2.2 e.symm)]; exact l4
     ·rw [Wy]; exact I.1
     ·rw [Wz () a4,Wz () (by rw [U]; omega),Wz () Y];have h1:=I.2 k
      by_cases e1:(k:Int)=i
      ·have:k=i:=by omega
       subst this;rw [a1] at h1 ⊢;rw [bX rfl]
       split <;> omega
      ·rw [bY e1]
       split <;> omega
     ·rw [G6.mp hm];exact ⟨rfl,rfl,rfl,m1,by rw [z]; simp [byB,q1]⟩
     ·rw [Wz () a4];unfold Qw;rw [O5,bz,E5,eN];show _ + (if (k:Int)=(i:Int) then -q else 0)=_ - ((if (k:Int)=(i:Int) then q else 0) + 0)
      split <;> omega
     ·rw [Wz () (by rw [U]; omega),Wz () Y];unfold Qw Yp;rw [O5,bz,E5,eN,O5,bz,E5,eN];show _ + (if (k:Int)=(i:Int) then -q else 0) + (if (k:Int)=(j:Int) then q else 0)=_ - ((if (k:Int)=(i:Int) then q else 0) + 0) + ((if (k:Int)=(j:Int) then q else 0) + 0)
      split <;> split <;> omega
   ·exact same (Y2 (Yi (Qc (Qb (Vm rfl rfl g) rfl rfl)) (Yi (Qc (Qb (Vm rfl rfl g) rfl c2)) (Q0m (Qc (Qb (Qb rfl rfl a9) rfl (Q4c S q2)))))) rfl)
  ·exact same (Y2 (Yi (Qc (Qb (Vm rfl rfl g) rfl rfl)) (Q0m (Qc (Qb (Vm rfl rfl g) rfl (Qp1 S (show ¬ (b:Int)<=t by omega)))))) rfl)
structure MvN (f:zAH) (T:Nat) (rs:zAB) (m:Mv4):Prop where
 t:m.t=(T:Int)
 r:inR rs m.i m.j=zi
 k:1<=m.k
 b:byB (f m.i.toNat) T=zi
structure RdN (f:zAH) (t:Nat) (rs:zAB) (N:List Mv4) (x y:Nat->Int->Int):Prop where
 ok:∀ m∈N,MvN f t rs m
 pos:∀ k,0<=x k 0 - Qw N k
 y:∀ k,y k 0=x k 0 - Qw N k + Yp N k
def Qk4 (st:Q0) (xs:List PV) (l h:Option Int):oSl st (.tup xs) l h=.ok (.tup (cut xs l h)) st:=rfl
def SMo.lt {rss:zAA} {L:Nat} (s:SMo ns n f rss L R A Hh Mm S ys ms):L < S.length/\R < S.length/\A < S.length/\Hh < S.length/\Mm < S.length:=
 ⟨s.T.lt,(O0.mp s.R).1,(O0.mp s.A).1,(O0.mp s.H).1,(O0.mp s.M).1⟩
def SMo.more {rss:zAA} {L:Nat} (s:SMo ns n f rss L R A Hh Mm S ys ms) (T:Q0):SMo ns n f rss L R A Hh Mm (S ++ T) ys ms:=by
 obtain ⟨l1,l2,B,q,G⟩:=s.lt;exact ⟨s.T.of (by rw [O4 l1]),by rw [O4 l2]; exact s.R,by rw [O4 B]; exact s.A,by rw [O4 q]; exact s.H,s.hl,s.pos,s.sum,by rw [O4 G]; exact s.M⟩
abbrev srΓ (L:Nat) (X:PV) (R A Hh Mm:Nat) (b6 b7 b8 b9 b10 b11 b12:Option PV):Gam:=[zo (.ref L),zo X,zo (.ref R),zo (.ref A),zo (.ref Hh),zo (.ref Mm),b6,b7,b8,b9,b10,b11,b12]
def Qft {rss:zAA} {L:Nat} (hd:R≠L/\A≠L/\Hh≠L/\Mm≠L) (hb:Hh≠R/\Hh≠A/\Hh≠Mm) (hc:Mm≠R/\Mm≠A) (s:SMo ns n f rss L R A Hh Mm S ys ms) (c6:ms.length<=9000) {X:PV} {t:Nat} (hr:RsOk n rs) (b8 b9 B G b12:Option PV) :
  ∃ c8 c9 O J I S' q N,Jq (srΓ L X R A Hh Mm (zo (.int t)) (zo (Qp rs)) b8 b9 B G b12) S=.nx (srΓ L X R A Hh Mm (zo (.int t)) (zo (Qp rs)) c8 c9 O J I) S'/\SMo ns n f rss L R A Hh Mm S' q (ms ++ N)/\RdN f t rs N ys.getD q.getD/\N.length<=100:=by
 obtain ⟨l1,l2,l3,l4,l5⟩:=s.lt;obtain ⟨S1,Y⟩:∃ S1,S ++ [Cell.lst (ys.map .int)]=S1:=⟨_,rfl⟩;have s1:SMo ns n f rss L R A Hh Mm S1 ys ms:=by rw [<- Y]; exact s.more _
 have b3:S1[S.length]?=zo (.lst (ys.map .int)):=by rw [<- Y]; simp
 have D:Dis L R A Hh Mm S.length:=⟨⟨hd.1,hd.2.1,hd.2.2.1,hd.2.2.2,by omega⟩,⟨hb.1,hb.2.1,hb.2.2,by omega⟩,⟨hc.1,hc.2,by omega⟩,by omega,by omega⟩;have c3:=hr.len;obtain ⟨st,S2,c4,T2,M2,e2⟩:=Z5 s1.T (rs.length + 1) () ();have s2:=s1.mv D.a.1 D.a.2.1 D.a.2.2.1 D.a.2.2.2.1 T2 M2;have c0:S2[S.length]?=zo (.lst (ys.map .int)):=by rw [M2.keep _ D.a.2.2.2.2]; exact b3
 have hok:∀ r∈rs.drop st ++ rs.take st,Qbf n r:=λr h=>by
  rcases E6.mp h with h | h
  ·exact hr.ok r (fM h)
  ·exact hr.ok r (iH h)
 have b1:(rs.drop st ++ rs.take st).length<=100:=by rw [D4,cr,cU]; omega
 obtain ⟨d0,S3,e3,q,N,U,O,J,I,rfl,s3,c7,a3,d1,b4,b6,a7⟩:=Yu (g:=rdV) (xs:=rs.drop st ++ rs.take st) (ga:=Z2 (Qa (Q3 10) (Qa (Q3 11) Z3))) (body:=J8) (w:=[]) (Γ:=srΓ L X R A Hh Mm (zo (.int t)) (zo (Qp rs)) (zo (.ref S.length)) (zo (.int st)) B G b12) (st:=S2)
  (λi Γ st'=>∃ q N U O J I,Γ=srΓ L X R A Hh Mm (zo (.int t)) (zo (Qp rs)) (zo (.ref S.length)) (zo (.int st)) O J I/\SMo ns n f rss L R A Hh Mm st' q (ms ++ N)/\st'[S.length]?=zo (.lst (cZ PV.int U))/\LeL n U q/\N.length<=i/\(∀ m∈N,MvN f t rs m)/\(∀ k,U.getD k 0=ys.getD k 0 - Qw N k)/\∀ k,q.getD k 0=ys.getD k 0 - Qw N k + Yp N k)
  (λ_ _ _ _=>by simp)
  (λi r Γ st' hx ⟨q,N,U,O,J,I,g1,s',a9,a2,d3,b0,b7,a6⟩=>by
   subst g1;obtain ⟨a,b⟩:=r;have ho:=hok _ (D8 hx);have hi:=(O0.mp hx).1;have Z:(a,b)∈rs:=by
    rcases E6.mp (D8 hx) with h | h
    ·exact fM h
    ·exact iH h
   obtain ⟨c5,S',y2,N2,l2,e,sx,a4,b5,a1,a5,a8⟩:=Qk3 D s' a9 a2 (by rw [D4]; omega) (X:=X) (one:=Qp rs) (t:=t) (st:=st) ho.1 ho.2.1 I;refine ⟨_,rfl,_,S',e,y2,N ++ N2,l2,_,_,_,rfl,by rw [<- F4]; exact sx,a4,b5,by rw [D4]; have:=a1.len; omega,λm hm=>?_,λk=>?_,λk=>?_⟩
   ·rcases E6.mp hm with h | h
    ·exact b0 m h
    ·obtain ⟨q1,q2,q3,q4,q5⟩:=a1.ok m h;refine ⟨q1,?_,q4,by rw [q2]; simpa using q5⟩;unfold inR;exact dC.mpr ⟨_,Z,by simp [q2,q3]⟩
   ·rw [a5,b7,Q0a]; omega
   ·rw [a8,a6,Q0a,Qbz]; omega)
  ⟨ys,[],ys,B,G,b12,rfl,by rw [E9]; exact s2,c0,⟨s.hl,λk=>⟨s.pos k,bq _⟩⟩,by simp,(λm hm=>by cases hm),Q2q _,Q0n _⟩
 refine ⟨zo (.ref S.length),zo (.int st),O,J,I,S3,q,N,?_,s3,⟨b4,λk=>by rw [<- b6]; exact (a3.2 k).1,a7⟩,by omega⟩;have b2:J4 S1 [Qp rs]=.ok (.int (rs.length:Nat)) S1:=by simp [Qp]
 have h1:((rs.length + 1:Nat):Int)=(rs.length:Int) + 1:=by push_cast; rfl
 rw [h1] at e2;have c1:cut (rs.map rdV) (zo (st:Int)) zl=(rs.drop st).map rdV:=by rw [Q4g,hC]
 have c2:cut (rs.map rdV) zl (zo (st:Int))=(rs.take st).map rdV:=by rw [Qer,hJ]
 have ha:Y1 S2 (.tup ((rs.drop st).map rdV)) (.tup ((rs.take st).map rdV))=.ok (.tup ((rs.drop st ++ rs.take st).map rdV)) S2:=by
  rw [Q8h,bX (by rw [Qv,O3,O3,cr,cU]; omega),F5]
 have hl:((rs.drop st ++ rs.take st).map rdV).length<=1000000:=by rw [O3]; omega
 have d2:Z9 S (.ref Hh)=zo (ys.map .int):=by simp [s.H]
 have t1:Qr 8 (jj (qb (Q1 4))) (srΓ L X R A Hh Mm (zo (.int t)) (zo (Qp rs)) b8 b9 B G b12) S=.nx (srΓ L X R A Hh Mm (zo (.int t)) (zo (Qp rs)) (zo (.ref S.length)) b9 B G b12) S1:=by
  have hH:=s.H;unfold srΓ;rw [<- Y];generalize ys.map PV.int=yv,Qp rs=rv at*;simp! [hH]
 have t2:Qr 9 (Qg 2 Qf (Q2 (Q1 0) (Q2 (mOp Y1 (Qj J4 (Q2 (Q1 7) Q7)) (mC (.int 1))) Q7))) (srΓ L X R A Hh Mm (zo (.int t)) (zo (Qp rs)) (zo (.ref S.length)) b9 B G b12) S1=.nx (srΓ L X R A Hh Mm (zo (.int t)) (zo (Qp rs)) (zo (.ref S.length)) (zo (.int st)) B G b12) S2:=by
  unfold srΓ;generalize Qp rs=rv at*;simp! [b2,e2]
 unfold Jq;rw [Yf,t1];show Q5 _ _ _ _=_;rw [Yf,t2];show Vi _ _ _ _ _=_;unfold srΓ Qp at e3 ⊢;generalize (rs.drop st ++ rs.take st).map rdV=rr,(rs.drop st).map rdV=r1,(rs.take st).map rdV=r2,rs.map rdV=rv at*;simp! [Qk4,c1,c2,ha,hl,Qv,e3,-Q8h]
structure RunY (rss:zAA) (f:zAH) (xs:List Int) (T:Nat) (ms:List Mv4) (ys:List Int):Prop where
 may:∀ m∈ms,W4 rss f T m=zi
 up:ms.Pairwise λa b=>a.t<=b.t
 has:Has ms (bn 0 T) (λk=>xs.getD k 0) (λk=>ys.getD k 0)
def Run (rss:zAA) (f:zAH) (xs:List Int) (T:Nat) (ms:List Mv4):Prop:=∃ ys,RunY rss f xs T ms ys
def RunY.run {rss:zAA} (h:RunY rss f xs T ms ys):Run rss f xs T ms:=⟨ys,h⟩
def RunY.nil (rss:zAA) (f:zAH) (xs:List Int):RunY rss f xs 0 [] xs:=⟨(λm q=>by cases q),cW,λ_=>rfl⟩
def may_parts {rss:zAA} {m:Mv4}:W4 rss f mo m=zi <-> (0<=m.t/\m.t < mo)/\inR (rss.getD m.t.toNat []) m.i m.j=zi/\1<=m.k/\byB (f m.i.toNat) m.t.toNat=zi:=by
 unfold W4;simp only [L1,decide_eq_true_eq]
def Qsw {T:Int} {t:Nat} (h:∀ m∈a,m.t < T) (B:T<=t):atT a t=[]:=by
 unfold atT;rw [eK];intro m q;have:=h m q;simp; omega
def RunY.more {rss:zAA} {J:List Int} (r:RunY rss f xs T ms ys) (U:rss[T]?=zo rs) (h:RdN f T rs N ys.getD J.getD):RunY rss f xs (T + 1) (ms ++ N) J:=by
 have hg:rss.getD T []=rs:=by rw [D5,U]; rfl
 have G:∀ m∈ms,m.t < (T:Int):=λm B=>(may_parts.mp (r.may m B)).1.2
 have I:∀ m∈N,m.t=(T:Int):=λm B=>(h.ok m B).t
 have Z:atT (ms ++ N) T=N:=by
  rw [Q7i,Qsw G (),dI];unfold atT;rw [List.filter_eq_self];intro m B;simp [I m B]
 refine ⟨λm B=>?_,?_,?_⟩
 ·rcases E6.mp B with q | q
  ·have:=may_parts.mp (r.may m q);exact may_parts.mpr ⟨⟨this.1.1,by have:=this.1.2; push_cast; omega⟩,this.2⟩
  ·have o:=h.ok m q;have e:m.t.toNat=T:=by rw [o.t]; simp
   exact may_parts.mpr ⟨⟨by rw [o.t]; omega,by rw [o.t]; push_cast; omega⟩,by rw [e,hg]; exact o.r,o.k,by rw [e]; exact o.b⟩
 ·refine dz.mpr ⟨r.up,?_,λa O b Y=>by rw [I b Y]; have:=G a O; omega⟩;refine List.pairwise_of_forall_mem_list λa O b Y=>by rw [I a O,I b Y]; exact bq _
 ·have e:bn 0 (T + 1)=bn 0 T ++ [T]:=by
   have:=eL (s:=0) (m:=T) (n:=1);rw [<- this,dN]; rfl
  rw [e];refine Has.app (r.has.loc λu hu=>?_) ⟨λk=>by rw [Z]; exact h.pos k,_,λk=>by rw [Z]; exact h.y k,λ_=>rfl⟩;have hu:=eM.mp hu;rw [Q7i,show atT N u=[] from ?_,E9];unfold atT;rw [eK];intro m B;rw [I m B]; simp; omega
theorem Qfj:∀ {xs:List Int} {B:Int},(∀ x∈xs,x<=B)->xs.sum<=xs.length * B
 | [],B,_=>by simp
 | x :: xs,B,h=>by
  have I:=Qfj (xs:=xs) λy q=>h y (O7 _ q)
  have G:=h x (by simp);rw [E5,E7]
  push_cast
  rw [Int.add_mul];omega
def Qjy (hn:n<=8) {rss:zAA} (b2:rss.length<=40) (a6:∀ rs∈rss,RsOk n rs) {L:Nat} (T:TapeAt S L ns) (hR:S[R]?=zo (.lst (rss.map Qp))) (hA:S[A]?=zo (.dic (Qe n f))) (a9:R≠L) (a4:A≠L) (hx:xs.length=n) (Z:∀ x∈xs,0<=x/\x<=100000000000000000000000000006) :
  ∃ (Mm:Nat) (S':Q0) (ms:List Mv4),Ze [.ref L,.tup (xs.map .int),.ref R,.ref A] S=.ok (.ref Mm) S'/\TapeAt S' L ns/\S'[R]?=zo (.lst (rss.map Qp))/\S'[A]?=zo (.dic (Qe n f))/\S'[Mm]?=zo (.lst (ms.map mvV))/\ms.length<=9000/\Mm≠L/\Mm≠R/\Mm≠A/\Run rss f xs rss.length ms:=by
 have l1:=T.lt;have l2:=(O0.mp hR).1;have l3:=(O0.mp hA).1;obtain ⟨S1,G⟩:∃ S1,S ++ [Cell.lst (xs.map .int),Cell.lst (([]:List Mv4).map mvV)]=S1:=⟨_,rfl⟩;have k1:∀ t,t < S.length->S1[t]?=S[t]?:=λt h=>by rw [<- G,O4 h]
 have a3:S1[S.length]?=zo (.lst (xs.map .int)):=by rw [<- G]; simp
 have a5:S1[S.length + 1]?=zo (.lst (([]:List Mv4).map mvV)):=by rw [<- G,D0 (),show S.length + 1 - S.length=1 by omega]; rfl
 have pos:∀ k,0<=xs.getD k 0:=λk=>by
  rw [D5];cases z:xs[k]? with
  | none=>simp
  | some y=>exact (Z y (D8 z)).1
 have s1:SMo ns n f rss L R A S.length (S.length + 1) S1 xs []:=⟨T.of (k1 L l1),by rw [k1 R l2]; exact hR,by rw [k1 A l3]; exact hA,a3,hx,pos,by
  have:=Qfj (xs:=xs) (B:=100000000000000000000000000006) λx h=>(Z x h).2
  rw [hx] at this;have c0:(n:Int)<=8:=by omega
  omega,a5⟩
 have a2:W6 S1 (.ref R)=zo (rss.map Qp,[(R,.lst (rss.map Qp))]):=by
  have:=s1.R;simp [this]
 obtain ⟨b5,S2,e2,ys,ms,b6,b7,b8,b9,I,J,b12,rfl,s2,a8,a1⟩:=Yu (g:=λp:zAB × Nat=>PV.tup [.int (p.2:Nat),Qp p.1]) (xs:=rss.zipIdx) (ga:=Z2 (Qa (Q3 6) (Qa (Q3 7) Z3))) (body:=Jq) (w:=[(R,.lst (rss.map Qp))]) (Γ:=srΓ L (.tup (xs.map .int)) R A S.length (S.length + 1) zl zl zl zl zl zl zl) (st:=S1)
  (λi Γ st'=>∃ ys ms b6 b7 b8 b9 I J b12,Γ=srΓ L (.tup (xs.map .int)) R A S.length (S.length + 1) b6 b7 b8 b9 I J b12/\SMo ns n f rss L R A S.length (S.length + 1) st' ys ms/\ms.length<=100 * i/\RunY rss f xs i ms ys)
  (λi Γ st' ⟨_,_,_,_,_,_,_,_,_,_,s,_,_⟩=>λy hy=>by
   rw [G6.mp hy]; exact s.R)
  (λi p Γ st' q ⟨ys,ms,b6,b7,b8,b9,I,J,b12,g1,s,hm,hr⟩=>by
   subst g1;obtain ⟨rs,t⟩:=p;have hi:i < rss.length:=by have:=(O0.mp q).1; simpa using this
   have Y:t=i/\rss[i]?=zo rs:=by
    rw [List.getElem?_zipIdx] at q;cases z:rss[i]? with
    | none=>rw [z] at q; cases q
    | some r0=>rw [z] at q; simp at q; exact ⟨q.2.symm,by rw [q.1]⟩
   obtain ⟨c8,c9,c3,b3,c1,S',a7,N,e,s',b0,b4⟩:=Qft ⟨a9,a4,by omega,by omega⟩ ⟨by omega,by omega,by omega⟩ ⟨by omega,by omega⟩ s () (X:=.tup (xs.map .int)) (t:=t) (a6 rs (List.fst_mem_of_mem_zipIdx (D8 q))) b8 b9 I J b12;exact ⟨_,rfl,_,S',e,a7,ms ++ N,_,_,_,_,_,_,_,rfl,s',by rw [D4]; omega,hr.more Y.2 (by rw [<- Y.1]; exact b0)⟩)
  ⟨xs,[],_,_,_,_,_,_,_,rfl,s1,by simp,RunY.nil _ _ _⟩
 rw [<- Q64] at e2;rw [List.length_zipIdx] at a8 a1;refine ⟨S.length + 1,S2,ms,?_,s2.T,s2.R,s2.A,s2.M,by omega,by omega,by omega,by omega,a1.run⟩;have hl:(rss.map Qp).length<=1000000:=by rw [O3]; omega
 have b1:S ++ [Cell.lst (xs.map .int),Cell.lst []]=S1:=G;have U:(S ++ [Cell.lst (xs.map PV.int)]).length=S.length + 1:=by simp
 have O:S ++ [Cell.lst (xs.map .int)] ++ [Cell.lst []]=S1:=by rw [F4]; exact G
 have t1:Qr 4 (jj (qb (Q1 1))) [zo (.ref L),zo (.tup (xs.map .int)),zo (.ref R),zo (.ref A),zl,zl,zl,zl,zl,zl,zl,zl,zl] S=.nx [zo (.ref L),zo (.tup (xs.map .int)),zo (.ref R),zo (.ref A),zo (.ref S.length),zl,zl,zl,zl,zl,zl,zl,zl] (S ++ [Cell.lst (xs.map .int)]):=by
  generalize xs.map PV.int=xv at*;simp -implicitDefEqProofs
 have t2:Qr 5 (jj (y0 Q7)) [zo (.ref L),zo (.tup (xs.map .int)),zo (.ref R),zo (.ref A),zo (.ref S.length),zl,zl,zl,zl,zl,zl,zl,zl] (S ++ [Cell.lst (xs.map .int)])=.nx (srΓ L (.tup (xs.map .int)) R A S.length (S.length + 1) zl zl zl zl zl zl zl) S1:=by
  rw [<- O,<- U];unfold srΓ;generalize xs.map PV.int=xv at*;generalize S ++ [Cell.lst xv]=S9;simp! [Qv]
 have step:Zd [zo (.ref L),zo (.tup (xs.map .int)),zo (.ref R),zo (.ref A),zl,zl,zl,zl,zl,zl,zl,zl,zl] S=.rt (.ref (S.length + 1)) S2:=by
  unfold Zd;rw [Yf,t1];show Q5 _ _ _ _=_;rw [Yf,t2];show Q5 _ _ _ _=_;unfold srΓ at e2 ⊢;generalize rss.map Qp=rv,xs.map PV.int=xv,S.length + 1=c2 at*;generalize S.length=sl at*;simp! [a2,hl,Qv,e2,-xb]
 show Jx Zd 13 _ S=_;unfold Jx;rw [show (([.ref L,.tup (xs.map .int),.ref R,.ref A]:List PV).map zo ++ bg (13 - [.ref L,.tup (xs.map .int),.ref R,PV.ref A].length) zl)=[zo (.ref L),zo (.tup (xs.map .int)),zo (.ref R),zo (.ref A),zl,zl,zl,zl,zl,zl,zl,zl,zl] from rfl,step]
def Qi9 {c q:Cell} (h:S[D]?=zo c) (G:c≠q) :fin S v (S.set D q)=.ok v (S.set D q):=by
 have B:=(O0.mp h).1;unfold fin;rw [bY];rintro ⟨T,I⟩;have hz:T=[]:=by
  have:=congrArg cj I;rw [D4,L3] at this;exact eA.mp ()
 rw [hz,E9] at I;have:=D6 (a:=q) B;rw [<- I,h] at this;exact G (bm this)
def yn (h:S[D]?=zo (.dic (Qe n f))) (hn:n<=8) (hx:xs.length=n) (t:Nat):Qx [.tup (xs.map .int),.ref D,.int t] S=.ok (.int (X6 n f t xs)) (S.set D (.frd (Qe n f))):=by
 have G:=(O0.mp h).1;have Y:jy S D=zo (Qe n f):=by unfold jy; rw [h]
 have I:Uv S (.ref D)=zo ((Qe n f).map (λkv=>kP kv.1),D,Qe n f):=by simp only [Uv,Y]
 rw [Q43] at I;have hl:((bc n).map λk:Nat=>PV.int (k:Int)).length<=1000000:=by simp; omega
 have U:DicAt (S.set D (.frd (Qe n f))) (.ref D) (Qe n f):=⟨_,rfl,.inr (D6 G)⟩;have Z:J0 (Q3 0) Zr Yr [(D,.frd (Qe n f))] [zl,zo (.tup (xs.map .int)),zo (.int t),zo (.ref D)] ((bc n).map λk:Nat=>PV.int (k:Int)) (S.set D (.frd (Qe n f)))=.ok (((Y7 n f t).map λk=>xs.getD k 0).map PV.int) (S.set D (.frd (Qe n f))):=by
  rw [G7];refine U8 _ (PV.int ∘ λk=>xs.getD k 0) (λk=>byB (f k) t) (Q6h G _) λk I=>⟨_,rfl,?_,λ_=>?_⟩
  ·have g:=Uq U (show k < n by simpa using I);cases z:f k with
   | none=>
    rw [z] at g;have g:Um (S.set D (.frd (Qe n f))) (.ref D) (.int k)=.ok .non (S.set D (.frd (Qe n f))):=g;generalize S.set D (.frd (Qe n f))=S1,xs.map PV.int=O at*;simp! [Zr,g,byB,Qhc]
   | some b=>
    rw [z] at g;have g:Um (S.set D (.frd (Qe n f))) (.ref D) (.int k)=.ok (.int b) (S.set D (.frd (Qe n f))):=g;have e:decide ((b:Int)<=(t:Int))=decide (b<=t):=by
     by_cases q:b<=t
     ·rw [ba q,ba ()]
     ·rw [bZ q,bZ ()]
    generalize S.set D (.frd (Qe n f))=S1,xs.map PV.int=O at*;simp! [Zr,g,byB,Qhd,e]
  ·have:=Q6i (xs:=xs) (k:=k) (by rw [hx]; simpa using I) (S.set D (.frd (Qe n f)));show _=Res.ok (PV.int (xs.getD k 0)) _;generalize S.set D (.frd (Qe n f))=S1,xs.getD k 0=xk,xs.map PV.int=O at*;simp! [Yr,this,-zg]
 have B:(Vp λns=>zo (.int ns.sum)) (S.set D (.frd (Qe n f))) [.lst (((Y7 n f t).map λk=>xs.getD k 0).map PV.int)]=.ok (.int (X6 n f t xs)) (S.set D (.frd (Qe n f))):=by
  rw [X9 _ _ _ (λy=>y)];show Res.ok (PV.int (cZ (λy=>y) ((Y7 n f t).map λk=>xs.getD k 0)).sum) _=_
  rw [iF]; rfl
 have step:Ye [zo (.tup (xs.map .int)),zo (.ref D),zo (.int t)] S=.rt (.int (X6 n f t xs)) (S.set D (.frd (Qe n f))):=by
  generalize X6 n f t xs=z,((Y7 n f t).map λk=>xs.getD k 0).map PV.int=zv at*
  generalize J:S.set D (.frd (Qe n f))=S1 at*;generalize Qe n f=ad,((bc n).map λk:Nat=>PV.int (k:Int))=rv at*
  generalize xs.map PV.int=O at*;simp! [Ye,qk,I,hl,Qv,Jp,J,Z,B]
 show Qn Ye 3 _ S=_;unfold Qn;rw [show (([.tup (xs.map .int),.ref D,.int t]:List PV).map zo ++ bg (3 - [PV.tup (xs.map .int),.ref D,.int t].length) zl)=[zo (.tup (xs.map .int)),zo (.ref D),zo (.int t)] from rfl,step];exact Qi9 h (λz=>by cases z)
def Qff {kvs:List (Key × PV)} (h:S[D]?=zo (.dic kvs)):Ue S (S.set D (.frd kvs)) S.length=S:=by
 rw [za h,bX (O0.mp h).1]
def Q0k (h:S[M]?=zo (.lst (ms.map mvV))) (hl:ms.length<=1000):Zy [.ref M] S=.ok (.bl zi) S:=by
 obtain ⟨a1,S',e,B,rfl,G⟩:=Yu (g:=mvV) (xs:=ms) (ga:=Q3 1) (body:=Z6) (w:=[(M,.lst (ms.map mvV))]) (Γ:=[zo (.ref M),zl]) (st:=S)
  (λ_ Γ st'=>∃ B,Γ=[zo (.ref M),B]/\st'=S)
  (λi Γ st' ⟨_,_,e⟩=>by
   rw [e];intro y I;rw [G6.mp I]; exact h)
  (λi m Γ st' hx ⟨B,J,O⟩=>by
   subst J; rw [O];refine ⟨_,rfl,[zo (.ref M),zo (mvV m)],S,?_,_,rfl,rfl⟩;show Z6 [zo (.ref M),zo (.tup [.int m.t,.int m.i,.int m.j,.int m.k])] S=.nx [zo (.ref M),zo (.tup [.int m.t,.int m.i,.int m.j,.int m.k])] S;have hc:J0 (Q3 0) Z1 Z4 [] [zl] [.int m.t,.int m.i,.int m.j,.int m.k] S=.ok [.bl zi,.bl zi,.bl zi,.bl zi] S:=by
    have:=Yw (ga:=Q3 0) (me:=Z4) (w:=[]) (Γ0:=[zl]) (st:=S) (λi:Int=>PV.int i) (λ_=>PV.bl zi) (by simp) (ys:=[m.t,m.i,m.j,m.k]) λi _=>⟨_,rfl,by simp [Z4,isI,tyN,Ke]⟩
    exact this
   have Z:K6 (λns=>.bl (ns.all id)) S [.lst [.bl zi,.bl zi,.bl zi,.bl zi]]=.ok (.bl zi) S:=rfl
   simp! [Z6,isI,tyN,Ke,Qv,Jp,hc,Z])
  ⟨zl,rfl,rfl⟩
 have U:W6 S (.ref M)=zo (ms.map mvV,[(M,.lst (ms.map mvV))]):=Q5e h;have q:(ms.map mvV).length<=1000000:=by rw [O3]; omega
 have step:Zt [zo (.ref M),zl] S=.rt (.bl zi) S:=by
  have Y:Ke S (.ref M)=zb:=by simp [Ke,h]
  rw [G] at e;generalize ms.map mvV=mm at*;simp! [Zt,h,Y,isI,tyN,U,q,Qv,e,-xb]
 show Qn Zt 2 _ S=_;unfold Qn;rw [show (([.ref M]:List PV).map zo ++ bg (2 - [PV.ref M].length) zl)=[zo (.ref M),zl] from rfl,step];simp [fin,fz]
def Q47 (h:S[D]?=zo (.dic (Qe n f))) (hn:n<=8):Jw [.ref D,.int n] S=.ok (.bl zi) S:=by
 have hl:=(O0.mp h).1;have U:DicAt (S.set D (.frd (Qe n f))) (.ref D) (Qe n f):=⟨D,rfl,.inr (by rw [D6 hl])⟩;obtain ⟨a1,st',e,G,rfl,rfl⟩:=Yu (g:=λk:Nat=>PV.int (k:Int)) (xs:=bc n) (ga:=Q3 2) (body:=Jt) (w:=[(D,.frd (Qe n f))]) (Γ:=[zo (.ref D),zo (.int n),zl]) (st:=S.set D (.frd (Qe n f)))
  (λi Γ st'=>∃ G,Γ=[zo (.ref D),zo (.int n),G]/\st'=S.set D (.frd (Qe n f)))
  (λ_ _ _ ⟨_,_,e⟩=>by rw [e]; exact Q6h hl _)
  (λi x Γ st' hx ⟨G,Z,Y⟩=>by
   subst Z; subst Y;have hi:x < n:=by have:=D8 hx; simpa using this
   have g:=Uq U hi;have I:¬ (x:Int) < 0:=by omega
   have J:¬ (n:Int)<=(x:Int):=by omega
   refine ⟨_,rfl,[zo (.ref D),zo (.int n),zo (.int x)],_,?_,_,rfl,rfl⟩;show Jt [zo (.ref D),zo (.int n),zo (.int x)] (S.set D (.frd (Qe n f)))=_;generalize S.set D (Cell.frd (Qe n f))=S1 at*;cases O:f x with
   | none=>
    rw [O] at g;simp! [Jt,isI,tyN,g,I,J,moV,Ka]
   | some t=>
    rw [O] at g;simp! [Jt,isI,tyN,g,I,J,moV,Ka])
  ⟨_,rfl,rfl⟩
 rw [<- Q43 n f] at e;have lp:=Qe6 (m:=Q1 0) h (by rw [Km]; omega) (by simp) e;have B:Q9p S [.ref D]=.ok (.int n) S:=by
  unfold Q9p y9;simp only [h,Km]
 have q:isI "dict" .dic=zi:=rfl;simp! [Jw,Qn,U7,h,q,B,lp,-jk,-Q2c]
def PD (kvs:List (Key × PV)):Prop:=Q0v kvs=zi/\Qw0 kvs=zi/\(kvs.map bh).Nodup
def PD.ask (n:Nat) (f:zAH):PD (Qe n f):=by
 refine ⟨Qdf n f,?_,?_⟩
 ·unfold Qw0 Qe;rw [cC,E8];intro k _; rfl
 ·unfold Qe;rw [G7];refine dR.mpr (fe.imp λq e=>q ?_);have:=dE e;omega
def Qch {a:Nat} {q:List (Key × PV)} (B:DicAt S (.ref a) ks) (I:DicAt S (.ref b) q) (G:PD ks) (J:PD q) (op:Bool):Q5p op S (.ref a) (.ref b)=.ok (.bl (dEq ks q == op)) S:=by
 unfold Q5p;rw [B.of,I.of];simp only [G.1,J.1,and_self,if_true]
def Qid (B:PD ks):dEq ks ks=zi:=by
 unfold dEq;rw [ba rfl,G9,E8];intro kv q;have h0:Qy ks kv.1=zo kv.2:=Q2f B.2.2 q;rw [h0];exact Qdj (E8.mp B.1 kv q)
def Home.gath {rss:zAA} {t:Nat} (H:Home rss n h t xs ms) (I:t<=rss.length) (B:am<=X6 n (Qh rss h) t xs):Q0c rss (Qu rss h 0) h xs am t ms=zi:=by
 obtain ⟨ys,q,G⟩:=H.has;unfold Q0c;rw [ba (show (0:Int)<=(t:Int) by omega),ba (show (t:Int)<=(rss.length:Int) by omega),H.desc,E8.mpr H.may,show ((t:Int)).toNat=t by simp,q];simp only [fc,G9,decide_eq_true_eq];omega
abbrev rgΓ (X:PV) (R h:Nat) (am:Int) (v:PV) (b5 b6 b7:Option PV):Gam:=[zo X,zo (.ref R),zo (.int h),zo (.int am),zo v,b5,b6,b7]
def Qgc {rss:zAA} {S0:Q0} (hR:S[R]?=zo (.lst (rss.map Qp))) (I:rss.length<=40) (U:∀ rs∈rss,RsOk n rs) (Y:n<=8) (hh:h < n) (hx:xs.length=n) (g:Gth rss n h xs am S0 S v) :
  ∃ T,Yk [.tup (xs.map .int),.ref R,.int h,.int am,v] S=.ok (.bl zi) (S ++ T):=by
 have hV:ListAt S (.ref R) (rss.map Qp):=.inr (.inr ⟨R,rfl,hR⟩);have e1:=Q3x hV I Y U hh;obtain ⟨S1,G⟩:∃ S1,S ++ [.dic (Qe n (Qu rss h 0)),.dic (Qe n (Qh rss h))]=S1:=⟨_,rfl⟩;have k1:∀ t c,S[t]?=zo c->S1[t]?=zo c:=λt c e=>by rw [<- G,O4 (O0.mp e).1]; exact e
 have hA:S1[S.length]?=zo (.dic (Qe n (Qu rss h 0))):=by rw [<- G]; simp
 have hB:S1[S.length + 1]?=zo (.dic (Qe n (Qh rss h))):=by rw [<- G,D0 (),show S.length + 1 - S.length=1 by omega]; rfl
 rw [G] at e1;have J:=Q72 hx;obtain ⟨S2,a3⟩:∃ S2,S1.set (S.length + 1) (.frd (Qe n (Qh rss h)))=S2:=⟨_,rfl⟩;have B:S2=S ++ [.dic (Qe n (Qu rss h 0)),.frd (Qe n (Qh rss h))]:=by
  rw [<- a3,<- G,L0 _ _ (),show S.length + 1 - S.length=1 by omega]; rfl
 have a4:∀ t:Nat,Qx [.tup (xs.map .int),.ref (S.length + 1),.int t] S1=.ok (.int (X6 n (Qh rss h) t xs)) S2:=λt=>by rw [yn hB Y hx t,a3]
 have go:∀ T,Vg (rgΓ (.tup (xs.map .int)) R h am v zl zl zl) S=.rt (.bl zi) (S ++ T)->Yk [.tup (xs.map .int),.ref R,.int h,.int am,v] S=.ok (.bl zi) (S ++ T):=λT e=>by
  show Jx Vg 8 _ S=_;unfold Jx;rw [show (([.tup (xs.map .int),.ref R,.int h,.int am,v]:List PV).map zo ++ bg (8 - [PV.tup (xs.map .int),.ref R,.int h,.int am,v].length) zl)=rgΓ (.tup (xs.map .int)) R h am v zl zl zl from rfl,e]
 rcases g with ⟨t,M,ms,ht,ha,O,H,rfl,hM,a7⟩ | ⟨O,a,b,rfl,ga,gb,la,lb⟩
 ·have Z:=k1 _ _ hM;have a1:ms.length<=1000:=by have:=H.len; omega
  have q3:oLt S1 (.int t) (.int 0)=.ok (.bl zb) S1:=by rw [Qbw,bZ ()]
  by_cases t0:t=0
  ·subst t0;refine ⟨[.dic (Qe n (Qu rss h 0)),.dic (Qe n (Qh rss h))],go _ ?_⟩;rw [G];have e3:=Q0k Z a1;have e4:=Q5w Y I U (V:=.ref R) (S:=S1) (.inr (.inr ⟨R,rfl,k1 _ _ hR⟩)) (A:=.ref S.length) (f:=Qu rss h 0) ⟨_,rfl,.inl hA⟩ hh hx (W:=.ref M) () (.inr (.inr ⟨M,rfl,Z⟩)) am 0;rw [show Q0c rss (Qu rss h 0) h xs am 0 ms=zi from H.gath ht ha] at e4;exact Q8 (Q7j (Qi (n:=3) (Q4 (Ji rfl (J S)) rfl) rfl e1) rfl) (Q8 rfl (Q8 rfl (Q8 rfl (Q8 (Y2 (Ww rfl (Ww rfl (Ww rfl (Qc q3)))) rfl) (Q8 rfl (Q0u (Q7k (Qi (n:=1) rfl rfl e3) (Qi (n:=7) (Q4 rfl (Q4 rfl (Q4 rfl (Q4 rfl rfl)))) rfl e4))))))))
  ·refine ⟨[.dic (Qe n (Qu rss h 0)),.frd (Qe n (Qh rss h))],go _ ?_⟩;rw [<- B];have k2:∀ u c,u < S.length->S[u]?=zo c->S2[u]?=zo c:=λu c hu e=>by rw [B,O4 hu]; exact e
   have a2:S2[M]?=zo (.lst (ms.map mvV)):=k2 _ _ (O0.mp hM).1 hM;have a6:S2[S.length]?=zo (.dic (Qe n (Qu rss h 0))):=by rw [B]; simp
   have e3:=Q0k a2 a1;have e4:=Q5w Y I U (V:=.ref R) (S:=S2) (.inr (.inr ⟨R,rfl,k2 _ _ (O0.mp hR).1 hR⟩)) (A:=.ref S.length) (f:=Qu rss h 0) ⟨_,rfl,.inl a6⟩ hh hx (W:=.ref M) () (.inr (.inr ⟨M,rfl,a2⟩)) am t;rw [H.gath ht ha] at e4;have e5:=a4 (t - 1);rw [show ((t - 1:Nat):Int)=(t:Int) - 1 by omega] at e5;have q1:∀ S,(oI λa b=>.bl (decide (b < a))) S (.int t) (.int 0)=.ok (.bl zi) S:=λS=>congrArg (λb=>Res.ok (PV.bl b) S) (ba (show (0:Int) < t by omega))
   have q2:∀ S,(oI λa b=>.bl (decide (b<=a))) S (.int (X6 n (Qh rss h) (t - 1) xs)) (.int am)=.ok (.bl zb) S:=λS=>congrArg (λb=>Res.ok (PV.bl b) S) (bZ (O (t - 1) ()))
   exact Q8 (Q7j (Qi (n:=3) (Q4 (Ji rfl (J S)) rfl) rfl e1) rfl) (Q8 rfl (Q8 rfl (Q8 rfl (Q8 (Y2 (Ww rfl (Ww rfl (Ww rfl (Qc q3)))) rfl) (Q8 (Y2 (Yi (Qc (q1 _)) (Qc (Qb (Qi (n:=3) rfl rfl e5) rfl (q2 _)))) rfl) (Q0u (Q7k (Qi (n:=1) rfl rfl e3) (Qi (n:=7) (Q4 rfl (Q4 rfl (Q4 rfl (Q4 rfl rfl)))) rfl e4))))))))
 ·refine ⟨[.dic (Qe n (Qu rss h 0)),.frd (Qe n (Qh rss h))],go _ ?_⟩;rw [<- B];have d1:=Q47 (k1 _ _ ga) Y;have d2:=Q47 (k1 _ _ gb) Y;have g1:=Qch (S:=S1) (a:=a) (b:=S.length) ⟨_,rfl,.inl (k1 _ _ ga)⟩ ⟨_,rfl,.inl hA⟩ (PD.ask _ _) (PD.ask _ _) zi;have g2:=Qch (S:=S1) (a:=b) (b:=S.length + 1) ⟨_,rfl,.inl (k1 _ _ gb)⟩ ⟨_,rfl,.inl hB⟩ (PD.ask _ _) (PD.ask _ _) zi;rw [Qid (PD.ask _ _)] at g1 g2;have e5:=a4 rss.length;have a5:J4 S1 [.ref R]=.ok (.int rss.length) S1:=by
   have:=ListAt.len (st:=S1) (V:=.ref R) (.inr (.inr ⟨R,rfl,k1 _ _ hR⟩));rw [O3] at this;exact this
  have q:oLt S2 (.int (X6 n (Qh rss h) rss.length xs)) (.int am)=.ok (.bl zi) S2:=by rw [Qbw,ba (by have:=O rss.length (O6 _); omega)]
  exact Q8 (Q7j (Qi (n:=3) (Q4 (Ji rfl (J S)) rfl) rfl e1) rfl) (Q8 rfl (Vd (Uj rfl (Q8 (Y2 (Ww (Q10 (b:=zi) (Qc (Qi (n:=2) (Q4 rfl (Q4 (Ji rfl (J S1)) rfl)) rfl d1))) (Q10 (b:=zi) (Qc (Qi (n:=2) (Q4 rfl (Q4 (Ji rfl (J S1)) rfl)) rfl d2)))) rfl) (Q0u (Q7k (Qb rfl rfl g1) (Q7k (Qb rfl rfl g2) (Qb (Qi (n:=3) (Q4 rfl (Q4 rfl (Q4 (Ji rfl a5) rfl))) rfl e5) rfl q))))))))
def Has.split :∀ {ts us:List Nat} {x y:Nat->Int},Has a (ts ++ us) x y->∃ z,Has a ts x z/\Has a us z y
 | [],us,x,y,h=>⟨x,λ_=>rfl,h⟩
 | t :: ts,us,x,y,⟨n1,q,B,G⟩=>by
  obtain ⟨z,h1,h2⟩:=G.split;exact ⟨z,⟨n1,q,B,h1⟩,h2⟩
def Has.det :∀ {ts:List Nat} {x y q:Nat->Int},Has a ts x y->Has a ts x q->y=q
 | [],x,y,q,h,h'=>funext λk=>by rw [h k,h' k]
 | t :: ts,x,y,q,⟨_,z,e,r⟩,⟨_,I,G,B⟩=>by
  have:z=I:=funext λk=>by rw [e,G]
  subst this;exact r.det B
def Run.upto {rss:zAA} (r:Run rss f xs T ms) {t:Nat} (B:t<=T):∃ y,Has ms (bn 0 t) (λk=>xs.getD k 0) y:=by
 obtain ⟨ys,q⟩:=r;have h:=q.has;have e:=eL (s:=0) (m:=t) (n:=T - t);rw [show t + (T - t)=T by omega] at e;rw [<- e] at h;obtain ⟨z,h1,_⟩:=h.split;exact ⟨z,h1⟩
def Kj (ms:List Mv4) (t:Nat):List Mv4:=ms.filter λm=>decide (m.t < (t:Int))
def Qsx {t u:Nat} (h:u < t):atT (Kj ms t) u=atT ms u:=by
 unfold atT Kj;rw [List.filter_filter];refine List.filter_congr λm _=>?_
 by_cases q:m.t=(u:Int)
 ·rw [ba q,ba (show m.t < (t:Int) by omega)]; rfl
 ·rw [bZ q]; rfl
def Run.gath {rss:zAA} (I:∀ rs∈rss,RsOk n rs) (hx:xs.length=n) (r:Run rss f xs rss.length ms) {t:Nat} (ht:t<=rss.length) {y:Nat->Int} (Z:Has ms (bn 0 t) (λk=>xs.getD k 0) y) (h:Nat):(∀ m∈Kj ms t,W4 rss f t m=zi)/\Q0c rss f h xs (y h) t (Kj ms t)=zi/\∃ ys,Xv (Kj ms t) (bc t) xs=zo ys/\ys.getD h 0=y h:=by
 obtain ⟨a1,J⟩:=r;have q:∀ m∈Kj ms t,W4 rss f t m=zi:=λm B=>by
  obtain ⟨q1,G⟩:=cF.mp B;have G:m.t < (t:Int):=by simpa using G
  have:=may_parts.mp (J.may m q1);exact may_parts.mpr ⟨⟨this.1.1,G⟩,this.2⟩
 have hd:Up (Kj ms t)=zb:=by
  unfold Up;rw [eS];intro z hz;have Y:(Kj ms t).Pairwise λa b=>a.t<=b.t:=J.up.sublist iE
  have:=Q4q Y z hz;simp; omega
 have hs:Has (Kj ms t) (bc t) (λk=>xs.getD k 0) y:=by
  rw [fg];exact Z.loc λu hu=>(Qsx (by have:=eM.mp hu; omega)).symm
 obtain ⟨ys,U,O⟩:=Has.toL (λm B=>Q13 I () (q m B)) hx hs
 refine ⟨q,?_,ys,U,O h⟩;unfold Q0c;rw [ba (show (0:Int)<=(t:Int) by omega),ba (show (t:Int)<=(rss.length:Int) by omega),hd,E8.mpr q,show ((t:Int)).toNat=t by simp,U];simp only [fc,G9,decide_eq_true_eq];rw [O h]; exact bq _
def dM (h:Nat) (p:Int) (m:Mv4):Int:=if m.t=p then (if m.j=(h:Int) then m.k else 0) - (if m.i=(h:Int) then m.k else 0) else 0
def Qwm (ms:List Mv4) (h t:Nat):((Kj ms (t + 1)).map (dM h t)).sum=Yp (atT ms t) h - Qw (atT ms t) h:=by
 unfold Kj atT Yp Qw
 induction ms with
 | nil=>rfl
 | cons m ms B=>
  rw [M0,M0]
  by_cases q:m.t=(t:Int)
  ·rw [bX (show decide (m.t < ((t + 1:Nat):Int))=zi by simp; omega),bX (show decide (m.t=(t:Int))=zi by simp [q])];rw [O5,E5,O5,E5,O5,E5,B];unfold dM;rw [bX q];have J:(m.j=(h:Int))=((h:Int)=m.j):=propext ⟨Eq.symm,Eq.symm⟩;have I:(m.i=(h:Int))=((h:Int)=m.i):=propext ⟨Eq.symm,Eq.symm⟩;simp only [J,I];omega
  ·rw [bY (show ¬ decide (m.t=(t:Int))=zi by simp [q])]
   by_cases G:m.t < ((t + 1:Nat):Int)
   ·rw [bX (show decide (m.t < ((t + 1:Nat):Int))=zi by simpa using G),O5,E5,B];unfold dM;rw [bY q]; omega
   ·rw [bY (show ¬ decide (m.t < ((t + 1:Nat):Int))=zi by simpa using G),B]
abbrev nlΓ (X:PV) (R h Mm:Nat) (lk hv mo:Int) (b7 b8 b9 b10 b11 b12:Option PV):Gam:=[zo X,zo (.ref R),zo (.int h),zo (.ref Mm),zo (.int lk),zo (.int hv),zo (.int mo),b7,b8,b9,b10,b11,b12]
theorem nl2 {X:PV} {R h Mm:Nat} {lk mo:Int} {b7 b12:Option PV} {S:Q0}:∀ (l:List Mv4) (I:Int) (Z b9 G B:Option PV),∃ c8 c9 Y U,Jn (Z2 (Qa (Q3 8) (Qa (Q3 9) (Qa (Q3 10) (Qa (Q3 11) Z3))))) Zj [] (l.map mvV) (nlΓ X R h Mm lk I mo b7 Z b9 G B b12) S=.nx (nlΓ X R h Mm lk (I + (l.map (dM h (mo - 1))).sum) mo b7 c8 c9 Y U b12) S
 | [],I,Z,b9,G,B=>⟨Z,b9,G,B,by rw [bz,bz,eN,iI]; simp [Jn]⟩
 | m :: l,I,Z,b9,G,B=>by
  obtain ⟨c8,c9,Y,U,e⟩:=nl2 (X:=X) (R:=R) (h:=h) (Mm:=Mm) (lk:=lk) (mo:=mo) (b7:=b7) (b12:=b12) (S:=S) l (I + dM h (mo - 1) m) (zo (.int m.t)) (zo (.int m.i)) (zo (.int m.j)) (zo (.int m.k));refine ⟨c8,c9,Y,U,?_⟩;have bd:Zj (nlΓ X R h Mm lk I mo b7 (zo (.int m.t)) (zo (.int m.i)) (zo (.int m.j)) (zo (.int m.k)) b12) S=.nx (nlΓ X R h Mm lk (I + dM h (mo - 1) m) mo b7 (zo (.int m.t)) (zo (.int m.i)) (zo (.int m.j)) (zo (.int m.k)) b12) S:=by
   have fin:∀ z,z=I + dM h (mo - 1) m->SR.nx (nlΓ X R h Mm lk z mo b7 (zo (.int m.t)) (zo (.int m.i)) (zo (.int m.j)) (zo (.int m.k)) b12) S=_:=λz e=>by rw [e]
   by_cases q:m.t=mo - 1
   ·by_cases J:m.j=(h:Int) <;> by_cases O:m.i=(h:Int)
    ·exact Eq.trans (Q8 (Uj (Yi (Qc (Xu S q)) (Qc (Xu S J))) rfl) (Uj (Yi (Qc (Xu S q)) (Qc (Xu S O))) rfl)) (fin _ (by rw [dM,bX q,bX J,bX O]; omega))
    ·exact Eq.trans (Q8 (Uj (Yi (Qc (Xu S q)) (Qc (Xu S J))) rfl) (Y2 (Yi (Qc (Xu S q)) (Qc (qq S O))) rfl)) (fin _ (by rw [dM,bX q,bX J,bY O]; omega))
    ·exact Eq.trans (Q8 (Y2 (Yi (Qc (Xu S q)) (Qc (qq S J))) rfl) (Uj (Yi (Qc (Xu S q)) (Qc (Xu S O))) rfl)) (fin _ (by rw [dM,bX q,bY J,bX O]; omega))
    ·exact Eq.trans (Q8 (Y2 (Yi (Qc (Xu S q)) (Qc (qq S J))) rfl) (Y2 (Yi (Qc (Xu S q)) (Qc (qq S O))) rfl)) (fin _ (by rw [dM,bX q,bY J,bY O]; omega))
   ·exact Eq.trans (Q8 (Y2 (Q0m (Qc (qq S q))) rfl) (Y2 (Q0m (Qc (qq S q))) rfl)) (fin _ (by rw [dM,bY q,iI]))
  rw [O5,Jn,bX (by simp),show (Z2 (Qa (Q3 8) (Qa (Q3 9) (Qa (Q3 10) (Qa (Q3 11) Z3))))) (mvV m) (nlΓ X R h Mm lk I mo b7 Z b9 G B b12)=zo (nlΓ X R h Mm lk I mo b7 (zo (.int m.t)) (zo (.int m.i)) (zo (.int m.j)) (zo (.int m.k)) b12) from rfl];simp only [bd];rw [O5,E5,<- Int.add_assoc];exact e
def Qmr {rss:zAA} (J:rss.length<=40) (B:∀ rs∈rss,RsOk n rs) (a2:1<=n) (hn:n<=8) (hh:h < n) (hx:xs.length=n) (h0:∀ k,0<=xs.getD k 0) (b1:ms.length<=9000) (r:Run rss (Qu rss h 0) xs rss.length ms) (hR:S[R]?=zo (.lst (rss.map Qp))) (hM:S[Mm]?=zo (.lst (ms.map mvV))) {t:Nat} (ht:t<=rss.length) {I:Nat->Int} (O:Has ms (bn 0 (t - 1)) (λk=>xs.getD k 0) I) (lk:Int) (b7 b8 b9 q G b12:Option PV) :
  ∃ (T:Q0) (y:Nat->Int) (c7 c8 c9 a3 a4 b3:Option PV),Has ms (bn 0 t) (λk=>xs.getD k 0) y/\Zk (nlΓ (.tup (xs.map .int)) R h Mm lk (I h) t b7 b8 b9 q G b12) S=.nx (nlΓ (.tup (xs.map .int)) R h Mm lk (y h) t c7 c8 c9 a3 a4 b3) (S ++ T):=by
 obtain ⟨y,Z⟩:=r.upto ht;have a1:∀ m∈ms,0<=m.t:=λm hm=>by
  obtain ⟨_,ry⟩:=r;exact (may_parts.mp (ry.may m hm)).1.1
 have a8:I h + ((Kj ms t).map (dM h ((t:Int) - 1))).sum=y h:=by
  cases t with
  | zero=>
   have e1:Kj ms 0=[]:=by
    unfold Kj;rw [eK];intro m hm;have:=a1 m hm;simp; omega
   rw [e1,show I=y from Has.det O Z];simp
  | succ t=>
   rw [show ((t + 1:Nat):Int) - 1=(t:Int) by push_cast; omega,Qwm];have e:=eL (s:=0) (m:=t) (n:=1);rw [<- e] at Z;obtain ⟨z,h1,h2⟩:=Z.split;rw [show t + 1 - 1=t by omega] at O;have:I=z:=Has.det O h1;subst this;obtain ⟨_,w,w1,w2⟩:(∀ k,0<=I k - Qw (atT ms (0 + t)) k)/\∃ z:Nat->Int,(∀ k,z k=I k - Qw (atT ms (0 + t)) k + Yp (atT ms (0 + t)) k)/\Has ms [] z y:=h2;have w2:∀ k,y k=w k:=w2;rw [w2,w1,dN]; omega
 obtain ⟨a9,hg,ys,hL,b0⟩:=r.gath B hx ht Z h;have a6:y h<=X6 n (Qh rss h) t xs:=by
  rw [<- b0];exact Qaz B hh ht () a9 hx h0 hL
 obtain ⟨c8,c9,a3,a4,e2⟩:=nl2 (X:=.tup (xs.map .int)) (R:=R) (h:=h) (Mm:=Mm) (lk:=lk) (mo:=(t:Int)) (b7:=zo (.lst ((Kj ms t).map mvV))) (b12:=b12) (S:=S) (Kj ms t) (I h) b8 b9 q G;rw [a8] at e2;have so:W6 S (.ref Mm)=zo (ms.map mvV,[(Mm,.lst (ms.map mvV))]):=Q5e hM;have hl:(ms.map mvV).length<=1000000:=by rw [O3]; omega
 have b4:(Kj ms t).length<=9000:=F3 (eJ _ _) b1;have U:((Kj ms t).map mvV).length<=1000000:=by rw [O3]; omega
 have hc:J0 (Q3 0) Zf Zi [(Mm,.lst (ms.map mvV))] [zl,zo (.int t)] (ms.map mvV) S=.ok ((Kj ms t).map mvV) S:=by
  refine U8 mvV mvV _ (λx hx=>?_) λm hm=>⟨_,rfl,?_,λ_=>?_⟩
  ·have:x=(Mm,.lst (ms.map mvV)):=by simpa using hx
   subst this; exact hM
  ·simp! [Zf,mvV,mvI,Jm,atI,ixN]
  ·simp! [Zi]
 have a5:J4 S [.ref R]=.ok (.int rss.length) S:=by
  have:=ListAt.len (st:=S) (V:=.ref R) (.inr (.inr ⟨R,rfl,hR⟩));rw [O3] at this;exact this
 have b2:∀ T,Uy (S ++ T) [.ref R]=.ok (.lst (rss.map Qp)) (S ++ T):=λT=>ListAt.list (.inr (.inr ⟨R,rfl,by rw [O4 (O0.mp hR).1]; exact hR⟩))
 have a7:Uy S [.ref R]=.ok (.lst (rss.map Qp)) S:=ListAt.list (.inr (.inr ⟨R,rfl,hR⟩));obtain ⟨v,T,e3,hG⟩:=Q1m (V:=.lst (rss.map Qp)) (S:=S) (.inl rfl) J B a2 hn hh hx h0 (y h);have e4:=Qi0 a2 hn J B (V:=.lst (rss.map Qp)) (S:=S ++ T) (.inl rfl) hh hx (ms:=Kj ms t) () (y h) t;rw [hg] at e4;obtain ⟨t1,M1,b6,rfl⟩:∃ (t1:Nat) (M1:Nat),t1<=t/\v=.tup [.str "gathered",.int t1,.ref M1]:=by
  rcases hG with ⟨t1,M1,_,_,_,Y,_,rfl,_⟩ | ⟨Y,_⟩
  ·refine ⟨t1,M1,er λz=>Y t z a6,rfl⟩
  ·exact absurd a6 (Y t ht)
 have cc:∀ b5 b7 b8 b9 q G b12:Option PV,(Vw (toB (mOp oLt (Q1 6) (Q1 4))) (toB (mOp oEq (Q1 6) (Qj J4 (Q2 (Q1 1) Q7))))) [zo (.tup (xs.map .int)),zo (.ref R),zo (.int h),zo (.ref Mm),zo (.int lk),b5,zo (.int t),b7,b8,b9,q,G,b12] S=.ok (decide ((t:Int) < lk\/t=rss.length)) S:=λ_ _ _ _ _ _ _=>by
  by_cases q3:(t:Int) < lk
  ·rw [ba (.inl q3)]; exact Qdn (Qc (Qb rfl rfl (Qhs S q3)))
  ·refine Ww (Qc (Qb rfl rfl (Q5t S q3))) ?_
   by_cases q4:t=rss.length
   ·rw [ba (.inr q4)]; exact Qc (Qb rfl (Ji (Q4 rfl rfl) a5) (Xu S ()))
   ·rw [bZ ()]; exact Qc (Qb rfl (Ji (Q4 rfl rfl) a5) (qq S ()))
 by_cases q1:0 < y h
 ·by_cases q2:(t:Int) < lk\/t=rss.length
  ·rw [ba q2] at cc;exact ⟨T,y,_,_,_,_,_,_,Z,Q8 (Jj (qz (K1 (Xw rfl so hl) hc))) (Q8 (Wu (Xw rfl rfl U) e2) (Uj (Yi (Qc (Qb rfl rfl (Q1k S q1))) (cc _ _ _ _ _ _ _)) (Q8 (Jj (Qi (n:=4) (Q4 rfl (Q4 (Ji (Q4 rfl rfl) a7) (Q4 rfl (Q4 rfl rfl)))) rfl e3)) (Q8 (Y2 (Ww (Qc (Qb (Qb rfl rfl rfl) rfl (Qmu (v:=.str "gathered") rfl rfl))) (Qc (Qb (Qb rfl rfl rfl) rfl (Q4c _ ())))) rfl) (Y2 (Qc (Qb (Qi (n:=6) (Q4 rfl (Q4 (Ji (Q4 rfl rfl) (b2 T)) (Q4 rfl (Q4 rfl (Q4 rfl (Q4 rfl rfl)))))) rfl e4) rfl rfl)) rfl)))))⟩
  ·rw [bZ q2] at cc;exact ⟨[],y,_,_,_,_,_,_,Z,by rw [E9]; exact Q8 (Jj (qz (K1 (Xw rfl so hl) hc))) (Q8 (Wu (Xw rfl rfl U) e2) (Y2 (Yi (Qc (Qb rfl rfl (Q1k S q1))) (cc _ _ _ _ _ _ _)) rfl))⟩
 ·exact ⟨[],y,_,_,_,_,_,_,Z,by rw [E9]; exact Q8 (Jj (qz (K1 (Xw rfl so hl) hc))) (Q8 (Wu (Xw rfl rfl U) e2) (Y2 (Q0m (Qc (Qb rfl rfl (Q4c S q1)))) rfl))⟩
def Qhi {rss:zAA} (I:rss.length<=40) (a1:∀ rs∈rss,RsOk n rs) (Z:1<=n) (hn:n<=8) (hh:h < n) (hx:xs.length=n) (h0:∀ k,0<=xs.getD k 0) (a3:ms.length<=9000) (r:Run rss (Qu rss h 0) xs rss.length ms) (hR:S[R]?=zo (.lst (rss.map Qp))) (hM:S[Mm]?=zo (.lst (ms.map mvV))) (lk:Int):∃ T,Z7 [.tup (xs.map .int),.ref R,.int h,.ref Mm,.int lk] S=.ok (.bl zi) (S ++ T):=by
 have kp:∀ T t c,S[t]?=zo c->(S ++ T)[t]?=zo c:=λT t c e=>by rw [O4 (O0.mp e).1]; exact e
 obtain ⟨a7,S',e,T,y,U,b7,O,J,q,B,b12,rfl,rfl,_⟩:=Yu (g:=λk:Nat=>PV.int (k:Int)) (xs:=bc (rss.length + 1)) (ga:=Q3 6) (body:=Zk) (w:=[]) (Γ:=[zo (.tup (xs.map .int)),zo (.ref R),zo (.int h),zo (.ref Mm),zo (.int lk),zo (.int (xs.getD h 0)),zl,zl,zl,zl,zl,zl,zl]) (st:=S)
  (λi Γ st'=>∃ T y U b7 O J q B b12,Γ=[zo (.tup (xs.map .int)),zo (.ref R),zo (.int h),zo (.ref Mm),zo (.int lk),zo (.int (y h)),U,b7,O,J,q,B,b12]/\st'=S ++ T/\Has ms (bn 0 (i - 1)) (λk=>xs.getD k 0) y)
  (λ_ _ _ _=>by simp)
  (λi t Γ st' G ⟨T,y',U,b7,O,J,q,B,b12,g1,g2,Y⟩=>by
   subst g1; subst g2;have hi:=(O0.mp G).1;rw [F7] at hi;rw [L8 hi] at G;cases G;obtain ⟨T2,y,c7,c8,c9,a9,a6,a8,hy,e⟩:=Qmr I a1 Z hn hh hx h0 a3 r (kp T _ _ hR) (kp T _ _ hM) (t:=i) () Y lk b7 O J q B b12;exact ⟨_,rfl,_,_,e,T ++ T2,y,_,_,_,_,_,_,_,rfl,by rw [F4],hy⟩)
  ⟨[],λk=>xs.getD k 0,_,_,_,_,_,_,_,rfl,by simp,λ_=>rfl⟩
 rw [<- Yn] at e;have a5:=Q6i (xs:=xs) (k:=h) () S;have a2:J4 S [.ref R]=.ok (.int rss.length) S:=by
  have:=ListAt.len (st:=S) (V:=.ref R) (.inr (.inr ⟨R,rfl,hR⟩));rw [O3] at this;exact this
 have hb:-1000000<=(rss.length:Int) + 1/\(rss.length:Int) + 1<=1000000:=by omega
 have a4:((rss.length:Int) + 1).toNat=rss.length + 1:=by omega
 refine ⟨T,?_⟩;have step:Jz [zo (.tup (xs.map .int)),zo (.ref R),zo (.int h),zo (.ref Mm),zo (.int lk),zl,zl,zl,zl,zl,zl,zl,zl] S=.rt (.bl zi) (S ++ T):=by
  generalize S ++ T=S9,y h=hv,xs.getD h 0=xh,xs.map PV.int=xv,rss.length=rl at*;simp! [Jz,a5,a2,Qv,hb,a4,e,-zg,-Qit]
 show Jx Jz 13 _ S=_;unfold Jx;rw [show (([.tup (xs.map .int),.ref R,.int h,.ref Mm,.int lk]:List PV).map zo ++ bg (13 - [PV.tup (xs.map .int),.ref R,.int h,.ref Mm,.int lk].length) zl)=[zo (.tup (xs.map .int)),zo (.ref R),zo (.int h),zo (.ref Mm),zo (.int lk),zl,zl,zl,zl,zl,zl,zl,zl] from rfl,step]
def Qej (g:α->PV) {xs:List α} (I:Gam->Q0->Prop) {body:MS} (h:∀ x Γ st,x∈xs->I Γ st->∃ G,ga (g x) Γ=zo G/\∃ q B,I q B/\(body G st=.nx q B\/body G st=.bk q B)) (h0:I Γ st):∃ O st',Jn ga body [] (xs.map g) Γ st=.nx O st'/\I O st':=by
 induction xs generalizing Γ st with
 | nil=>exact ⟨Γ,st,by simp [Jn],h0⟩
 | cons x xs Y=>
  obtain ⟨G,h1,q,B,i2,J⟩:=h x Γ st E3 h0;rw [O5,Jn,bX (by simp),h1];rcases J with J | J
  ·simp only [J];exact Y (λy Γ st U=>h y Γ st (O7 _ U)) i2
  ·simp only [J];exact ⟨q,B,rfl,i2⟩
def Q7r {m:MS} {q:Gam} (h:m Γ S=.nx q S1) (h2:Ue S S1 S.length=S2):jm m Γ S=.nx q S2:=by rw [jk,h]; show SR.nx _ _=_; rw [h2]
def Qpu {a b:MS} {q:Gam} (h:a Γ S=.bk q S1):Q5 a b Γ S=.bk q S1:=by rw [Yf,h]
def Qmt {rss:zAA} (I:S[R]?=zo (.lst (rss.map Qp))):oNe S (.lst (rss.map Qp)) (.ref R)=.ok (.bl zb) S:=by
 have q:Za dep (.lst (rss.map Qp))=zi:=by simp [Za,dep,Qp,rdV]
 have G:der S (.ref R)=.lst (rss.map Qp):=by simp [der,I]
 have B:der S (.lst (rss.map Qp))=.lst (rss.map Qp):=rfl;unfold oNe;rw [G,B,bX ⟨q,q⟩,jc q]; rfl
def Qwp {m:ME} {xs:List PV} (q:m Γ S=.ok (.ref M) S) (h:S[M]?=zo (.lst xs)):Xs (Qe2 m) Γ S=.nx Γ (S.set M (.lst [])):=by
 rw [Q03];unfold Qe2;rw [q];simp only [J1,h,Yc]
def Qwq {m:ME} (q:m Γ S=.ok (.ref M) S) (h:S[M]?=zo (.dic ks)):Xs (Qe2 m) Γ S=.nx Γ (S.set M (.dic [])):=by
 rw [Q03];unfold Qe2;rw [q];simp only [J1,h,Yc]
theorem Q2y {S S':Q0} {D:Nat} {J kvs:List (Key × PV)} (h0:S[D]?=zo (.dic J)) (h:S'[D]?=zo (.dic kvs)) (hd:∀ (t:Nat) k,S[t]?=zo (Cell.dic k)->∀ I,S'[t]?≠zo (Cell.frd I)):∀ n,Ue S (S'.set D (.frd kvs)) n=if D < n then S' else S'.set D (.frd kvs)
 | 0=>by rw [bY ()]; rfl
 | n + 1=>by
  have hl:=(O0.mp h).1;rw [Ue,Q2y h0 h hd n]
  by_cases q:D < n
  ·rw [bX q,bX ()]
   split
   ·rename_i G B;exact absurd B (hd _ _ G _)
   ·rfl
  ·rw [bY q]
   by_cases z:D=n
   ·subst z;rw [D6 hl,h0,bX ()];exact Q80 h
   ·rw [E4 z,bY ()]
    split
    ·rename_i G B;exact absurd B (hd _ _ G _)
    ·rfl
variable {ns:List Int} {rss:zAA} {n h R:Nat} {xs:List Int} {S:Q0} {Γ:Gam} {am:Int}
def P43 (xs:List Int) (R h:Nat) (p:Gam):Prop:=∃ b0 b1 b2 b3 b4 b5 b9 b10 b11 b12,p=[b0,b1,b2,b3,b4,b5,zo (.ref R),zo (.int h),zo (.tup (xs.map .int)),b9,b10,b11,b12]
def Qww {p:Gam} (g:P43 xs R h p) (q:rss.length<=40) (G:∀ rs∈rss,RsOk n rs) (Y:1<=n) (hn:n<=8) (hh:h < n) (hx:xs.length=n) (h0:∀ k,0<=xs.getD k 0) (hR:S[R]?=zo (.lst (rss.map Qp))) (am:Int) (B U:Option PV):∃ Z T,Q2k (p ++ [zo (.int am),zo (.lst (rss.map Qp)),B,U]) S=.nx (p ++ [zo (.int am),zo (.lst (rss.map Qp)),B,Z]) (S ++ T):=by
 obtain ⟨_,_,_,_,_,_,_,_,_,_,rfl⟩:=g;obtain ⟨v,T,e1,g⟩:=Q1m (V:=.lst (rss.map Qp)) (S:=S) (.inl rfl) q G Y hn hh hx h0 am;have kp:∀ T,(S ++ T)[R]?=zo (.lst (rss.map Qp)):=λT=>by rw [O4 (O0.mp hR).1]; exact hR
 obtain ⟨O,e2⟩:=Qgc (kp T) q G hn hh hx g;have e3:oNe (S ++ T ++ O) (.lst (rss.map Qp)) (.ref R)=.ok (.bl zb) (S ++ T ++ O):=Qmt (by rw [F4]; exact kp _);have I:∀ (M:Nat) (c d:Cell),S.length<=M->(S ++ T)[M]?=zo c->((S ++ T ++ O)[M]?=zo c/\∃ J,(S ++ T ++ O).set M d=S ++ J):=λM c d hm e=>by
  refine ⟨by rw [O4 (O0.mp e).1]; exact e,(T ++ O).set (M - S.length) d,?_⟩;rw [F4,L0 _ _ hm]
 rcases g with ⟨t,M,ms,_,_,_,_,rfl,hM,a1⟩ | ⟨_,a,b,rfl,_,gb,_,lb⟩
 ·obtain ⟨k1,J,k2⟩:=I M _ (.lst []) a1 hM;exact ⟨_,J,Q8 (Jj (Qi (n:=4) (Q4 rfl (Q4 rfl (Q4 rfl (Q4 rfl rfl)))) rfl e1)) (Q8 (Y2 (Ww (Q10 (Qc (Qi (n:=5) (Q4 rfl (Q4 rfl (Q4 rfl (Q4 rfl (Q4 rfl rfl))))) rfl e2))) (Qc (Qb rfl rfl e3))) rfl) ((Qwp (Qb rfl rfl rfl) k1).trans (congrArg (SR.nx _) k2)))⟩
 ·obtain ⟨k1,J,k2⟩:=I b _ (.dic []) lb gb;exact ⟨_,J,Q8 (Jj (Qi (n:=4) (Q4 rfl (Q4 rfl (Q4 rfl (Q4 rfl rfl)))) rfl e1)) (Q8 (Y2 (Ww (Q10 (Qc (Qi (n:=5) (Q4 rfl (Q4 rfl (Q4 rfl (Q4 rfl (Q4 rfl rfl))))) rfl e2))) (Qc (Qb rfl rfl e3))) rfl) ((Qwq (Qb rfl rfl rfl) k1).trans (congrArg (SR.nx _) k2)))⟩
def Qsz {p:Gam} (g:P43 xs R h p) (J:rss.length<=40) (Z:∀ rs∈rss,RsOk n rs) (O:1<=n) (hn:n<=8) (hh:h < n) (hx:xs.length=n) (h0:∀ k,0<=xs.getD k 0) (hR:S[R]?=zo (.lst (rss.map Qp))) (am:Int) (U I G:Option PV):∃ a1 B q T,Q2m (p ++ [zo (.int am),U,I,G]) S=.nx (p ++ [zo (.int am),a1,B,q]) (S ++ T):=by
 have a2:Uy S [.ref R]=.ok (.lst (rss.map Qp)) S:=ListAt.list (.inr (.inr ⟨R,rfl,hR⟩));obtain ⟨a3,S1,e1,B,q,T,rfl,rfl⟩:=Yu (g:=λk:Nat=>PV.int (k:Int)) (xs:=bc 2) (ga:=Q3 15) (body:=Q2k) (w:=[]) (Γ:=p ++ [zo (.int am),zo (.lst (rss.map Qp)),I,G]) (st:=S)
  (λi Γ st'=>∃ B q T,Γ=p ++ [zo (.int am),zo (.lst (rss.map Qp)),B,q]/\st'=S ++ T) (λ_ _ _ _=>by simp)
  (λi x Γ st' _ ⟨B,q,T,g1,g2⟩=>by
   subst g1; subst g2;obtain ⟨Y,T2,e⟩:=Qww (S:=S ++ T) g J Z O hn hh hx h0 (by rw [O4 (O0.mp hR).1]; exact hR) am (zo (.int x)) q;obtain ⟨_,_,_,_,_,_,_,_,_,_,rfl⟩:=g;exact ⟨_,rfl,_,_,e,_,Y,T ++ T2,rfl,by rw [F4]⟩)
  ⟨_,_,[],rfl,by simp⟩
 rw [<- Yn] at e1;obtain ⟨_,_,_,_,_,_,_,_,_,_,rfl⟩:=g;exact ⟨_,_,_,T,Q8 (Jj (Ji (Q4 rfl rfl) a2)) (Wu (Q3g (n:=2) (by decide) rfl) e1)⟩
def Qvn (T:TapeAt S 0 ns) (h1:1<=n) (J:n<=8) (w:Nat) {c0 c2:Option PV} {t:Gam}:∃ (I:Nat) (lk:Int) (S':Q0),1<=I/\I<=8/\TapeAt S' 0 ns/\∀ {Z:MS} {r:SR},Z (c0 :: zo (.ref 0) :: c2 :: zo (.int I) :: zo (.int lk) :: zo (.int w) :: t) S'=r->(Q5 (J9 (toB (mOp oEq (Q1 5) (mC (.int 0)))) (Q5 (Qr 3 (mOp Y1 (mC (.int 2)) (Qg 2 Qf (Q2 (Q1 1) (Q2 (mC (.int 2)) Q7)))))
  (Qr 4 (mC (.int 2)))) Qs) (Q5 (J9 (toB (mOp oEq (Q1 5) (mC (.int 1)))) (Q5 (Qr 3 (mOp Y1 (mC (.int 6)) (Qg 2 Qf (Q2 (Q1 1) (Q2 (mC (.int 3)) Q7)))))
  (Qr 4 (mC (.int 3)))) Qs) Z)) (c0 :: zo (.ref 0) :: c2 :: zo (.int n) :: zo (.int 6) :: zo (.int w) :: t) S=r:=by
 by_cases O:w=0
 ·obtain ⟨d,S1,hd,B,_,G⟩:=Z5 T 2 (by decide) (by decide);exact ⟨2 + d,2,S1,by omega,by omega,B,λq=>Q8 (Uj (Qc (Qb rfl rfl (Xu S ()))) (Q8 (Jj (Qb rfl (Qi (n:=2) (Q4 rfl (Q4 rfl rfl)) rfl G) (Qf8 S1 2 d))) (Jj rfl))) (Q8 (Y2 (Qc (Qb rfl rfl (qq S1 ()))) rfl) (by push_cast at q; exact q))⟩
 ·by_cases U:w=1
  ·obtain ⟨d,S1,hd,B,_,G⟩:=Z5 T 3 (by decide) (by decide);exact ⟨6 + d,3,S1,by omega,by omega,B,λq=>Q8 (Y2 (Qc (Qb rfl rfl (qq S ()))) rfl) (Q8 (Uj (Qc (Qb rfl rfl (Xu S ()))) (Q8 (Jj (Qb rfl (Qi (n:=2) (Q4 rfl (Q4 rfl rfl)) rfl G) (Qf8 S1 6 d))) (Jj rfl))) (by push_cast at q; exact q))⟩
  ·exact ⟨n,6,S,h1,J,T,λq=>Q8 (Y2 (Qc (Qb rfl rfl (qq S ()))) rfl) (Q8 (Y2 (Qc (Qb rfl rfl (qq S ()))) rfl) q)⟩
def Qjg (k:Nat) (T:TapeAt S 0 ns) {cs:Gam} (hc:cs.length=14):∃ ds S2,ds.length=15/\TapeAt S2 0 ns/\(Q0j (zo (.fro (ns.map .int)) :: zo (.ref 0) :: zo (.int k) :: cs) S=.nx (zo (.fro (ns.map .int)) :: zo (.ref 0) :: ds) S2\/Q0j (zo (.fro (ns.map .int)) :: zo (.ref 0) :: zo (.int k) :: cs) S=.bk (zo (.fro (ns.map .int)) :: zo (.ref 0) :: ds) S2):=by
 obtain ⟨pp,cc,hS⟩:=id T;obtain ⟨_,i1,_⟩:=Q28 hS;have b1:J4 S [.fro (ns.map .int)]=.ok (.int ns.length) S:=by rw [Qiu,O3]
 by_cases g0:1 < k/\ns.length<=pp
 ·exact ⟨zo (.int k) :: cs,S,by rw [E7,hc],T,.inr (Qpu (Uj (Yi (Qc (Qb rfl rfl (Q1k S ()))) (Qc (Qb (Qb rfl rfl i1) (Ji (Q4 rfl rfl) b1) (show Res.ok (PV.bl (decide ((ns.length:Int)<=pp))) S=.ok (.bl zi) S by rw [ba ()])))) rfl))⟩
 have t0:(V8 (toB (mOp (oI λa b=>.bl (decide (b < a))) (Q1 2) (mC (.int 1)))) (toB (mOp (oI λa b=>.bl (decide (b<=a))) (mOp oIx (Q1 1) (mC (.int 1))) (Qj J4 (Q2 (Q1 0) Q7))))) (zo (.fro (ns.map .int)) :: zo (.ref 0) :: zo (.int k) :: cs) S=.ok zb S:=by
  by_cases q1:1 < k
  ·exact Yi (Qc (Qb rfl rfl (Q1k S ()))) (Qc (Qb (Qb rfl rfl i1) (Ji (Q4 rfl rfl) b1) (show Res.ok (PV.bl (decide ((ns.length:Int)<=pp))) S=.ok (.bl zb) S by rw [bZ ()])))
  ·exact Q0m (Qc (Qb rfl rfl (Q4c S ())))
 obtain ⟨d1,S1,g6,T1,_,e1⟩:=Z5 T 5 (by decide) (by decide);obtain ⟨n0,d3⟩:∃ n0:Nat,1 + (d1:Int)=n0:=⟨1 + d1,by push_cast; rfl⟩;have a1:=Qf8 S1 1 (d1:Int);rw [d3] at a1;obtain ⟨w,g9,hw,f1,_,d0⟩:=Z5 T1 6 (by decide) (by decide)
 match cs,hc with
 | [b3,b4,b5,b6,b7,b8,b9,d2,d8,b12,c6,c1,c7,b2],_=>
 obtain ⟨n,lk,S2,a5,I,T2,t4⟩:=Qvn f1 (n:=n0) () () w (c0:=zo (.fro (ns.map .int))) (c2:=zo (.int k)) (t:=[b6,b7,b8,b9,d2,d8,b12,c6,c1,c7,b2]);obtain ⟨mo,h3,f5⟩:∃ mo:Nat,mo<=40/\oIx S2 (.lst [.int 40,.int 3,.int 6,.int 6,.int 6,.int 6]) (.int w)=.ok (.int mo) S2:=by
  have:w=0\/w=1\/w=2\/w=3\/w=4\/w=5:=by omega
  rcases this with rfl | rfl | rfl | rfl | rfl | rfl
  ·exact ⟨40,by omega,rfl⟩
  ·exact ⟨3,by omega,rfl⟩
  all_goals exact ⟨6,by omega,rfl⟩
 obtain ⟨R,S3,rss,T3,a4,f8,f6,Z,_,e3⟩:=Qib T2 n mo I ();obtain ⟨h,S4,hh,T4,M4,e4⟩:=Z5 T3 n a5 ();obtain ⟨xs,J,T5,M5,hx,c8,e5⟩:=Qjk T4 n I;have h0:∀ k,0<=xs.getD k 0:=λk=>by
  rw [D5];cases z:xs[k]? with
  | none=>simp
  | some y=>exact (c8 y (D8 z)).1
 have a8:J[R]?=zo (.lst (rss.map Qp)):=by rw [M5.keep R Z,M4.keep R Z]; exact f6
 have B:rss.length<=40:=by omega
 have e6:=Q3x (.inr (.inr ⟨R,rfl,a8⟩)) B I a4 hh;have c9:=(O0.mp a8).1;have c3:=T5.lt;have a9:(J ++ [.dic (Qe n (Qu rss h 0)),.dic (Qe n (Qh rss h))])[R]?=zo (.lst (rss.map Qp)):=by rw [O4 c9]; exact a8
 have f0:(J ++ [.dic (Qe n (Qu rss h 0)),.dic (Qe n (Qh rss h))])[J.length]?=zo (.dic (Qe n (Qu rss h 0))):=by simp
 have a6:(J ++ [.dic (Qe n (Qu rss h 0)),.dic (Qe n (Qh rss h))])[J.length + 1]?=zo (.dic (Qe n (Qh rss h))):=by rw [D0 (),show J.length + 1 - J.length=1 by omega]; rfl
 have T6:TapeAt (J ++ [.dic (Qe n (Qu rss h 0)),.dic (Qe n (Qh rss h))]) 0 ns:=T5.of (by rw [O4 c3]);generalize J ++ [.dic (Qe n (Qu rss h 0)),.dic (Qe n (Qh rss h))]=S6 at*;have c4:J.length≠0:=by omega
 generalize J.length=A at*;obtain ⟨mt,G,h4,T7,M7,e7⟩:=Z5 T6 (rss.length + 1) () ();have a7:G[R]?=zo (.lst (rss.map Qp)):=by rw [M7.keep R Z]; exact a9
 have d5:G[A]?=zo (.dic (Qe n (Qu rss h 0))):=by rw [M7.keep A c4]; exact f0
 have a3:G[A + 1]?=zo (.dic (Qe n (Qh rss h))):=by rw [M7.keep _ ()]; exact a6
 have e8:=yn a3 I hx mt;have e9:=yn a3 I hx rss.length;have d9:Ue S6 (G.set (A + 1) (.frd (Qe n (Qh rss h)))) S6.length=G:=by
  rw [Q2y a6 a3,bX (O0.mp a6).1];intro u c hu c' b0
  by_cases u0:u=0
  ·subst u0;obtain ⟨_,_,q⟩:=T6;rw [q] at hu; cases hu
  ·rw [M7.keep u u0,hu] at b0; cases b0
 have d6:Ue G (G.set (A + 1) (.frd (Qe n (Qh rss h)))) G.length=G:=Qff a3;have cl:∀ {S:Q0},S[R]?=zo (.lst (rss.map Qp))->J4 S [.ref R]=.ok (.int rss.length) S:=λ{S} e=>by
  have:J4 S [.ref R]=.ok (.int ((rss.map Qp).length:Int)) S:=ListAt.len (.inr (.inr ⟨R,rfl,e⟩));rw [O3] at this; exact this
 have kp:∀ (T:Q0) (u:Nat) (c:Cell),G[u]?=zo c->(G ++ T)[u]?=zo c:=λT u c e=>by rw [O4 (O0.mp e).1]; exact e
 generalize X6 n (Qh rss h) mt xs=y1,X6 n (Qh rss h) rss.length xs=y2 at*;obtain ⟨p,hp⟩:∃ p:Gam,p=[zo (.fro (ns.map .int)),zo (.ref 0),zo (.int k),zo (.int n),zo (.int lk),zo (.int w),zo (.ref R),zo (.int h),zo (.tup (xs.map .int)),zo (.ref A),zo (.ref (A + 1)),zo (.int y1),zo (.int y2)]:=⟨_,rfl⟩;obtain ⟨g5,S8,f2,a2,O,U,Y,T8,rfl,rfl⟩:=Yu (g:=λz:Int=>PV.int z) (xs:=[if y1 > 1 then y1 else 1,y1 + 1,if y2 > 1 then y2 else 1,y2 + 1,1]) (ga:=Q3 13) (body:=Q2m) (w:=[]) (Γ:=p ++ [c6,c1,c7,b2]) (st:=G)
  (λi Γ st'=>∃ a2 O U Y T,Γ=p ++ [a2,O,U,Y]/\st'=G ++ T) (λ_ _ _ _=>by simp)
  (λi am Γ st' _ ⟨a2,O,U,Y,T,g1,g2⟩=>by
   subst g1; subst g2;obtain ⟨h5,h6,g7,T9,e⟩:=Qsz (S:=G ++ T) (p:=p) ⟨_,_,_,_,_,_,_,_,_,_,hp⟩ B a4 a5 I hh hx h0 (kp T _ _ a7) am O U Y;subst hp;exact ⟨_,rfl,_,_,e,_,_,_,_,T ++ T9,rfl,by rw [F4]⟩)
  ⟨_,_,_,_,[],rfl,by simp⟩
 subst hp;have d4:TapeAt (G ++ T8) 0 ns:=T7.of (by rw [O4 T7.lt]);obtain ⟨Mm,S9,ms,e2,T9,d7,f9,f7,f4,g3,g4,g8,c5⟩:=Qjy I B a4 d4 (kp T8 _ _ a7) (kp T8 _ _ d5) Z c4 hx c8;obtain ⟨TT,e0⟩:=Qhi B a4 a5 I hh hx h0 f4 c5 d7 f7 lk;have f3:TapeAt (S9 ++ TT) 0 ns:=T9.of (by rw [O4 T9.lt]);refine ⟨[zo (.int k),zo (.int n),zo (.int lk),zo (.int w),zo (.ref R),zo (.int h),zo (.tup (xs.map .int)),zo (.ref A),zo (.ref (A + 1)),zo (.int y1),zo (.int y2),a2,O,U,Y],S9 ++ TT,rfl,f3,.inl (Q8 (Y2 t0 rfl) (Q8 (Jj (Qb rfl (Qi (n:=2) (Q4 rfl (Q4 rfl rfl)) rfl e1) a1)) (Q8 (Jj rfl) (Q8 (Jj (Qi (n:=2) (Q4 rfl (Q4 rfl rfl)) rfl d0)) (t4 ?_)))))⟩
 ·refine Q8 (Jj (Qi (n:=3) (Q4 rfl (Q4 rfl (Q4 (Qb (Qj7 rfl) rfl f5) rfl))) rfl e3)) ?_;refine Q8 (Jj (Qi (n:=2) (Q4 rfl (Q4 rfl rfl)) rfl e4)) ?_;refine Q8 (Jj (Qi (n:=2) (Q4 rfl (Q4 rfl rfl)) rfl e5)) ?_;refine Q8 (Q7j (Qi (n:=3) (Q4 rfl (Q4 rfl (Q4 rfl rfl))) rfl e6) rfl) ?_;refine Q8 (Q7r (Jj (Qi (n:=3) (Q4 rfl (Q4 rfl (Q4 (Qi (n:=2) (Q4 rfl (Q4 (Qb (Ji (Q4 rfl rfl) (cl a9)) rfl (Qf8 S6 _ _)) rfl)) rfl e7) rfl))) rfl e8)) d9) ?_;refine Q8 (Q7r (Jj (Qi (n:=3) (Q4 rfl (Q4 rfl (Q4 (Ji (Q4 rfl rfl) (cl a7)) rfl))) rfl e9)) d6) ?_;refine Q8 (Wu (Xw (Qj7 (hl:=by simp) (Q4 (Ji (Q4 rfl (Q4 rfl rfl)) (Q9n G 1 y1)) (Q4 (Qb rfl rfl (Qf8 G _ _)) (Q4 (Ji (Q4 rfl (Q4 rfl rfl)) (Q9n G 1 y2)) (Q4 (Qb rfl rfl (Qf8 G _ _)) (Q4 rfl rfl)))))) rfl (by simp)) f2) ?_;exact Y2 (Q10 (Qc (Qi (n:=5) (Q4 rfl (Q4 rfl (Q4 rfl (Q4 (Qi (n:=4) (Q4 rfl (Q4 rfl (Q4 rfl (Q4 rfl rfl)))) rfl e2) (Q4 rfl rfl))))) rfl e0))) rfl
def Qhu (ns:List Int):Qct [.fro (ns.map .int)] []=.ok (.bl zi) []:=by
 obtain ⟨J,S1,G,_⟩:=Qej (g:=λk:Nat=>PV.int (k:Int)) (xs:=bc 4) (ga:=Q3 2) (body:=Q0j) (Γ:=zo (.fro (ns.map .int)) :: zo (.ref 0) :: bg 15 zl) (st:=[.lst [.fro (ns.map .int),.int 0,.int 0]])
  (λΓ st'=>(∃ cs:Gam,cs.length=15/\Γ=zo (.fro (ns.map .int)) :: zo (.ref 0) :: cs)/\TapeAt st' 0 ns)
  (λk Γ st' _ ⟨⟨cs,B,I⟩,T⟩=>by
   subst I
   match cs,B with
   | _ :: cs,B=>
   obtain ⟨ds,S2,h1,h2,O⟩:=Qjg k T (cs:=cs) (by simpa using B);exact ⟨_,rfl,_,S2,⟨⟨ds,h1,rfl⟩,h2⟩,O⟩)
  ⟨⟨_,rfl,rfl⟩,⟨0,0,rfl⟩⟩
 rw [<- Yn] at G;have step:Qc2 ([.fro (ns.map .int)].map zo ++ bg 16 zl) []=.rt (.bl zi) S1:=Q8 (Jj (Qp5 (S1:=[]) (ps:=[.fro (ns.map .int),.int 0,.int 0]) rfl)) (Q8 (Wu (Q3g (n:=4) (by decide) rfl) G) rfl);have q:fin [] (.bl zi) S1=.ok (.bl zi) []:=by simp [fin,fz]
 exact (Qiq (m:=Qc2) (nl:=17) (ps:=[.fro (ns.map .int)]) step).trans q
def Qn7:∀ ns:List Int,ns.length<=63->∃ st',Qct [.fro (ns.map .int)] []=.ok (.bl zi) st':=λns _=>⟨[],Qhu ns⟩
def all_mk {l:fB} {w:aK} {h:Heap} {fa f1 f2 f3 f4 f5 f6 f7 f8 f9 m2 n8 p5 q3 n9 o7 m7 n3 q0 o8 n4 m6 p3 q5 m3 l7 n5 p0 o4 o6 m4 o5 q7 m5 e7:aB} (X:K.In h) (G:h.Ns aV mg) (l4:mg "law" = zo (.ref fa))
  {g4 d9:Option aB} {g9:Array (Option aA)} {k8 e2 d8 e0 d2 e1:aA}
  {b8:Tok}
  {b9:Tok}
  (j0:bo K aV "law" = zo (zo (.ref e7)))
  (p7:K.lookup e7=zo ⟨k8,g4,.func (bu "law" "law" (Wn xm) (Zz xm) (Q9 xm) .none e2 d8 e0 d9 d2 e1),g9⟩)
  (p1:cm K d2 "law" = zi)
  (p9:cS K (.ref e7)=zi)
  (f0:bo K aV "all" = zo zl)
  (e5:bo K aV "any" = zo zl)
  (d7:bo K aV "bool" = zo zl)
  (d6:bo K aV "dict" = zo zl)
  (c4:bo K aV "enumerate" = zo zl)
  (g3:bo K aV "int" = zo zl)
  (c2:bo K aV "isinstance" = zo zl)
  (e6:bo K aV "len" = zo zl)
  (d5:bo K aV "list" = zo zl)
  (e3:bo K aV "max" = zo zl)
  (e4:bo K aV "min" = zo zl)
  (d3:bo K aV "range" = zo zl)
  (g0:bo K aV "set" = zo zl)
  (d1:bo K aV "sorted" = zo zl)
  (e8:bo K aV "sum" = zo zl)
  (d4:bo K aV "tuple" = zo zl)
  (e9:bo K aV "zip" = zo zl)
  (b6:bo K aV "MOST_HOUSES" = zo (zo (.int 8 b8)))
  (c0:bo K aV "MOST_ROUNDS" = zo (zo (.int 40 b9)))
  (h1:FA K "is_whole" yd f1)
  (h2:FA K "is_between" Kw f2)
  (h3:FA K "is_rising" j7 f3)
  (h4:FA K "is_road" Q0r f4)
  (h5:FA K "are_roads_of_round" W7 f5)
  (h6:FA K "are_roads" j8 f6)
  (h7:FA K "need_roads" Ku f7)
  (h8:FA K "arrivals" yf f8)
  (h9:FA K "moment_of" j6 f9)
  (q6:FA K "asked_moments" Us m2)
  (q4:FA K "home_moments" Xf n8)
  (l8:FA K "behind_round" Xg p5)
  (l0:FA K "is_by" Q6q q3)
  (m0:FA K "houses_home_by" Vy n9)
  (l5:FA K "way" Qg5 o7)
  (p6:FA K "moves_home" Kv m7)
  (n2:FA K "gathered" ye n3)
  (m9:FA K "may_be_moved" Xe q0)
  (p4:FA K "has_at" Q3c o8)
  (l9:FA K "gathers" Q0s n4)
  (l3:FA K "_law_e_stirred" Vz m6)
  (n0:FA K "_law_e_digit" Xj p3)
  (o3:FA K "_law_e_drawn_roads" W9 q5)
  (n6:FA K "_law_e_is_dict" U1 m3)
  (q1:FA K "_law_e_first" Xi l7)
  (l6:FA K "_law_e_moments" U0 n5)
  (o2:FA K "_law_e_judged" Ut p0)
  (o1:FA K "_law_e_sums" K2 o4)
  (n7:FA K "_law_e_some_moves" Wq o6)
  (o0:FA K "_law_e_home_by" U2 m4)
  (q2:FA K "_law_e_are_moves" V4 o5)
  (o9:FA K "_law_e_right" Xh q7)
  (p8:FA K "_law_e_never_later" W8 m5)
  (hL:noL K=zi) :
  ∃ fd:aR,(∀ (s:aC) (v:aA),BindsTo s fd ⟨[v],[]⟩ [("script",v)])/\∀ base:Heap,K.In base->base.Ns aV mg->FnOk l.prog w K mg base (CXD l.prog w) 9 fa fd ["script"] (Q6m K):=by
 have e:=l4.symm.trans (dX X G j0);cases e;have T:Txt mg:=⟨bt X G f0,bt X G e5,bt X G d7,bt X G d6,bt X G c4,bt X G g3,bt X G c2,bt X G e6,bt X G d5,bt X G e3,bt X G e4,bt X G d3,bt X G g0,bt X G d1,bt X G e8,bt X G d4,bt X G e9,⟨_,dX X G b6⟩,⟨_,dX X G c0⟩⟩;obtain ⟨_,A1⟩:=Wv ["thing"] X G h1;obtain ⟨_,A2⟩:=Wv ["thing", "least", "most"] X G h2 (λ_ _ _ _ _ _ _ q=>by obtain ⟨_,_,_,rfl⟩:=ln3 q;rfl);obtain ⟨_,A3⟩:=Wv ["things"] X G h3;obtain ⟨_,A4⟩:=Wv ["n", "thing"] X G h4;obtain ⟨_,A5⟩:=Wv ["n", "thing"] X G h5;obtain ⟨_,A6⟩:=Wv ["n", "thing"] X G h6
 obtain ⟨_,A7⟩:=Wv ["n", "roads", "house"] X G h7 (λ_ _ _ _ _ _ _ q=>by obtain ⟨_,_,_,rfl⟩:=ln3 q;rfl);obtain ⟨_,A8⟩:=Wv ["roads", "house", "moment"] X G h8 (λ_ _ _ _ _ _ _ q=>by obtain ⟨_,_,_,rfl⟩:=ln3 q;rfl);obtain ⟨_,A9⟩:=Wv ["found", "house"] X G h9;obtain ⟨_,g8⟩:=Wv ["n", "roads", "house"] X G q6 (λ_ _ _ _ _ _ _ q=>by obtain ⟨_,_,_,rfl⟩:=ln3 q;rfl);obtain ⟨_,i4⟩:=Wv ["n", "roads", "house"] X G q4 (λ_ _ _ _ _ _ _ q=>by obtain ⟨_,_,_,rfl⟩:=ln3 q;rfl);obtain ⟨_,i6⟩:=Wv ["has", "moves"] X G l8;obtain ⟨_,k7⟩:=Wv ["moment", "last"] X G l0;obtain ⟨_,k0⟩:=Wv ["homes", "moment"] X G m0;obtain ⟨_,j3⟩:=Wv ["roads", "house", "moment", "to"] X G l5 (λ_ _ _ _ _ _ _ q=>by obtain ⟨_,_,_,_,rfl⟩:=ln4 q;rfl);obtain ⟨_,i7⟩:=Wv ["rights", "roads", "house", "moment"] X G p6 (λ_ _ _ _ _ _ _ q=>by obtain ⟨_,_,_,_,rfl⟩:=ln4 q;rfl);obtain ⟨_,g6⟩:=Wv ["rights", "roads", "house", "amount"] X G n2 (λ_ _ _ _ _ _ _ q=>by obtain ⟨_,_,_,_,rfl⟩:=ln4 q;rfl);obtain ⟨_,j2⟩:=Wv ["roads", "asks", "moment", "move"] X G m9 (λ_ _ _ _ _ _ _ q=>by obtain ⟨_,_,_,_,rfl⟩:=ln4 q;rfl);obtain ⟨_,k6⟩:=Wv ["rights", "moves", "moment"] X G p4 (λ_ _ _ _ _ _ _ q=>by obtain ⟨_,_,_,rfl⟩:=ln3 q;rfl);obtain ⟨_,g7⟩:=Wv ["rights", "roads", "house", "amount", "moment", "moves"] X G l9 (λ_ _ _ _ _ _ _ q=>by obtain ⟨_,_,_,_,_,_,rfl⟩:=ln6 q;rfl);obtain ⟨_,k9⟩:=Wv ["cell", "place"] X G l3;obtain ⟨_,h0⟩:=Wv ["tape", "many"] X G n0;obtain ⟨_,i9⟩:=Wv ["tape", "n", "most"] X G o3 (λ_ _ _ _ _ _ _ q=>by obtain ⟨_,_,_,rfl⟩:=ln3 q;rfl)
 obtain ⟨_,i0⟩:=Wv ["found", "n"] X G n6;obtain ⟨_,k5⟩:=Wv ["roads", "start", "moment", "end"] X G q1 (λ_ _ _ _ _ _ _ q=>by obtain ⟨_,_,_,_,rfl⟩:=ln4 q;rfl);obtain ⟨_,k3⟩:=Wv ["n", "roads", "house"] X G l6 (λ_ _ _ _ _ _ _ q=>by obtain ⟨_,_,_,rfl⟩:=ln3 q;rfl);obtain ⟨_,i5⟩:=Wv ["sums", "roads", "moments", "house", "amount", "moment", "moves"] X G o2 (λ_ _ _ _ _ _ _ q=>by obtain ⟨_,_,_,_,_,_,_,rfl⟩:=ln7 q;rfl);obtain ⟨_,i3⟩:=Wv ["tape", "n"] X G o1;obtain ⟨_,g5⟩:=Wv ["tape", "sums", "roads", "moments"] X G n7 (λ_ _ _ _ _ _ _ q=>by obtain ⟨_,_,_,_,rfl⟩:=ln4 q;rfl);obtain ⟨_,i8⟩:=Wv ["sums", "homes", "moment"] X G o0 (λ_ _ _ _ _ _ _ q=>by obtain ⟨_,_,_,rfl⟩:=ln3 q;rfl);obtain ⟨_,j1⟩:=Wv ["moves"] X G q2;obtain ⟨_,j5⟩:=Wv ["sums", "roads", "house", "amount", "found"] X G o9 (λ_ _ _ _ _ _ _ q=>by obtain ⟨_,_,_,_,_,rfl⟩:=ln5 q;rfl);obtain ⟨_,k4⟩:=Wv ["sums", "roads", "house", "moves", "looks"] X G p8 (λ_ _ _ _ _ _ _ q=>by obtain ⟨_,_,_,_,_,rfl⟩:=ln5 q;rfl);have m8:=Qsy (st:=xm) (ps:=["script"]) X G j0 p7 p1 p9 λ_ _ _ _ _ _ us hl=>match us,hl with | [_],_=>rfl
 refine ⟨bu "law" "law" (Wn xm) (Zz xm) (Q9 xm) .none e2 d8 e0 d9 d2 e1,λs v=>.of_eq rfl,λbase kb nb=>?_⟩;have c6:=A1.d l.prog w base rfl (Q8c A1.F T    );have U:=A2.d l.prog w base rfl (Q52 A2.F T   c6 );have c5:=A3.d l.prog w base rfl (Q6w A3.F T    );have c9:=A4.d l.prog w base rfl (Qaf A4.F T   U );have Z:=A5.d l.prog w base rfl (qv A5.F T   c9 c5 );have c3:=A6.d l.prog w base rfl (Q6x A6.F T   U Z );have a6:=A7.d l.prog w base rfl (Q50 A7.F T   c3 U );have a3:=A8.d l.prog w base rfl (Q8e A8.F T    );have a9:=A9.d l.prog w base rfl (Q6v A9.F T    );have q:=g8.d l.prog w base rfl (Q0y g8.F T   a3 a9 );have Y:=i4.d l.prog w base rfl (Q1y i4.F T   q a9 a3 )
 have b2:=i6.d l.prog w base rfl (Q1z i6.F T    );have c7:=k7.d l.prog w base rfl (Qhb k7.F T    );have J:=k0.d l.prog w base rfl (xq k0.F T   c7 );have g1:=j3.d l.prog w base rfl (Qrk j3.F T   a3 );have c1:=i7.d l.prog w base rfl (Q51 i7.F T   q Y J g1 );have b1:=g6.d l.prog w base rfl (Q8d g6.F T   a6 Y J c1 q );have b3:=j2.d l.prog w base rfl (Q1x j2.F T   c7 );have d0:=k6.d l.prog w base rfl (Qdp k6.F T   b2 );have c8:=g7.d l.prog w base rfl (Qag g7.F T   a6 q b3 d0 );have a7:=k9.d l.prog w base rfl (xr k9.F T    );have B:=h0.d l.prog w base rfl (Q22 h0.F T   a7 );have a2:=i9.d l.prog w base rfl (qx i9.F T   B )
 have a8:=i0.d l.prog w base rfl (xu i0.F T    );have b5:=k5.d l.prog w base rfl (Q21 k5.F T    );have O:=k3.d l.prog w base rfl (xt k3.F T   b5 );have b0:=i5.d l.prog w base rfl (Q0z i5.F T    );have b7:=i3.d l.prog w base rfl (Q3v i3.F T   B );have a4:=g5.d l.prog w base rfl (jg g5.F T   B );have I:=i8.d l.prog w base rfl (xw i8.F T    );have a5:=j1.d l.prog w base rfl (zw j1.F T    );have b4:=j5.d l.prog w base rfl (Q20 j5.F T   O a8 I a5 b0 );have a1:=k4.d l.prog w base rfl (qw k4.F T   b1 c8 );exact Qn6 hL (Qrm m8.F T   B a2 b7 O I b1 b4 a1 a4 ) Qn7
end Lw
end
namespace PySem.W.Fast
local macro_rules|`(command|open $n*)=>return Lean.mkNullNode (<-n.mapM λn=>`(command|theorem $n:ident:True:=trivial))
open tw16365789551135197156 tw2070209314791730590 tw2067742067230324248 tw5763358323177124668 tw4134353572780118101 tw14305615148303370860 tw2788157697277391209 tw13846727185783894036 tw9434338820461750695 te5878424710179238627 te10588812752271409924 te9181245953111922868 te8928153854081456293 te13037374506900580410 te10079521489194803272 te2084767107368254059 te7924484135643777870 te7246308612615752978 te8355471503689973872 te1970964177145745198 te9132418966169957443 te3745910078512737912 te10345545120970195449 te5549340168688869265 te1773817387081619119 te10801897504166206128 te8539459031621670696 te561663893917972408 te10100810020803905445 te14581737763090455397 te17675889792926708302 te12255872516426557677 te11580907807217479575 te12947005053906030546 te5951905491014934535 te17401825454264153733 te10609111658715272444 te15706921557547901311 te5519003956081566774 te1148336814732492986 te16192646048986045477 te16587724573802504790 te6213614113545758414 te15305589693456112087 te9554086839834078540 te6460400086992053174 te5285810009902990704 te14307767675181231077 te7024288073894814260 te5481052426112881110 te9783538131709504939 te15335556748028904942 te11942362907207153620 te673882064609592901 te12365342573909506597 te14730889118638853331 te7670716826339147960 te7993144460754167135 te4883681129049437401 te7782766098038615929 te9511364191852832814 te3031807522924220534 te1651062876853670638 te16245421400970371671 te11525291899818003525 te7076555575846456303 te4783577914233011866 te14011389502496049229 te3042629439652144617 te12223808402890901294 te8698550594371716090 te3054623833735367143 te5121244181016431226 te1013156169081984777 te8197711157142864961 te6712325470291109354 te15046741407720496135 te15904200014071320508 te17333451437174412437 te7877962703729987732 te13688152345878978196 te7302378139111692036 te2786916320740785933 te4481456170308922317 te983896626059633065
end PySem.W.Fast
open PySem PySem.W PyProof.Rows Sm
set_option maxRecDepth 100000 in
set_option maxHeartbeats 0 in
theorem PySem.Challenge.cw_lendwharf_k43_whole_gathered_first_holds : PySem.Challenge.rw_lendwharf_k43_whole_gathered_first.Holds := by
 w_on; o_law; k_head; (case hw=>w_witness2)
 k_fill
 refine Sm.walkS (l:=PySem.Challenge.rw_lendwharf_k43_whole_gathered_first) (k:=9) rfl ⟨rfl,by decide,by decide⟩ rfl (fun w h Y=>PySem.W.kIn_of Y) ?F
 case F=>
  intro w mg fa h KX G hmg;refine' Lw.all_mk KX G hmg ..
  any_goals k_is
  any_goals exact FA.mk (by k_is) (by k_is) (by k_is) (by k_is)
  all_goals first | rfl | decide
