import PyProof.Rows.All
import Wide.All
import OpenK.AllK
import Wide.FinOn
import Lean
import PyProof.EqAt
import PyProof.EqKinds
import PyProof.TupleCall
import PyProof.ZipIter
import PyProof.Draws
import PyProof.SumAny
import PyProof.EnumMake
import PyProof.WalkInts
import PyProof.ExcArgsOwn
import PyProof.ExcAttrAll.ValueError
import PyProof.NsDelKeeps
import KE.KTryMore
import OpenK.KOwn
import PyProof.ListMulRoad
import PyProof.FactsAll.tuple_2
import PyProof.NeKinds
import PyProof.Rows.RuleIs
import PyProof.ExcInit
import PyProof.ExcClass3
import OpenK.KCls
import PyProof.InstStoreFacts
import OpenK.KMake
import PyProof.DictRoads
import PyProof.Rows.CountFlat
import PyProof.ListRange
import PyProof.Rows.SetFrom
import PyProof.CollectStr
import PyProof.Rows.TupMore
import PyProof.AttrMissHeap
import KE.KDictOf
import PyProof.DictWalks
import KE.KSortTup
import PyProof.DictItemsLoops
import KE.KDictList
import PyProof.CallStr
import PyProof.Conv_int_bool
import PySem.Challenge.RW_lendwharf_k83_whole_runs_stand
open Lean Parser Command in
local macro_rules|`(command|def $i:declId $s:optDeclSig $v:declVal)=>`(command|noncomputable def $i $s:optDeclSig $v:declVal)
open Lean Parser Command in
local macro_rules|`(command|abbrev $i:declId $s:optDeclSig $v:declVal)=>`(command|noncomputable abbrev $i $s:optDeclSig $v:declVal)
set_option Elab.async false
set_option linter.all false
set_option maxRecDepth 100000
set_option maxHeartbeats 4000000
open List renaming getElem?_eq_some_iff -> O0, length_map -> O2, size_toArray -> O3, getElem?_append_left -> O4, getElem?_eq_getElem -> O5, length_append -> O6, mem_range -> O8, getElem?_set_ne -> O9, mem_cons_of_mem -> D1, getElem?_append_right -> D2, mem_of_getElem? -> D4, length_range -> D5, mem_cons_self -> D6, length_cons -> D8, length_set -> D9, getElem?_map -> E2, mem_cons -> E3, getElem?_range -> E4, lookup_cons -> E6, getElem?_set_self -> E7, map_append -> F0, mem_append_right -> F2, getElem?_eq_none -> F3, getD_eq_getElem?_getD -> F4, mem_append -> F6, map_cons -> F7, all_eq_true -> F9, map_map -> G6, mem_append_left -> G8, getElem?_replicate -> G9, append_assoc -> L5, append_nil -> L6
open PySem.Heap renaming get?_push_of_some -> O1, lt_size -> D0, get?_push_size -> D7, get?_update_other -> F5, size_push -> F8, get?_update_self -> L8
open Nat renaming le_refl -> O7, lt_of_lt_of_le -> D3, ne_of_lt -> E8, le_of_lt -> E9, le_trans -> F1, lt_irrefl -> L7
open Bool renaming false_ne_true -> E5, and_eq_true -> G7
open PySem renaming Addr -> aA, Value -> aB, Shared -> aC, Expr -> aD, wpAny_bind -> aF, wpAny -> aI, model -> aJ, Stmt -> aK, eval -> aL, starEach -> aM, FuncData -> aN, World -> aO, Program -> aP, wpAny_pure -> aQ, Around -> aR, mainGlobals -> aS, backTo -> aU, compareOp -> aV, binaryOp -> aW, wpAny_field -> aX, IsPair -> aY, bootBuiltins -> aZ, rawInt -> aa, cLine -> ae, wpAny_mono -> af, cellsFrom -> ag, sysModules -> ai, holding -> aj, attributeBase -> ak, NameKind -> ao, assignEach -> aq, wpAny_truthy_bool -> ar, foldedSetIterable -> au, wpAny_newObj_type -> av, Paired -> aw, pyNext -> ay, call_meets -> az, wpAny_seqItems -> bA, wpAny_holding -> bB, wpAny_passesOwn -> bC, wpAny_call_entry -> bD, sliceBounds -> bE, valueAt -> bF, behindInMarks -> bG, codeAny_mono -> bH, wpAny_setField_rec -> bI, wpAny_pyIter_tuple -> bJ, wpAny_typeOf -> bK, wpAny_rule -> bL, wpAny_isInstance -> bN
open List renaming range -> bS, replicate -> bV, getD -> ba, lookup -> bv, mem_filter -> cE, length_take -> cF, length_nil -> cG, replicate_succ -> cH, find?_cons -> cI, range_succ -> cJ, mem_map -> cK, of_mem_zip -> cQ, length_drop -> cR, flatten_cons -> cS, foldl_cons -> cU, all_cons -> cW, prefix_refl -> cX, not_mem_nil -> cZ, map_nil -> cj, mem_iff_getElem -> cr, getElem?_zip_eq_some -> cx, ext_getElem? -> cy, mem_singleton -> cz, map_congr_left -> dE, all_map -> dG, length_pos_iff -> dH, prefix_append -> dM, any_eq_true -> dO, filterMap_cons -> dU, nodup_cons -> dY, length -> dZ, length_replicate -> da, foldl -> df, forIn_cons -> dh, any_cons -> di, any_map -> dj, getElem_mem -> dk, getElem_of_mem -> dl, nodup_append -> dm, getElem?_set -> dn, drop_zero -> dq, length_zip -> du, length_filter_le -> dz, mem_or_eq_of_mem_set -> eA, mem_filterMap -> eI, zip_cons_cons -> eV, length_singleton -> ec, forIn_nil -> fA, sum_append -> fB, take_length -> fC, range_succ_eq_map -> fD, drop_length -> fJ, eq_of_mem_replicate -> fM, find?_cons_of_neg -> fN, any_eq_false -> fW, nil_append -> fu, zipIdx_cons -> gC, zipIdx_nil -> gD, isEmpty_toArray -> gJ, isEmpty_iff -> gK, pairwise_iff_getElem -> gO, getElem?_cons_succ -> gR, drop_eq_getElem_cons -> gT, map_take -> gV, set_append_right -> gW, take_of_length_le -> gc, mem_toArray -> gd, nodup_nil -> gf, any_filter -> gh, map_replicate -> gk, eq_replicate_iff -> gm, map_set -> gr, set -> gw, mem_flatMap -> gx
open PySem.Str renaming ofString -> bT, empty -> fZ
open PySem.W renaming Frag -> bU, nsIn -> bX, excIn -> bY, findIn -> bZ, fnOf -> bg, keepIn -> bi, mg_of -> bj, mg_none_of -> bo, kia_one -> bq, emptyDict -> bu, codeIn -> bx, instObj -> cD, plainGet -> dB, isFn -> dC, callWith_K -> dD, exmOne -> dL, hideAll -> dR, hideAll_get -> dS, lookIn -> dW, hasDictIn -> dX, clsIn -> eB, methodObj -> eF, plainGet_of -> eJ, plainOver -> eK, takerIn -> eM, makesIn -> eN, specialIn -> eP, mroIn -> eQ, kitOne -> eT, cellsFrom_some -> eU, OpenLaw -> eu, of_hideAll -> fQ, hideAll_none -> fR, handedIn -> fX, looks_findIn -> fY, takesIn -> fb, kitx_list -> fe, kitx_dict -> fh, methodCall_KW -> fj, WalkO -> fw
open PySem.Value renaming ref -> bW, none -> bb, isStrOf -> bp, bool -> cC, int -> cc, builtin -> cv, str -> dA, type -> dQ, float -> eC, isInt -> fO, bytes -> fP, notImplemented -> fm
open Int renaming le_refl -> bc, le_trans -> bh, toNat_natCast -> cA, fdiv_eq_ediv_of_nonneg -> fV, ediv_nonneg -> fx, ediv_le_self -> fy, emod_eq_of_lt -> gq, le_antisymm -> gu, add_zero -> gy
open Option.some renaming inj -> bf
open PySem.Obj renaming mapFields -> br, data_mapFields -> cB, mapSeq -> cp, isFreed_of_fields -> dF, cls_mapFields -> ez
open Nat renaming ne_of_gt -> bt, lt_succ_self -> cO, le_succ -> cP, lt_succ_of_lt -> cV, sub_self -> cY, not_lt_zero -> cb, zero_le -> cg, le_of_ble_eq_true -> dP, le_of_eq -> eO, mul_comm -> ee, eq_zero_or_pos -> fG, min_self -> fH, min_le_right -> fo, lt_of_le_of_lt -> gE, sub_zero -> gP, min_le_left -> gQ, zero_add -> gS, le_total -> gX, min_eq_left -> gY, min_eq_right -> gZ, add_sub_cancel_left -> gi, pow_le_pow_right -> gj, mul_le_mul -> gz
open PySem renaming mem_of_lookup -> bw, Env -> dw, Within -> eE, call -> ek, list_append -> ft, seqSlot_of -> gG, boot_len -> gg
open Sum renaming inl -> cL, inr -> cM
open PyProof.Rows renaming callWith_type1 -> ce, slot_tuple_getitem -> db, envOfC -> dy, callWith_builtin1 -> hJ, lt_int -> hU, isnot_bool -> hW
open Array renaming getElem?_eq_some_iff -> cu, length_toList -> eG, getElem?_setIfInBounds_ne -> fE, append_assoc -> fS, toList -> fT
open Prod renaming fst -> cw, snd -> fF
open PySem.F renaming excBase_ValueError -> dJ, slot_tuple_add -> eX, entry_tuple_add -> eY, args_tuple_add_2 -> eZ, slot_dict_get -> gM, plainAttrs_list -> gU
open Bool renaming eq_iff_iff -> dN, and_false -> dg, true_and -> fL, false_and -> fU, false_eq_true -> gB, not_true -> gF, or_eq_true_iff -> gH, or_eq_true -> gL
open Option renaming bind_some -> fK, isSome_iff_exists -> fk, getD_none -> fq
noncomputable section
theorem bO {c:Prop}{h:Decidable c}(j:c){α:Sort _}{t e:α}:ite c t e=t:=if_pos j
theorem bP {c:Prop}{h:Decidable c}(j:¬c){α:Sort _}{t e:α}:ite c t e=e:=if_neg j
theorem bQ {p:Prop}[i:Decidable p](h:¬p):decide p=false:=decide_eq_false h
theorem bR {p:Prop}[i:Decidable p](h:p):decide p=true:=decide_eq_true h
namespace L2
open PySem PySem.Spec PyProof.Rows
abbrev Key:=Sum Int Str
def Kz:Key->aB->Bool
 | .inl k,v=>fO k v
 | .inr x,v=>bp x v
def J2h (w:aO):Key->Int
 | .inl k=>hashInt k
 | .inr x=>hashStr w x
theorem Wd:∀ {k:Key} {v:aB},Kz k v=true->(∃ i t,k=cL i/\v=cc i t)\/(∃ x t,k=cM x/\v=dA x t)
 | .inl i,v,h=>by
  obtain ⟨t,e⟩:=Value.isInt_shape (k:=i) (v:=v) h;exact .inl ⟨i,t,rfl,e⟩
 | .inr x,v,h=>by
  obtain ⟨t,e⟩:=Value.isStrOf_shape (x:=x) (v:=v) h;exact .inr ⟨x,t,rfl,e⟩
theorem Qj0 (i:Int) (t:Tok):Kz (.inl i) (.int i t)=true:=by simp [Kz,fO]
theorem Qiz (x:Str) (t:Tok):Kz (.inr x) (.str x t)=true:=by simp [Kz,bp]
theorem Qwx (a b:Int):decide ((cL a:Key)=cL b)=(a == b):=by
 by_cases e:a=b
 ·subst e; simp
 ·have h:¬ (cL a:Key)=cL b:=fun q=>e (Sum.inl.inj q)
  rw [bQ h];exact (beq_eq_false_iff_ne.mpr e).symm
theorem Qwu (a b:Str):decide ((cM a:Key)=cM b)=decide (a=b):=by
 by_cases e:a=b
 ·subst e; simp
 ·have h:¬ (cM a:Key)=cM b:=fun q=>e (Sum.inr.inj q)
  rw [bQ h,bQ e]
theorem Qww (a:Int) (b:Str):decide ((cL a:Key)=cM b)=false:=bQ (fun q=>nomatch q)
theorem Qwv (a:Str) (b:Int):decide ((cM a:Key)=cL b)=false:=bQ (fun q=>nomatch q)
def Qt (prog:aP) (w:aO):PySem.KeyKind prog w Key where
 is:=Kz
 hash:=J2h w
 inj:=fun v a b ha hb=>by
  rcases Wd ha with ⟨i,t,rfl,rfl⟩ | ⟨x,t,rfl,rfl⟩
  ·rcases Wd hb with ⟨j,u,rfl,e⟩ | ⟨y,u,rfl,e⟩
   ·injection e with e1 _; rw [e1]
   ·exact nomatch e
  ·rcases Wd hb with ⟨j,u,rfl,e⟩ | ⟨y,u,rfl,e⟩
   ·exact nomatch e
   ·injection e with e1 _; rw [e1]
 byValue:=fun k v h=>by
  rcases Wd h with ⟨i,t,rfl,rfl⟩ | ⟨x,t,rfl,rfl⟩ <;> rfl
 pyHash:=fun hv h=>by
  rcases Wd hv with ⟨i,t,rfl,rfl⟩ | ⟨x,t,rfl,rfl⟩
  ·exact wpAny_pyHash_int h
  ·exact wpAny_pyHash_str h
 eqBool:=fun hu hv h=>by
  rcases Wd hu with ⟨i,t,rfl,rfl⟩ | ⟨x,t,rfl,rfl⟩
  ·rcases Wd hv with ⟨j,u,rfl,rfl⟩ | ⟨y,u,rfl,rfl⟩
   ·rw [Qwx] at h; exact wpAny_eqBool_int h
   ·rw [Qww] at h; exact SeqAt.EqAt.int_str i t y u _ _ _ _ h
  ·rcases Wd hv with ⟨j,u,rfl,rfl⟩ | ⟨y,u,rfl,rfl⟩
   ·rw [Qwv] at h; exact SeqAt.EqAt.str_int x t j u _ _ _ _ h
   ·rw [Qwu] at h; exact wpAny_eqBool_str h
 «strs»:=fun k x t v h=>by
  rcases Wd h with ⟨i,u,rfl,e⟩ | ⟨y,u,rfl,e⟩
  ·exact nomatch e
  ·injection e with e1 _
   subst e1;cases v <;> rfl
theorem Qdk (prog:aP) (w:aO) (i:Int) (t:Tok):(Qt prog w).is (.inl i) (.int i t)=true:=Qj0 i t
theorem Qdj (prog:aP) (w:aO) (x:Str) (t:Tok):(Qt prog w).is (.inr x) (.str x t)=true:=Qiz x t
inductive V where
 | non | bl (b:Bool) | int (i:Int) | str (x:Str) | byt (b:Array UInt8) | flt (b:UInt64) | ref (a:aA) | ty (n:String)
 deriving DecidableEq
def RelV:V->aB->Prop
 | .non,u=>u=bb
 | .bl b,u=>u=cC b
 | .int i,u=>∃ t,u=cc i t
 | .str x,u=>∃ t,u=dA x t
 | .byt b,u=>∃ t,u=fP b t
 | .flt b,u=>∃ t,u=eC b t
 | .ref a,u=>u=bW a
 | .ty n,u=>u=dQ n
abbrev Vals:List V->List aB->Prop:=aw RelV
theorem Vals.length {xs:List V} {us:List aB} (r:Vals xs us):xs.length=us.length:=Paired.length r
theorem Vals.get:∀ {xs:List V} {us:List aB} {i:Nat} {x:V},Vals xs us->xs[i]?=some x->∃ u,us[i]?=some u/\RelV x u
 | _,_,_,_,.nil,e=>by simp at e
 | _,_,0,_,.cons r _,e=>by simp at e; subst e; exact ⟨_,rfl,r⟩
 | _,_,i + 1,x,.cons _ t,e=>by
  obtain ⟨u,h1,h2⟩:=Vals.get (i:=i) (x:=x) t (by simpa using e);exact ⟨u,by simpa using h1,h2⟩
theorem Vals.set {x:V} {u:aB} (r:RelV x u):∀ {xs:List V} {us:List aB} (i:Nat),Vals xs us->Vals (xs.set i x) (us.set i u)
 | _,_,_,.nil=>.nil
 | _,_,0,.cons _ t=>.cons r t
 | _,_,i + 1,.cons q t=>.cons q (Vals.set r i t)
theorem Vals.append:∀ {xs ys:List V} {us j:List aB},Vals xs us->Vals ys j->Vals (xs ++ ys) (us ++ j)
 | _,_,_,_,.nil,s=>s
 | _,_,_,_,.cons r t,s=>.cons r (Vals.append t s)
theorem Vals.take:∀ {xs:List V} {us:List aB} (n:Nat),Vals xs us->Vals (xs.take n) (us.take n)
 | _,_,0,_=>.nil
 | _,_,_ + 1,.nil=>.nil
 | _,_,n + 1,.cons r t=>.cons r (Vals.take n t)
theorem Vals.drop:∀ {xs:List V} {us:List aB} (n:Nat),Vals xs us->Vals (xs.drop n) (us.drop n)
 | _,_,0,r=>r
 | _,_,_ + 1,.nil=>.nil
 | _,_,n + 1,.cons _ t=>Vals.drop n t
def RelO:Option V->Option aB->Prop
 | some v,some u=>RelV v u
 | none,none=>True
 | _,_=>False
def KV {κ:Type}:List (κ × V)->List (κ × aB)->Prop:=aw fun (p:κ × V) (q:κ × aB)=>p.1=q.1/\RelV p.2 q.2
def kV:Key->V
 | .inl i=>.int i
 | .inr x=>.str x
inductive HO where
 | lst (xs:List V)
 | tup (xs:List V)
 | dK (kvs:List (Key × V)) | dT (kvs:List (List Key × V))
 | set (S:Int->Bool) (n:Nat)
 | ins (C dx:aA) (fs:List (Str × V))
 | own (x:aA)
 | xd (fs:List (Str × V))
 | met (f x:aA)
 | rng (lo hi:Int)
 | frz (o:Obj) (u:HO)
 | tbl (ps:Array aB)
 | ext (φ:Heap->Prop)
abbrev Hp:=aA->Option HO
def upd (H:Hp) (a:aA) (o:HO):Hp:=fun b=>if b=a then some o else H b
theorem J5 {H:Hp} {a:aA} {o:HO}:upd H a o a=some o:=by unfold upd; rw [bO rfl]
theorem Qa {H:Hp} {a b:aA} {o:HO} (h:b≠a):upd H a o b=H b:=by unfold upd; rw [bP h]
theorem Qd {H:Hp} {a b:aA} {o:HO} (h:H a=some o) (h':H b=none):a≠b:=by
 intro e; subst e; rw [h] at h'; cases h'
section
variable (P:aP) (w:aO)
def ObjOk (H:Hp) (h:Heap) (a:aA):HO->Prop
 | .lst xs=>xs.length<=sizeLine/\∃ (its:List aB) (n:Nat),Vals xs its/\h.get? a=some { cls:=.type "list",data:=.seq its.toArray n }
 | .tup xs=>xs.length<=sizeLine/\∃ its:List aB,Vals xs its/\IsTup h a its.toArray
 | .dK kvs=>kvs.length<=sizeLine/\(a == ai)=false/\∃ vs,KV kvs vs/\h.DictOf (Qt P w) a vs
 | .dT kvs=>kvs.length<=sizeLine/\(a == ai)=false/\∃ xs:List (List Key × aA × aB),
   aw (fun (p:List Key × V) (q:List Key × aA × aB)=>p.1=q.1/\H q.2.1=some (.tup (p.1.map kV))/\RelV p.2 q.2.2) kvs xs /\
   ∃ o es ep,h.get? a=some o/\o.ExactDict/\o.data=.dict es ep/\es.toList=xs.map (entryOfKey (tupleKind (Qt P w)))/\(xs.map (·.1)).Nodup
 | .set S n=>h.SetOf (intKind P w) a S n
 | .ins C dx fs=>H dx=some (.own a)/\fs.length<=1000/\dx≠a/\h.get? a=some (cD C dx) /\
   ∃ mA,h.Ns1 dx mA/\(∀ f,RelO (fs.lookup f) (mA f))/\eE mA (fs.map (·.1))
 | .own _=>∃ o,h.get? a=some o
 | .xd fs=>∃ mA,h.Ns1 a mA/\∀ f,RelO (fs.lookup f) (mA f)
 | .rng lo hi=>∃ t u v,h.get? a=some { cls:=.type "range",data:=.fields #[.int lo t,.int hi u,.int 1 v] }
 | .frz o u=>h.get? a=some o/\ObjOk H h a u
 | .tbl ps=>h.get? a=some { cls:=.none,data:=.fields ps }
 | .met f x=>h.get? a=some (eF (.ref f) (.ref x))
 | .ext φ=>φ h/\(∃ o,h.get? a=some o)/\∀ h1 h2:Heap,φ h1->(∀ o,h1.get? a=some o->h2.get? a=some o)->φ h2
def HOk (H:Hp) (h:Heap):Prop:=∀ a o,H a=some o->ObjOk P w H h a o
end
section
variable {P:aP} {w:aO} {H H':Hp} {h h':Heap} {a:aA} {o:HO}
theorem ObjOk.lt (x:ObjOk P w H h a o):a < h.objs.size:=by
 cases o with
 | lst xs=>obtain ⟨_,_,_,_,e⟩:=x; exact D0 e
 | tup xs=>obtain ⟨_,_,_,p⟩:=x; exact p.lt
 | dK kvs=>obtain ⟨_,_,_,_,o,_,_,e,_⟩:=x; exact D0 e
 | dT kvs=>obtain ⟨_,_,_,_,o,_,_,e,_⟩:=x; exact D0 e
 | set S n=>obtain ⟨o,_,_,_,e,_⟩:=x; exact D0 e
 | ins C dx fs=>obtain ⟨_,_,_,e,_⟩:=x; exact D0 e
 | own y=>obtain ⟨_,e⟩:=x; exact D0 e
 | xd fs=>obtain ⟨_,⟨_,_,_,e,_⟩,_⟩:=x; exact D0 e
 | rng lo hi=>obtain ⟨_,_,_,e⟩:=x; exact D0 e
 | frz ob u=>obtain ⟨e,_⟩:=x; exact D0 e
 | tbl ps=>exact D0 (show h.get? a=some _ from x)
 | met f y=>exact D0 (show h.get? a=some _ from x)
 | ext j=>obtain ⟨_,⟨_,e⟩,_⟩:=x; exact D0 e
theorem Paired.mapP {α β:Type} {F G:α->β->Prop}:∀ {l₁:List α} {j:List β},aw F l₁ j->(∀ a b,F a b->G a b)->aw G l₁ j
 | _,_,.nil,_=>.nil
 | _,_,.cons r t,f=>.cons (f _ _ r) (Paired.mapP t f)
theorem ObjOk.stay (x:ObjOk P w H h a o) (k:∀ b u,(b=a\/H b=some (.own a))->h.get? b=some u->h'.get? b=some u)
  (G:∀ b,H b=some (.own a)->H' b=some (.own a)) (I:∀ b xs,H b=some (.tup xs)->H' b=some (.tup xs)):ObjOk P w H' h' a o:=by
 induction o with
 | lst xs=>obtain ⟨z,its,n,r,e⟩:=x; exact ⟨z,its,n,r,k _ _ (.inl rfl) e⟩
 | tup xs=>obtain ⟨z,its,r,ob,e,c⟩:=x; exact ⟨z,its,r,ob,k _ _ (.inl rfl) e,c⟩
 | dK kvs=>obtain ⟨z,y,vs,r,ob,es,j,e,c⟩:=x; exact ⟨z,y,vs,r,ob,es,j,k _ _ (.inl rfl) e,c⟩
 | dT kvs=>
  obtain ⟨z,y,xs,r,ob,es,j,e,c⟩:=x;exact ⟨z,y,xs,Paired.mapP r fun p q z=>⟨z.1,I _ _ z.2.1,z.2.2⟩,ob,es,j,k _ _ (.inl rfl) e,c⟩
 | set S n=>obtain ⟨ob,es,j,t,e,c⟩:=x; exact ⟨ob,es,j,t,k _ _ (.inl rfl) e,c⟩
 | ins C dx fs=>
  obtain ⟨d,z,ne,e,mA,⟨B,es,j,e2,c⟩,r⟩:=x;exact ⟨G _ d,z,ne,k _ _ (.inl rfl) e,mA,⟨B,es,j,k _ _ (.inr d) e2,c⟩,r⟩
 | own y=>obtain ⟨ob,e⟩:=x; exact ⟨ob,k _ _ (.inl rfl) e⟩
 | xd fs=>obtain ⟨mA,⟨B,es,j,e,c⟩,r⟩:=x; exact ⟨mA,⟨B,es,j,k _ _ (.inl rfl) e,c⟩,r⟩
 | rng lo hi=>obtain ⟨t,u,v,e⟩:=x; exact ⟨t,u,v,k _ _ (.inl rfl) e⟩
 | frz ob u J=>obtain ⟨e,q⟩:=x; exact ⟨k _ _ (.inl rfl) e,J q⟩
 | tbl ps=>
  have e:h.get? a=some { cls:=.none,data:=.fields ps }:=x;show h'.get? a=some { cls:=.none,data:=.fields ps };exact k a _ (.inl rfl) e
 | met f y=>
  have e:h.get? a=some (eF (.ref f) (.ref y)):=x;show h'.get? a=some (eF (.ref f) (.ref y));exact k a _ (.inl rfl) e
 | ext O=>obtain ⟨p,⟨o,e⟩,st⟩:=x; exact ⟨st _ _ p fun o q=>k _ _ (.inl rfl) q,⟨o,k _ _ (.inl rfl) e⟩,st⟩
theorem HOk.lt (x:HOk P w H h) (e:H a=some o):a < h.objs.size:=(x a o e).lt
theorem HOk.fresh (x:HOk P w H h) (e:h.objs.size<=a):H a=none:=by
 cases q:H a with
 | none=>rfl
 | some u=>exact absurd (D3 (x.lt q) e) (L7 _)
theorem HOk.kept (x:HOk P w H h) (k:∀ b u,h.get? b=some u->h'.get? b=some u):HOk P w H h':=fun a o e=>
 (x a o e).stay (fun b u _ q=>k b u q) (fun _ q=>q) fun _ _ q=>q
theorem HOk.laid (x:HOk P w H h) (k:∀ b u,h.get? b=some u->h'.get? b=some u) (hp:h.objs.size<=a) (new:ObjOk P w (upd H a o) h' a o):HOk P w (upd H a o) h':=fun b u e=>by
 have j:=x.fresh hp
 by_cases z:b=a
 ·subst z; rw [J5] at e; cases e; exact new
 ·rw [Qa z] at e;exact (x b u e).stay (fun c v _ q=>k c v q) (fun c q=>by rw [Qa (Qd q j)]; exact q) fun c xs q=>by rw [Qa (Qd q j)]; exact q
end
def Rd (H:Hp) (a:aA) (u:HO):Prop:=H a=some u\/∃ o,H a=some (.frz o u)
theorem Rd.ok {P:aP} {w:aO} {H:Hp} {h:Heap} {a:aA} {u:HO} (r:Rd H a u) (x:HOk P w H h):ObjOk P w H h a u:=by
 rcases r with r | ⟨o,r⟩
 ·exact x a u r
 ·obtain ⟨_,q⟩:=x a _ r;exact q
def Mut:Option HO->Prop
 | some (.lst _)=>True
 | some (.dK _)=>True
 | some (.dT _)=>True
 | some (.set _ _)=>True
 | some (.ins _ _ _)=>True
 | some (.ext _)=>True
 | _=>False
section
variable {P:aP} {w:aO} {H:Hp} {h h':Heap} {x e:aA} {o':HO}
theorem HOk.write (ok:HOk P w H h) (O:Mut (H x)) (Z:e=x\/H e=some (.own x)) (k:∀ b u,b≠e->h.get? b=some u->h'.get? b=some u) (U:∃ u,h'.get? e=some u)
  (new:ObjOk P w (upd H x o') h' x o'):HOk P w (upd H x o') h':=fun b u q=>by
 have B:∀ c y,H c=some (.own y)->c≠x:=fun c y r z=>by subst z; rw [r] at O; exact O
 have G:∀ c xs,H c=some (.tup xs)->c≠x:=fun c xs r z=>by subst z; rw [r] at O; exact O
 by_cases J:b=x
 ·subst J; rw [J5] at q; cases q; exact new
 ·rw [Qa J] at q
  by_cases j:b=e
  ·have Y:H b=some (.own x):=by
    rcases Z with z | z
    ·exact absurd (j.trans z) J
    ·rw [j]; exact z
   rw [q] at Y; cases Y;obtain ⟨v,hv⟩:=U;exact ⟨v,by rw [j]; exact hv⟩
  ·refine (ok b u q).stay (fun c v I r=>k c v ?_ r) (fun c r=>by rw [Qa (B c b r)]; exact r) fun c xs r=>by rw [Qa (G c xs r)]; exact r
   rcases I with rfl | I
   ·exact j
   ·rintro rfl;rcases Z with z | z
    ·exact B c b I z
    ·rw [I] at z; cases z; exact J rfl
end
structure Un (fs ex:List aA) (H H':Hp) (h h':Heap):Prop where
 keep:∀ b o,h.get? b=some o->H b=none->b∉fs->b∉ex->h'.get? b=some o
 slot:∀ b o,h.get? b=some o->H b=none->b∈fs->b∉ex->∃ sl,h'.get? b=some { o with slots:=sl }
 free:∀ b o,h.get? b=some o->H b=none->b∉ex->H' b=none
 there:∀ b o,h.get? b=some o->b∉ex->∃ o',h'.get? b=some o'
 tups:∀ b xs,H b=some (.tup xs)->H' b=some (.tup xs)
 frzs:∀ b o u,H b=some (.frz o u)->H' b=some (.frz o u)
 tbls:∀ b ps,H b=some (.tbl ps)->∃ more,H' b=some (.tbl (ps ++ more))
section
variable {fs fs' ex ex':List aA} {H H1 H2:Hp} {h h1 h2 h':Heap} {a x e:aA} {o:HO}
theorem Un.any (u:Un fs ex H H1 h h1) {b:aA} {ob:Obj} (q:h.get? b=some ob) (n:H b=none) (j:b∉ex):∃ sl,h1.get? b=some { ob with slots:=sl }:=by
 by_cases z:b∈fs
 ·exact u.slot b ob q n z j
 ·exact ⟨ob.slots,u.keep b ob q n z j⟩
theorem Un.kept (k:∀ b u,h.get? b=some u->h'.get? b=some u):Un fs ex H H h h':=
 ⟨fun b ob q _ _ _=>k b ob q,fun b ob q _ _ _=>⟨ob.slots,k b ob q⟩,fun _ _ _ n _=>n,fun b ob q _=>⟨ob,k b ob q⟩,fun _ _ q=>q,fun _ _ _ q=>q,fun _ ps q=>⟨#[],by rw [q]; simp⟩⟩
theorem Un.refl:Un fs ex H H h h:=Un.kept fun _ _ q=>q
theorem Un.laid (k:∀ b u,h.get? b=some u->h'.get? b=some u) (hp:h.objs.size<=a) (j:H a=none):Un fs ex H (upd H a o) h h' where
 keep:=fun b u q _ _ _=>k b u q
 slot:=fun b u q _ _ _=>⟨u.slots,k b u q⟩
 free:=fun b u q n _=>by rw [Qa (E8 (D3 (D0 q) hp))]; exact n
 there:=fun b u q _=>⟨u,k b u q⟩
 tups:=fun b xs q=>by rw [Qa (Qd q j)]; exact q
 frzs:=fun b u xs q=>by rw [Qa (Qd q j)]; exact q
 tbls:=fun b ps q=>⟨#[],by rw [Qa (Qd q j),q]; simp⟩
theorem Un.write (B:Mut (H x)) (U:e=x\/H e=some (.own x)) (k:∀ b u,b≠e->h.get? b=some u->h'.get? b=some u) (G:∃ u,h'.get? e=some u):Un fs ex H (upd H x o) h h':=by
 have O:∀ b,H b=none->b≠x:=fun b n z=>by subst z; rw [n] at B; exact B
 have J:∀ b,H b=none->b≠e:=fun b n z=>by
  subst z;rcases U with r | r
  ·exact O b n r
  ·rw [n] at r; cases r
 have I:∀ b u,H b=some u->¬ Mut (some u)->b≠x:=fun b u q nm z=>by subst z; rw [q] at B; exact nm B
 refine ⟨fun b u q n _ _=>k b u (J b n) q,fun b u q n _ _=>⟨u.slots,k b u (J b n) q⟩,fun b u q n _=>by rw [Qa (O b n)]; exact n,fun b u q _=>?_,
  fun b xs q=>by rw [Qa (I b _ q fun z=>z)]; exact q,fun b u xs q=>by rw [Qa (I b _ q fun z=>z)]; exact q,fun b ps q=>⟨#[],by rw [Qa (I b _ q fun z=>z),q]; simp⟩⟩
 by_cases j:b=e
 ·subst j; exact G
 ·exact ⟨u,k b u j q⟩
end
def trk (h:Heap) (H:Hp):List aA:=(bS h.objs.size).filter fun a=>(H a).isSome
def Qc1 (h:Heap) (H:Hp):Heap:=dR h (trk h H)
theorem Qj8 (h:Heap) (H:Hp):(Qc1 h H).objs.size=h.objs.size:=PySem.W.hideAll_size _ _
theorem Qnv {h:Heap} {H:Hp} {b:aA} {o:Obj} (e:h.get? b=some o) (n:H b=none):(Qc1 h H).get? b=some o:=
 dS _ e fun j=>by
  have q:(H b).isSome=true:=(cE.mp j).2;rw [n] at q; simp at q
theorem Qsc {h:Heap} {H:Hp} {b:aA} {o:Obj} (e:(Qc1 h H).get? b=some o):h.get? b=some o/\H b=none:=by
 have j:h.get? b=some o:=fQ (trk h H) e;refine ⟨j,?_⟩;cases q:H b with
 | none=>rfl
 | some x=>
  have B:b∈trk h H:=cE.mpr ⟨O8.mpr (D0 j),by simp [q]⟩;have z:(Qc1 h H).get? b=none:=fR (trk h H) B;rw [z] at e; cases e
def Qtt (g h:Heap) (L:aA):List (aA × Obj):=(bS h.objs.size).filterMap fun a=>if a=L\/(g.get? a).isSome=true then none else (h.get? a).map fun o=>(a,o)
def rest (g h:Heap) (L d:aA):List (aA × Obj):=(Qtt g h L).filter fun p=>decide (p.1≠d)
structure Mod (K:bU) (mg:Str->Option aB) (base:Heap):Prop where
 kin:K.In base
 glob:base.Ns aS mg
 blt:∃ mb,base.Ns builtinsNs mb/\∀ x:Str,x≠"__name__" -> mb x=aZ x
 nolimit:base.NoLimit
structure Cx where
 prog:aP
 w:aO
 K:bU
 mg:Str->Option aB
 base:Heap
 A:aR
 N:List Str
 s₀:aC
 H₀:Hp
 env:Env
 outer:List Env
 stack:List Env
 ex:List aA
 fn:Str->Bool
 calm:Bool
 pn:List (aA × Obj)
 xe:aB->aC->Prop
def frs (l:List Env):List aA:=l.filterMap (·.frame)
abbrev Cx.fs (X:Cx):List aA:=frs X.outer
def Vis (sc:Scope) (x:Str):Prop:=sc.names.lookup x=some .local\/sc.names.lookup x=some .cell\/sc.names.lookup x=some .free
def Loc (sc:Scope) (x:Str):Prop:=sc.names.lookup x=some .local\/sc.names.lookup x=some .cell
def J0w (env:Env) (h:Heap) (m:Str->Option aB) (x:Str) (u:aB):Prop:=
 (env.kindOf x=some .local/\m x=some u)\/((env.kindOf x=some .cell\/env.kindOf x=some .free)/\∃ c,env.cells.lookup x=some c/\h.IsCell c (some u))
structure Cx.Ok (X:Cx):Prop where
 mod:Mod X.K X.mg X.base
 kind:X.env.scope.kind=.function
 glob:X.env.globals=aS
 blt:X.env.builtins=builtinsNs
 above:X.s₀.heap.objs.size<=X.env.locals
 inj:∀ x y c,X.env.cells.lookup x=some c->X.env.cells.lookup y=some c->x=y
 has:∀ x,(X.env.kindOf x=some .cell\/X.env.kindOf x=some .free)->∃ c,X.env.cells.lookup x=some c
 cab:∀ x c,X.fn x=true->X.env.cells.lookup x=some c->X.s₀.heap.objs.size<=c
 hd:X.calm=true->X.A.handled=none
 frames:X.A.frames=some X.stack
 stk:X.stack=X.outer\/(X.stack=X.env :: X.outer/\X.env.frame=some X.env.locals)
 exf:∀ b∈X.ex,b≠X.env.locals/\∀ x c,X.env.cells.lookup x=some c->c≠b
 bs:∀ b o,X.base.get? b=some o->X.s₀.heap.get? b=some o/\X.H₀ b=none
 bsz:X.base.objs.size<=X.s₀.heap.objs.size
 noex:∀ b o,X.base.get? b=some o->b∉X.ex
 exfs:∀ b∈X.ex,b∉X.fs
 funs:X.s₀.heap.FunFrames X.base X.outer
 frf:∀ b∈X.fs,X.H₀ b=none
structure Inv (X:Cx) (pins:List (aA × Obj)) (σ:List (Option V)) (H:Hp) (s:aC):Prop where
 ok:X.Ok
 os:s.os=X.s₀.os
 bare:AllBare s.gens
 base:Un X.fs X.ex X.H₀ H X.s₀.heap s.heap
 loc:∃ m,s.heap.Ns X.env.locals m/\∀ (i:Nat) (x:Str) (v:V),X.N[i]?=some x->σ[i]?=some (some v)->Vis X.env.scope x->∃ u,RelV v u/\J0w X.env s.heap m x u
 cell:∀ x c,X.env.cells.lookup x=some c->∃ v,s.heap.IsCell c v
 free:H X.env.locals=none
 freeC:∀ x c,X.env.cells.lookup x=some c->H c=none
 pin:∀ p∈X.pn ++ pins,s.heap.get? p.1=some p.2/\H p.1=none/\p.1≠X.env.locals/\p.1∉X.fs/\∀ v,p.2.data≠.cell v
 hok:HOk X.prog X.w H s.heap
 len:σ.length=X.N.length
section
variable {X:Cx} {pins:List (aA × Obj)} {σ:List (Option V)} {H H':Hp} {s:aC} {h':Heap}
theorem Cx.Ok.nofr (ok:X.Ok) {b:aA} {o:Obj} (e:X.base.get? b=some o):b∉X.fs:=fun j=>by
 have:=(ok.funs.mem j).1;rw [e] at this; cases this
theorem Inv.bs (I:Inv X pins σ H s):∀ b o,X.base.get? b=some o->s.heap.get? b=some o/\H b=none:=fun b o e=>
 ⟨I.base.keep b o (I.ok.bs b o e).1 (I.ok.bs b o e).2 (I.ok.nofr e) (I.ok.noex b o e),I.base.free b o (I.ok.bs b o e).1 (I.ok.bs b o e).2 (I.ok.noex b o e)⟩
theorem Inv.bk (I:Inv X pins σ H s):∀ b o,X.base.get? b=some o->s.heap.get? b=some o:=fun b o e=>(I.bs b o e).1
theorem Inv.mod (I:Inv X pins σ H s):Mod X.K X.mg X.base:=I.ok.mod
theorem Inv.kIn (I:Inv X pins σ H s):X.K.In s.heap:=I.ok.mod.kin.keeps I.bk
theorem Inv.lt (I:Inv X pins σ H s):X.env.locals < s.heap.objs.size:=let ⟨_,j,_⟩:=I.loc; j.lt
theorem Inv.sz (I:Inv X pins σ H s):X.s₀.heap.objs.size<=s.heap.objs.size:=F1 I.ok.above (E9 I.lt)
theorem Inv.nofs (I:Inv X pins σ H s) {a:aA} (h:s.heap.objs.size<=a):a∉X.fs:=fun q=>by
 obtain ⟨_,o,j,_⟩:=I.ok.funs.mem q;exact absurd (D3 (D0 j) (F1 I.sz h)) (L7 _)
theorem Inv.cne (I:Inv X pins σ H s):∀ x c,X.env.cells.lookup x=some c->c≠X.env.locals:=fun x c e z=>by
 obtain ⟨v,o,B,hd⟩:=I.cell x c e;obtain ⟨m,⟨o',es,G,q,j,_⟩,_⟩:=I.loc;rw [z,q] at B; cases B; rw [j] at hd; cases hd
theorem Inv.funs (I:Inv X pins σ H s):s.heap.FunFrames X.base X.outer:=by
 have all:∀ (l:List Env),(∀ b∈frs l,b∈X.fs)->X.s₀.heap.FunFrames X.base l->s.heap.FunFrames X.base l:=by
  intro l
  induction l with
  | nil=>intro _ _; trivial
  | cons env r Y=>
   intro hs U;obtain ⟨G,⟨L,o,B,O,J,hd⟩,hr⟩:=U;have j:L∈X.fs:=hs L (by unfold frs; rw [dU,B]; exact D6);obtain ⟨sl,e⟩:=I.base.slot L o J (I.ok.frf L j) j fun z=>I.ok.exfs L z j
   exact ⟨G,⟨L,_,B,O,e,hd⟩,Y (fun b q=>hs b (by unfold frs; rw [dU,B]; exact D1 _ q)) hr⟩
 exact all X.outer (fun _ q=>q) I.ok.funs
theorem Inv.stack (I:Inv X pins σ H s):s.heap.FunFrames X.base X.stack:=by
 rcases I.ok.stk with e | ⟨e,q⟩
 ·rw [e]; exact I.funs
 ·rw [e];obtain ⟨m,j,_⟩:=I.loc;refine .cons (by rw [I.ok.kind]; decide) q j ?_ I.funs;exact Heap.get?_none_of_le (F1 I.ok.bsz I.ok.above)
theorem Inv.stkSub (I:Inv X pins σ H s):∀ b∈frs X.stack,b∈X.env.locals :: X.fs:=fun b j=>by
 rcases I.ok.stk with e | ⟨e,q⟩
 ·rw [e] at j; exact D1 _ j
 ·rw [e] at j;unfold frs at j;rw [dU,q] at j;exact j
theorem Inv.stkFree (I:Inv X pins σ H s):∀ b∈frs X.stack,H b=none:=fun b j=>by
 rcases E3.mp (I.stkSub b j) with e | j
 ·rw [e]; exact I.free
 ·obtain ⟨_,o,q,_⟩:=I.ok.funs.mem j;exact I.base.free b o q (I.ok.frf b j) fun z=>I.ok.exfs b z j
theorem Inv.step {g':Array GenState} {t':Nat} {d':Drawn} {ch:List aA} (I:Inv X pins σ H s)
  (G:∀ b∈ch,(b∈X.ex\/X.s₀.heap.objs.size<=b)/\b≠X.env.locals/\(∀ x c,X.env.cells.lookup x=some c->c≠b)/\∀ p∈X.pn ++ pins,p.1≠b)
  (keep:∀ b o,b≠X.env.locals->b∉X.fs->b∉ch->s.heap.get? b=some o->H b=none->h'.get? b=some o)
  (slot:∀ b o,b≠X.env.locals->b∈X.fs->b∉ch->s.heap.get? b=some o->H b=none->∃ sl,h'.get? b=some { o with slots:=sl }) (free:∀ b o,b∉ch->s.heap.get? b=some o->H b=none->H' b=none)
  (there:∀ b o,b∉ch->s.heap.get? b=some o->∃ o',h'.get? b=some o')
  (tups:∀ b xs,H b=some (.tup xs)->H' b=some (.tup xs)) (frzs:∀ b o u,H b=some (.frz o u)->H' b=some (.frz o u)) (tbls:∀ b ps,H b=some (.tbl ps)->∃ more,H' b=some (.tbl (ps ++ more)))
  (ns:∀ m,s.heap.Ns X.env.locals m->h'.Ns X.env.locals m) (hok:HOk X.prog X.w H' h') (hg:AllBare g') :
  Inv X pins σ H' { s with heap:=h',gens:=g',drawn:=d',toks:=t' }:=by
 have Z:∀ b o,X.s₀.heap.get? b=some o->b≠X.env.locals:=fun b o e=>E8 (D3 (D0 e) I.ok.above)
 have O:∀ b o,X.s₀.heap.get? b=some o->b∉X.ex->b∉ch:=fun b o e j U=>by
  rcases (G b U).1 with z | z
  ·exact j z
  ·exact absurd (D3 (D0 e) z) (L7 _)
 have B:∀ x c,X.env.cells.lookup x=some c->∀ v,s.heap.IsCell c v->h'.IsCell c v:=fun x c e v ⟨o,Y,hd⟩=>by
  have J:c∉ch:=fun z=>(G c z).2.2.1 x c e rfl
  by_cases hc:c∈X.fs
  ·obtain ⟨sl,q⟩:=slot c o (I.cne x c e) hc J Y (I.freeC x c e);exact ⟨_,q,hd⟩
  ·exact ⟨o,keep c o (I.cne x c e) hc J Y (I.freeC x c e),hd⟩
 refine ⟨I.ok,I.os,hg,⟨fun b o e n U j=>?_,fun b o e n U j=>?_,fun b o e n j=>?_,fun b o e j=>?_,fun b xs e=>tups b xs (I.base.tups b xs e),fun b o xs e=>frzs b o xs (I.base.frzs b o xs e),fun b ps e=>?_⟩,?_,fun x c e=>?_,?_,fun x c e=>?_,fun p hp=>?_,hok,I.len⟩
 ·exact keep b o (Z b o e) U (O b o e j) (I.base.keep b o e n U j) (I.base.free b o e n j)
 ·obtain ⟨sl,e1⟩:=I.base.slot b o e n U j;obtain ⟨a2,e2⟩:=slot b _ (Z b o e) U (O b o e j) e1 (I.base.free b o e n j);exact ⟨a2,e2⟩
 ·obtain ⟨o',e1⟩:=I.base.there b o e j;exact free b o' (O b o e j) e1 (I.base.free b o e n j)
 ·obtain ⟨o',e1⟩:=I.base.there b o e j;exact there b o' (O b o e j) e1
 ·obtain ⟨m1,e1⟩:=I.base.tbls b ps e;obtain ⟨m2,e2⟩:=tbls b _ e1;exact ⟨m1 ++ m2,by rw [e2,fS]⟩
 ·obtain ⟨m,hn,hl⟩:=I.loc;refine ⟨m,ns m hn,fun i x v e1 e2 e3=>?_⟩;obtain ⟨u,r,l⟩:=hl i x v e1 e2 e3;refine ⟨u,r,?_⟩;rcases l with l | ⟨k,c,e,z⟩
  ·exact .inl l
  ·exact .inr ⟨k,c,e,B x c e _ z⟩
 ·obtain ⟨v,z⟩:=I.cell x c e;exact ⟨v,B x c e v z⟩
 ·obtain ⟨m,⟨o,_,_,Y,_⟩,_⟩:=I.loc;exact free _ o (fun z=>(G _ z).2.1 rfl) Y I.free
 ·obtain ⟨v,o,Y,hd⟩:=I.cell x c e;exact free c o (fun z=>(G c z).2.2.1 x c e rfl) Y (I.freeC x c e)
 ·obtain ⟨e,n,ne,nf,d⟩:=I.pin p hp;have J:p.1∉ch:=fun z=>(G p.1 z).2.2.2 p hp rfl
  exact ⟨keep p.1 p.2 ne nf J e n,free p.1 p.2 J e n,ne,nf,d⟩
theorem Inv.un {t':Nat} (I:Inv X pins σ H s) (u:Un X.fs [] H H' s.heap h') (hok:HOk X.prog X.w H' h'):Inv X pins σ H' { s with heap:=h',toks:=t' }:=by
 obtain ⟨m,⟨o,es,Z,J,r⟩,_⟩:=id I.loc;obtain ⟨sl,O⟩:=u.any J I.free (by simp);exact I.step (g':=s.gens) (d':=s.drawn) (ch:=[]) (fun _ z=>nomatch z) (fun b o _ q _ e n=>u.keep b o e n q (by simp)) (fun b o _ q _ e n=>u.slot b o e n q (by simp)) (fun b o _ e n=>u.free b o e n (by simp)) (fun b o _ e=>u.there b o e (by simp)) u.tups u.frzs u.tbls (fun m' U=>by
  obtain ⟨o',B,G,j,Y⟩:=U;rw [J] at j; cases j;exact ⟨_,B,G,O,Y⟩) hok I.bare
theorem Inv.call {g':Array GenState} {t':Nat} {d':Drawn} {ch:List aA} (I:Inv X pins σ H s) (u:Un (frs X.stack) ch H H' s.heap h') (hok:HOk X.prog X.w H' h') (Y:AllBare g')
  (q:∀ b∈ch,(b∈X.ex\/X.s₀.heap.objs.size<=b)/\b≠X.env.locals/\(∀ x c,X.env.cells.lookup x=some c->c≠b)/\∀ p∈X.pn ++ pins,p.1≠b) :
  Inv X pins σ H' { s with heap:=h',gens:=g',drawn:=d',toks:=t' }:=by
 obtain ⟨m,⟨o,es,ep,U,r⟩,_⟩:=id I.loc;obtain ⟨sl,G⟩:=u.any U I.free fun z=>(q _ z).2.1 rfl
 exact I.step (ch:=ch) q (fun b o G hb j e n=>u.keep b o e n (fun z=>(E3.mp (I.stkSub b z)).elim G hb) j) (fun b o _ _ j e n=>u.any e n j) (fun b o j e n=>u.free b o e n j) (fun b o j e=>u.there b o e j) u.tups u.frzs u.tbls (fun m' hm=>by
  obtain ⟨o',J,O,B,Z⟩:=hm;rw [U] at B; cases B;exact ⟨_,J,O,G,Z⟩) hok Y
theorem Inv.turned {t':Nat} {j:aA} (I:Inv X pins σ H s) (k:∀ b o,b≠j->s.heap.get? b=some o->h'.get? b=some o) (hn:H j=none) (J:j≠X.env.locals)
  (h1:j∈X.ex\/X.s₀.heap.objs.size<=j) (h2:∀ x c,X.env.cells.lookup x=some c->c≠j) (h3:∀ p∈X.pn ++ pins,p.1≠j):Inv X pins σ H { s with heap:=h',toks:=t' }:=by
 have G:∀ b u,H b=some u->b≠j:=fun b u e z=>by rw [z,hn] at e; cases e
 refine I.step (g':=s.gens) (d':=s.drawn) (ch:=[j]) (fun b Y=>?_) (fun b o _ _ B e _=>k b o (fun z=>B (by simp [z])) e) (fun b o _ _ B e _=>⟨o.slots,k b o (fun z=>B (by simp [z])) e⟩) (fun _ _ _ _ n=>n)
  (fun b o B e=>⟨o,k b o (fun z=>B (by simp [z])) e⟩) (fun _ _ e=>e) (fun _ _ _ e=>e) (fun b ps e=>⟨#[],by rw [e]; simp⟩) (fun m Z=>?_) (fun b u e=>?_) I.bare
 ·have e:b=j:=by simpa using Y
  subst e;exact ⟨h1,J,h2,h3⟩
 ·obtain ⟨o,es,U,O,r⟩:=Z;exact ⟨o,es,U,k _ o (Ne.symm J) O,r⟩
 ·refine (I.hok b u e).stay (fun c v B q=>k c v ?_ q) (fun _ q=>q) fun _ _ q=>q
  rcases B with z | z
  ·rw [z]; exact G b u e
  ·exact G c _ z
theorem Inv.tok (I:Inv X pins σ H s) (t:Nat):Inv X pins σ H { s with toks:=t }:=I.un (h':=s.heap) (t':=t) Un.refl I.hok
theorem Inv.kept {t':Nat} (I:Inv X pins σ H s) (k:∀ b u,s.heap.get? b=some u->h'.get? b=some u):Inv X pins σ H { s with heap:=h',toks:=t' }:=I.un (Un.kept k) (I.hok.kept k)
theorem Inv.laid {a:aA} {o:HO} {t':Nat} (I:Inv X pins σ H s) (k:∀ b u,s.heap.get? b=some u->h'.get? b=some u) (hp:s.heap.objs.size<=a) (new:ObjOk X.prog X.w (upd H a o) h' a o) :
  Inv X pins σ (upd H a o) { s with heap:=h',toks:=t' }:=I.un (Un.laid k hp (I.hok.fresh hp)) (I.hok.laid k hp new)
theorem Inv.write {x e:aA} {o:HO} {t':Nat} (I:Inv X pins σ H s) (q:Mut (H x)) (z:e=x\/H e=some (.own x)) (k:∀ b u,b≠e->s.heap.get? b=some u->h'.get? b=some u) (j:∃ u,h'.get? e=some u)
  (new:ObjOk X.prog X.w (upd H x o) h' x o):Inv X pins σ (upd H x o) { s with heap:=h',toks:=t' }:=I.un (Un.write q z k j) (I.hok.write q z k j new)
theorem Inv.pins_of {j:List (aA × Obj)} (I:Inv X pins σ H s) (h:∀ p∈j,s.heap.get? p.1=some p.2/\H p.1=none/\p.1≠X.env.locals/\p.1∉X.fs/\∀ v,p.2.data≠.cell v):Inv X j σ H s:=
 ⟨I.ok,I.os,I.bare,I.base,I.loc,I.cell,I.free,I.freeC,fun p hp=>(F6.mp hp).elim (fun z=>I.pin p (G8 _ z)) (h p),I.hok,I.len⟩
theorem Q7x {N:List Str} (q:N.Nodup) {i j:Nat} {x:Str} (a:N[i]?=some x) (b:N[j]?=some x):i=j:=by
 obtain ⟨h1,e1⟩:=O0.mp a;obtain ⟨h2,e2⟩:=O0.mp b;exact (List.getElem_inj q).mp (e1.trans e2.symm)
theorem Q9x {M:Model} {A:aR} {E:aB->aC->Prop} {i:Nat} {x:Str} {v:V} {u:aB} {Q:Unit->aC->Prop} (I:Inv X pins σ H s) (hN:X.N.Nodup) (hi:X.N[i]?=some x) (J:Loc X.env.scope x) (r:RelV v u)
  (h:∀ s',Inv X pins (σ.set i (some v)) H s'->(∃ a,Heap.SameBut a s.heap s'.heap/\(a=X.env.locals\/X.env.cells.lookup x=some a))->Q () s') (hf:X.fn x=true\/X.env.scope.names.lookup x=some .local:=by first | exact .inl rfl | exact .inr rfl | assumption):aI M A (storeName X.env x u) Q E s:=by
 obtain ⟨m,hn,hl⟩:=id I.loc;have a2:(X.env.scope.kind == .class || (X.env.scope.kind == .module && X.env.locals != X.env.globals))=false:=by rw [I.ok.kind]; rfl
 have Y:i < σ.length:=by rw [I.len]; exact (O0.mp hi).1
 have cne:=I.cne;have B:∀ {a:aA} {h':Heap},(∃ o,s.heap.get? a=some o/\H a=none)->Heap.SameBut a s.heap h'->HOk X.prog X.w H h':=fun {a h'} ha hs b ob e=>by
  obtain ⟨_,_,O⟩:=ha;refine (I.hok b ob e).stay (fun c w' G q=>(hs.2 c ?_).trans q) (fun _ q=>q) fun _ _ q=>q
  rintro rfl;rcases G with rfl | G
  ·rw [O] at e; cases e
  ·rw [O] at G; cases G
 rcases J with U | U
 ·refine wpAny_storeName_local U hn (fun h' a7 hs=>?_) a2;obtain ⟨oL,_,_,a8,_⟩:=id hn;refine h _ ⟨I.ok,I.os,I.bare,⟨fun b o e n hb J=>?_,fun b o e n hb J=>?_,I.base.free,fun b o e J=>?_,I.base.tups,I.base.frzs,I.base.tbls⟩,⟨_,a7,fun j y v' e1 e2 e3=>?_⟩,fun y c e=>?_,I.free,I.freeC,fun p hp=>?_,B ⟨oL,a8,I.free⟩ hs,by simpa using I.len⟩ ⟨_,hs,.inl rfl⟩
  ·exact (hs.2 b (E8 (D3 (D0 e) I.ok.above))).trans (I.base.keep b o e n hb J)
  ·obtain ⟨sl,e1⟩:=I.base.slot b o e n hb J;exact ⟨sl,(hs.2 b (E8 (D3 (D0 e) I.ok.above))).trans e1⟩
  ·obtain ⟨o',e1⟩:=I.base.there b o e J;exact ⟨o',(hs.2 b (E8 (D3 (D0 e) I.ok.above))).trans e1⟩
  ·by_cases hj:j=i
   ·subst hj;rw [hi] at e1; cases e1;rw [E7 Y] at e2;cases e2;exact ⟨u,r,.inl ⟨U,by simp⟩⟩
   ·rw [O9 (Ne.symm hj)] at e2;obtain ⟨u',r',q⟩:=hl j y v' e1 e2 e3;refine ⟨u',r',?_⟩;rcases q with ⟨k,e⟩ | ⟨k,c,e,z⟩
    ·refine .inl ⟨k,?_⟩;have:y≠x:=fun e=>hj (Q7x hN e1 (e ▸ hi))
     simp [this,e]
    ·exact .inr ⟨k,c,e,z.sameBut hs (cne y c e)⟩
  ·obtain ⟨w',z⟩:=I.cell y c e;exact ⟨w',z.sameBut hs (cne y c e)⟩
  ·obtain ⟨e,n,ne,nf,d⟩:=I.pin p hp;exact ⟨(hs.2 p.1 ne).trans e,n,ne,nf,d⟩
 ·have Z:X.fn x=true:=by
   rcases hf with z | z
   ·exact z
   ·rw [z] at U; cases U
  obtain ⟨c,G⟩:=I.ok.has x (.inl U);obtain ⟨w',z⟩:=I.cell x c G;refine wpAny_storeName_cell I.ok.kind U G z (fun h' a4 hs=>?_);obtain ⟨oc,a5,a3⟩:=id z;refine h { s with heap:=h' } ⟨I.ok,I.os,I.bare,⟨fun b o e n hb J=>?_,fun b o e n hb J=>?_,I.base.free,fun b o e J=>?_,I.base.tups,I.base.frzs,I.base.tbls⟩,⟨m,hn.sameBut hs (Ne.symm (cne x c G)),fun j y v' e1 e2 e3=>?_⟩,fun y c' e=>?_,I.free,I.freeC,fun p hp=>?_,B ⟨oc,a5,I.freeC x c G⟩ hs,by simpa using I.len⟩ ⟨c,hs,.inr G⟩
  ·exact (hs.2 b (E8 (D3 (D0 e) (I.ok.cab x c Z G)))).trans (I.base.keep b o e n hb J)
  ·obtain ⟨sl,e1⟩:=I.base.slot b o e n hb J;exact ⟨sl,(hs.2 b (E8 (D3 (D0 e) (I.ok.cab x c Z G)))).trans e1⟩
  ·obtain ⟨o',e1⟩:=I.base.there b o e J;exact ⟨o',(hs.2 b (E8 (D3 (D0 e) (I.ok.cab x c Z G)))).trans e1⟩
  ·by_cases hj:j=i
   ·subst hj;rw [hi] at e1; cases e1;rw [E7 Y] at e2;cases e2;exact ⟨u,r,.inr ⟨.inl U,c,G,a4⟩⟩
   ·rw [O9 (Ne.symm hj)] at e2;obtain ⟨u',r',q⟩:=hl j y v' e1 e2 e3;refine ⟨u',r',?_⟩;rcases q with q | ⟨k,c',e,z'⟩
    ·exact .inl q
    ·refine .inr ⟨k,c',e,z'.sameBut hs ?_⟩;rintro rfl;exact hj (Q7x hN e1 (I.ok.inj _ _ _ e G ▸ hi))
  ·by_cases a6:c'=c
   ·subst a6; exact ⟨_,a4⟩
   ·obtain ⟨w2,z2⟩:=I.cell y c' e;exact ⟨w2,z2.sameBut hs a6⟩
  ·obtain ⟨e,n,ne,nf,d⟩:=I.pin p hp;refine ⟨(hs.2 p.1 ?_).trans e,n,ne,nf,d⟩;intro q;rw [q,a5] at e;have q':oc=p.2:=bf e;exact d w' (by rw [<- q']; exact a3)
theorem Q6z {M:Model} {A:aR} {E:aB->aC->Prop} {i:Nat} {x:Str} {v:V} {u:aB} {Q:Unit->aC->Prop} (I:Inv X pins σ H s) (z:X.N.Nodup) (hi:X.N[i]?=some x) (j:Loc X.env.scope x) (r:RelV v u)
  (h:∀ s',Inv X pins (σ.set i (some v)) H s'->Q () s') (q:X.fn x=true\/X.env.scope.names.lookup x=some .local:=by first | exact .inl rfl | exact .inr rfl | assumption):aI M A (storeName X.env x u) Q E s:=
 Q9x I z hi j r (fun s' B _=>h s' B) q
theorem Inv.call' {s':aC} {ch:List aA} (I:Inv X pins σ H s) (q:s'.os=s.os) (u:Un (frs X.stack) ch H H' s.heap s'.heap) (hok:HOk X.prog X.w H' s'.heap) (z:AllBare s'.gens)
  (j:∀ b∈ch,(b∈X.ex\/X.s₀.heap.objs.size<=b)/\b≠X.env.locals/\(∀ x c,X.env.cells.lookup x=some c->c≠b)/\∀ p∈X.pn ++ pins,p.1≠b):Inv X pins σ H' s':=by
 obtain ⟨h',g',d',t',o'⟩:=s';have e:o'=s.os:=q;subst e;exact I.call (g':=g') (t':=t') (d':=d') u hok z j
end
abbrev XK:=aB->Option aA->Hp->Prop
abbrev St:=List (Option V)
abbrev VK:=V->Hp->Prop
abbrev TE:=St->Hp->VK->Prop
abbrev TT:=St->Hp->(Bool->Hp->Prop)->Prop
abbrev TA:=St->Hp->(List V->Hp->Prop)->Prop
structure Ends where
 nx:St->Hp->Prop
 rt:VK
 bk:St->Hp->Prop:=fun _ _=>False
 ct:St->Hp->Prop:=fun _ _=>False
abbrev TS:=Ends->St->Hp->Prop
def EP (X:Cx) (pins:List (aA × Obj)) (σ:St) (Q:VK) (u:aB) (s':aC):Prop:=∃ v H',Inv X pins σ H' s'/\RelV v u/\Q v H'
def TP (X:Cx) (pins:List (aA × Obj)) (σ:St) (Q:Bool->Hp->Prop) (b:Bool) (s':aC):Prop:=∃ H',Inv X pins σ H' s'/\Q b H'
def AP (X:Cx) (pins:List (aA × Obj)) (σ:St) (Q:List V->Hp->Prop) (us:List aB) (s':aC):Prop:=∃ vs H',Inv X pins σ H' s'/\Vals vs us/\Q vs H'
def SP (X:Cx) (pins:List (aA × Obj)) (D:Ends) (f:Flow) (s':aC):Prop:=
 match f with
 | .next=>∃ σ' H',Inv X pins σ' H' s'/\D.nx σ' H'
 | .brk=>∃ σ' H',Inv X pins σ' H' s'/\D.bk σ' H'
 | .cont=>∃ σ' H',Inv X pins σ' H' s'/\D.ct σ' H'
 | .ret u=>∃ v σ' H',Inv X pins σ' H' s'/\RelV v u/\D.rt v H'
def PE (X:Cx) (e:aD) (t:TE):Prop:=
 ∀ (pins:List (aA × Obj)) (s:aC) (σ:St) (H:Hp) (Q:VK),Inv X pins σ H s->t σ H Q->aI (aJ X.prog X.w) X.A (aL e X.env) (EP X pins σ Q) X.xe s
def PT (X:Cx) (e:aD) (t:TT):Prop:=
 ∀ (pins:List (aA × Obj)) (s:aC) (σ:St) (H:Hp) (Q:Bool->Hp->Prop),Inv X pins σ H s->t σ H Q->aI (aJ X.prog X.w) X.A (isTrue e X.env (aL e X.env)) (TP X pins σ Q) X.xe s
def PW (X:Cx) (e:aD) (t:TT):Prop:=
 ∀ (whole:Sem aB) (pins:List (aA × Obj)) (s:aC) (σ:St) (H:Hp) (Q:Bool->Hp->Prop),Inv X pins σ H s->t σ H Q->aI (aJ X.prog X.w) X.A (isTrue e X.env whole) (TP X pins σ Q) X.xe s
def PA (X:Cx) (es:List aD) (t:TA):Prop:=
 ∀ (pos:Pos) (pins:List (aA × Obj)) (s:aC) (σ:St) (H:Hp) (Q:List V->Hp->Prop),Inv X pins σ H s->t σ H Q->aI (aJ X.prog X.w) X.A (spliced (aU pos (aM es X.env))) (AP X pins σ Q) X.xe s
def PS (X:Cx) (st:aK) (t:TS):Prop:=
 ∀ (pins:List (aA × Obj)) (s:aC) (σ:St) (H:Hp) (D:Ends),Inv X pins σ H s->t D σ H->aI (aJ X.prog X.w) X.A (exec st X.env) (SP X pins D) X.xe s
def PSs (X:Cx) (st:List aK) (t:TS):Prop:=
 ∀ (pins:List (aA × Obj)) (s:aC) (σ:St) (H:Hp) (D:Ends),Inv X pins σ H s->t D σ H->aI (aJ X.prog X.w) X.A (execs st X.env) (SP X pins D) X.xe s
theorem thn {α:Type} {t:Sem α} {Q j:α->aC->Prop} {M:Model} {A:aR} {E:aB->aC->Prop} {s:aC} (h:aI M A t Q E s) (q:∀ a s,Q a s->j a s):aI M A t j E s:=af h q fun _ _ x=>x
section
variable {X:Cx}
def Qus (i:Nat):TE:=fun σ H Q=>∃ v,σ[i]?=some (some v)/\Q v H
def tC (v:V):TE:=fun _ H Q=>Q v H
theorem Qmk {i:Nat} {x:Str} {pos:Pos} (Y:X.N[i]?=some x) (G:Vis X.env.scope x) (hd:(x == ("__debug__" : Str))=false:=by decide) (z:(x == ("__classdict__" : Str))=false:=by decide):PE X (.Name x pos) (Qus i):=by
 intro pins s σ H Q I h;obtain ⟨v,e,h⟩:=h;obtain ⟨m,O,U⟩:=I.loc;obtain ⟨u,r,l⟩:=U i x v Y e G;have fin:EP X pins σ Q u s:=⟨v,H,I,r,h⟩;rcases l with ⟨q,J⟩ | ⟨q,c,B,j⟩
 ·exact wpAny_Name (wpAny_loadName_local I.ok.kind q O J fin) hd
 ·rcases q with q | q
  ·exact wpAny_Name (wpAny_loadName_cell I.ok.kind q B j fin) hd
  ·exact wpAny_Name (wpAny_loadName_free I.ok.kind q B j fin z) hd
theorem Qvw {i j pos}:PE X (.Constant (.int i) j pos) (tC (.int i)):=fun _ _ _ H _ I h=>wpAny_Constant_int ⟨.int i,H,I.tok _,⟨_,rfl⟩,h⟩
theorem Qza {b j pos}:PE X (.Constant (.bool b) j pos) (tC (.bl b)):=fun _ _ _ H _ I h=>Constant_bool ⟨.bl b,H,I,rfl,h⟩
theorem Q1k {x j pos}:PE X (.Constant (.str x) j pos) (tC (.str x)):=fun _ _ _ H _ I h=>Calls.Constant_str ⟨.str x,H,I.tok _,⟨_,rfl⟩,h⟩
def Gl (X:Cx) (x:Str):Prop:=X.env.kindOf x=some .globalImplicit
theorem qw {E:aB->aC->Prop} {pins:List (aA × Obj)} {s:aC} {σ:St} {H:Hp} {x:Str} {u:aB} {pos:Pos} {Q:aB->aC->Prop} (I:Inv X pins σ H s) (j:Gl X x) (q:X.mg x=some u) (h:Q u s)
  (hd:(x == ("__debug__" : Str))=false:=by decide):aI (aJ X.prog X.w) X.A (aL (.Name x pos) X.env) Q E s:=
 Calls.Name_function_global I.ok.kind j (Calls.loadGlobal_global (by rw [I.ok.glob]; exact I.mod.glob.keeps I.bk) q h) hd
theorem Q1w {E:aB->aC->Prop} {pins:List (aA × Obj)} {s:aC} {σ:St} {H:Hp} {x:Str} {u:aB} {pos:Pos} {Q:aB->aC->Prop} (I:Inv X pins σ H s) (j:Gl X x) (z:X.mg x=none) (q:aZ x=some u) (h:Q u s)
  (B:x≠"__name__" := by decide) (hd:(x == ("__debug__" : Str))=false:=by decide):aI (aJ X.prog X.w) X.A (aL (.Name x pos) X.env) Q E s:=by
 obtain ⟨mb,h1,h2⟩:=I.mod.blt;exact Calls.Name_function_global I.ok.kind j (Calls.loadGlobal_builtin (by rw [I.ok.glob]; exact I.mod.glob.keeps I.bk) z (by rw [I.ok.blt]; exact h1.keeps I.bk) ((h2 x B).trans q) h) hd
theorem Qrx {x:Str} {v:V} {u:aB} {pos:Pos} (j:Gl X x) (q:X.mg x=some u) (r:RelV v u) (hd:(x == ("__debug__" : Str))=false:=by decide):PE X (.Name x pos) (tC v):=
 fun _ _ _ H _ I h=>qw I j q ⟨v,H,I,r,h⟩ hd
theorem Qs0 {x:Str} {v:V} {u:aB} {pos:Pos} (j:Gl X x) (q:X.mg x=none) (z:aZ x=some u) (r:RelV v u) (B:x≠"__name__" := by decide) (hd:(x == ("__debug__" : Str))=false:=by decide):PE X (.Name x pos) (tC v):=
 fun _ _ _ H _ I h=>Q1w I j q z ⟨v,H,I,r,h⟩ B hd
variable {a b:aD} {ta tb:TE} {pos:Pos}
def tB (t:TE):TT:=fun σ H Q=>t σ H fun x H1=>∃ c,x=.bl c/\Q c H1
theorem Qvh {e:aD} {t:TE} (h:PE X e t) (B:∀ j,isTrue e X.env j=(do let v <- j; standAt e.pos; aj [v] (truthy v)):=by intro _; rfl):PT X e (tB t):=by
 intro pins s σ H Q I z;refine isTrue_plain (thn (h pins s σ H _ I z) fun v s1 ⟨x,H1,G,J,q1⟩=>?_) (B _)
 obtain ⟨d,rfl,q⟩:=q1;cases J;exact ar ⟨H1,G,q⟩
variable {tA tB':TT} {rest:List aD}
def J22 (t u:TT):TT:=fun σ H Q=>t σ H fun c H1=>if c=true then u σ H1 Q else Q false H1
def tOr (t u:TT):TT:=fun σ H Q=>t σ H fun c H1=>if c=true then Q true H1 else u σ H1 Q
def J1x (t:TT):TT:=fun σ H Q=>t σ H fun c H1=>Q (!c) H1
theorem Qre (j:PT X a tA):PW X (.BoolOp .And [a] pos) tA:=by
 intro q pins s σ H Q I h;refine isTrue_and (thn (j pins s σ H Q I h) fun c s1 e=>?_)
 cases c with
 | true=>exact isTrue_and_nil e
 | false=>exact e
theorem Qvf (j:PT X a tA):PW X (.BoolOp .Or [a] pos) tA:=by
 intro q pins s σ H Q I h;refine isTrue_or (thn (j pins s σ H Q I h) fun c s1 e=>?_)
 cases c with
 | false=>exact isTrue_or_nil e
 | true=>exact e
theorem Qvg (B:PT X a tA) (z:PW X (.BoolOp .And (b :: rest) pos) tB'):PW X (.BoolOp .And (a :: b :: rest) pos) (J22 tA tB'):=by
 intro q pins s σ H Q I h;refine isTrue_and (thn (B pins s σ H _ I h) fun c s1 ⟨H1,j,q1⟩=>?_)
 cases c with
 | true=>exact z q pins s1 σ H1 Q j q1
 | false=>exact ⟨H1,j,q1⟩
theorem Qz1 (B:PT X a tA) (z:PW X (.BoolOp .Or (b :: rest) pos) tB'):PW X (.BoolOp .Or (a :: b :: rest) pos) (tOr tA tB'):=by
 intro q pins s σ H Q I h;refine isTrue_or (thn (B pins s σ H _ I h) fun c s1 ⟨H1,j,q1⟩=>?_)
 cases c with
 | true=>exact ⟨H1,j,q1⟩
 | false=>exact z q pins s1 σ H1 Q j q1
theorem Qvi (j:PT X a tA):PT X (.UnaryOp .Not a pos) (J1x tA):=by
 intro pins s σ H Q I h;exact isTrue_not (j pins s σ H (fun c H1=>Q (!c) H1) I h)
def Qyn (ta tb:TE):TE:=fun σ H Q=>ta σ H fun x H1=>∃ c,x=.bl c/\if c=true then tb σ H1 Q else Q (.bl false) H1
def J1w (ta tb:TE):TE:=fun σ H Q=>ta σ H fun x H1=>∃ c,x=.bl c/\if c=true then Q (.bl true) H1 else tb σ H1 Q
def Qyd (ta:TE):TE:=fun σ H Q=>ta σ H fun x H1=>∃ c,x=.bl c/\Q (.bl (!c)) H1
theorem Qvu {op} {t:TE} (h:PE X a t):PE X (.BoolOp op [a] pos) t:=fun pins s σ H Q I j=>BoolOp_one (h pins s σ H Q I j)
theorem Qvy (z:PE X a ta) (q:PE X (.BoolOp .And (b :: rest) pos) tb):PE X (.BoolOp .And (a :: b :: rest) pos) (Qyn ta tb):=by
 intro pins s σ H Q I h;refine BoolOp_and (thn (z pins s σ H _ I h) fun v s1 ⟨x,H1,j,B,q1⟩=>?_)
 obtain ⟨c,rfl,q1⟩:=q1;cases B;refine ar ?_;cases c with
 | true=>exact q pins s1 σ H1 Q j q1
 | false=>exact ⟨.bl false,H1,j,rfl,q1⟩
theorem Qz7 (z:PE X a ta) (q:PE X (.BoolOp .Or (b :: rest) pos) tb):PE X (.BoolOp .Or (a :: b :: rest) pos) (J1w ta tb):=by
 intro pins s σ H Q I h;refine BoolOp_or (thn (z pins s σ H _ I h) fun v s1 ⟨x,H1,j,B,q1⟩=>?_)
 obtain ⟨c,rfl,q1⟩:=q1;cases B;refine ar ?_;cases c with
 | false=>exact q pins s1 σ H1 Q j q1
 | true=>exact ⟨.bl true,H1,j,rfl,q1⟩
theorem Qvv (z:PE X a ta):PE X (.UnaryOp .Not a pos) (Qyd ta):=by
 intro pins s σ H Q I h;refine UnaryOp_ (thn (z pins s σ H _ I h) fun v s1 ⟨x,H1,q,j,q1⟩=>?_)
 obtain ⟨c,rfl,q1⟩:=q1;cases j;exact not_of (ar ⟨.bl (!c),H1,q,rfl,q1⟩)
end
def SqL (K:bU) (H:Hp) (a:aA) (xs:List V):Prop:=
 Rd H a (.lst xs) \/
  ∃ (o:Obj) (its:Array aB) (n:Nat),K.lookup a=some o/\o.cls=.type "list" /\ o.dict=none/\o.data=.seq its n/\its.size<=sizeLine/\Vals xs its.toList
def SqT (K:bU) (H:Hp) (a:aA) (xs:List V):Prop:=
 Rd H a (.tup xs) \/
  ∃ (o:Obj) (its:Array aB) (n:Nat),K.lookup a=some o/\o.cls=.type "tuple" /\ o.data=.seq its n/\its.size<=sizeLine/\Vals xs its.toList
def J2q:aB->Option V
 | .none=>some .non
 | .bool b=>some (.bl b)
 | .int i _=>some (.int i)
 | .str x _=>some (.str x)
 | .bytes b _=>some (.byt b)
 | .float b _=>some (.flt b)
 | .ref a=>some (.ref a)
 | .type n=>some (.ty n)
 | _=>none
theorem RelV.abs {x:V} {u:aB} (r:RelV x u):J2q u=some x:=by
 cases x with
 | non=>cases r; rfl
 | bl _=>cases r; rfl
 | int _=>obtain ⟨t,rfl⟩:=r; rfl
 | str _=>obtain ⟨t,rfl⟩:=r; rfl
 | byt _=>obtain ⟨t,rfl⟩:=r; rfl
 | flt _=>obtain ⟨t,rfl⟩:=r; rfl
 | ref _=>cases r; rfl
 | ty _=>cases r; rfl
theorem RelV.inj {x y:V} {u:aB} (r:RelV x u) (q:RelV y u):x=y:=bf (r.abs.symm.trans q.abs)
theorem Vals.inj:∀ {xs ys:List V} {us:List aB},Vals xs us->Vals ys us->xs=ys
 | _,_,_,.nil,.nil=>rfl
 | _,_,_,.cons r t,.cons j t'=>by rw [r.inj j,Vals.inj t t']
section
variable {X:Cx} {pins:List (aA × Obj)} {σ:St} {H:Hp} {s:aC} {a:aA} {xs ys:List V}
theorem SqL.of {K:bU} (h:H a=some (.lst xs)):SqL K H a xs:=.inl (.inl h)
theorem SqT.of {K:bU} (h:H a=some (.tup xs)):SqT K H a xs:=.inl (.inl h)
theorem Inv.list (I:Inv X pins σ H s) (h:SqL X.K H a xs):∃ its:List aB,Vals xs its/\PlainL s.heap a its.toArray/\xs.length<=sizeLine:=by
 rcases h with h | ⟨o,its,n,q,j,hd,hs,hz,r⟩
 ·obtain ⟨z,its,n,r,e⟩:=h.ok I.hok;exact ⟨its,r,⟨_,n,e,rfl,rfl,rfl⟩,z⟩
 ·refine ⟨its.toList,r,⟨o,n,I.kIn a o q,j,hd,by simpa using hs⟩,?_⟩;have e:=r.length;simp only [eG] at e;omega
theorem Inv.tuple (I:Inv X pins σ H s) (h:SqT X.K H a xs):∃ its:List aB,Vals xs its/\IsTup s.heap a its.toArray/\xs.length<=sizeLine:=by
 rcases h with h | ⟨o,its,n,q,j,hs,hz,r⟩
 ·obtain ⟨z,its,r,p⟩:=h.ok I.hok;exact ⟨its,r,p,z⟩
 ·refine ⟨its.toList,r,⟨o,I.kIn a o q,j,n,by simpa using hs⟩,?_⟩;have e:=r.length;simp only [eG] at e;omega
theorem Inv.list_inj (I:Inv X pins σ H s) (h:SqL X.K H a xs) (h':SqL X.K H a ys):xs=ys:=by
 obtain ⟨its,r,⟨o,n,e,_,_,d⟩,_⟩:=I.list h;obtain ⟨its',z,⟨o',B,j,_,_,d'⟩,_⟩:=I.list h';rw [e] at j; cases j;rw [d] at d';injection d' with q _
 have:its=its':=by simpa using congrArg fT q
 subst this;exact r.inj z
theorem Inv.tuple_inj (I:Inv X pins σ H s) (h:SqT X.K H a xs) (h':SqT X.K H a ys):xs=ys:=by
 obtain ⟨its,r,⟨o,e,_,n,d⟩,_⟩:=I.tuple h;obtain ⟨its',z,⟨o',j,_,B,d'⟩,_⟩:=I.tuple h';rw [e] at j; cases j;rw [d] at d';injection d' with q _
 have:its=its':=by simpa using congrArg fT q
 subst this;exact r.inj z
end
abbrev Cx.wish (X:Cx) (E:aB->aC->Prop):Cx:={ X with xe:=E }
abbrev Cx.nox (X:Cx):Cx:=X.wish fun _ _=>False
theorem Cx.Ok.wish {X:Cx} (ok:X.Ok) (E:aB->aC->Prop):(X.wish E).Ok:=
 ⟨ok.mod,ok.kind,ok.glob,ok.blt,ok.above,ok.inj,ok.has,ok.cab,ok.hd,ok.frames,ok.stk,ok.exf,ok.bs,ok.bsz,ok.noex,ok.exfs,ok.funs,ok.frf⟩
theorem Cx.Ok.unwish {X:Cx} {E:aB->aC->Prop} (ok:(X.wish E).Ok):X.Ok:=
 ⟨ok.mod,ok.kind,ok.glob,ok.blt,ok.above,ok.inj,ok.has,ok.cab,ok.hd,ok.frames,ok.stk,ok.exf,ok.bs,ok.bsz,ok.noex,ok.exfs,ok.funs,ok.frf⟩
section
variable {X:Cx} {pins:List (aA × Obj)} {σ:St} {H:Hp} {s:aC} {E:aB->aC->Prop}
theorem Inv.wish (I:Inv X pins σ H s) (E:aB->aC->Prop):Inv (X.wish E) pins σ H s:=⟨I.ok.wish E,I.os,I.bare,I.base,I.loc,I.cell,I.free,I.freeC,I.pin,I.hok,I.len⟩
theorem Inv.unwish (I:Inv (X.wish E) pins σ H s):Inv X pins σ H s:=⟨I.ok.unwish,I.os,I.bare,I.base,I.loc,I.cell,I.free,I.freeC,I.pin,I.hok,I.len⟩
theorem SP.unwish {D:Ends} {f:Flow} {s':aC} (h:SP (X.wish E) pins D f s'):SP X pins D f s':=by
 cases f with
 | next=>obtain ⟨j,H',I,q⟩:=h; exact ⟨j,H',I.unwish,q⟩
 | brk=>obtain ⟨j,H',I,q⟩:=h; exact ⟨j,H',I.unwish,q⟩
 | cont=>obtain ⟨j,H',I,q⟩:=h; exact ⟨j,H',I.unwish,q⟩
 | ret u=>obtain ⟨v,j,H',I,r,q⟩:=h; exact ⟨v,j,H',I.unwish,r,q⟩
theorem PSs.nox {st:List aK} {t:TS} (h:PSs X.nox st t):PSs X st t:=fun pins s σ H D I j=>
 af (h pins s σ H D (I.wish _) j) (fun _ _ q=>q.unwish) fun _ _ z=>False.elim z
end
section
variable {X:Cx} {st:aK} {rest:List aK} {t u:TS} {e:aD} {te:TE} {pos:Pos}
def Qyf:TS:=fun D σ H=>D.nx σ H
def J1v (t u:TS):TS:=fun D σ H=>t { D with nx:=u D } σ H
theorem Qrj:PSs X [] Qyf:=fun _ _ σ H _ I h=>wpAny_execs_nil ⟨σ,H,I,h⟩
theorem Qd1 (h1:PS X st t) (h2:PSs X rest u):PSs X (st :: rest) (J1v t u):=by
 intro pins s σ H D I h;refine wpAny_execs_cons (thn (h1 pins s σ H { D with nx:=u D } I h) fun f s1 q=>?_)
 cases f with
 | next=>
  obtain ⟨j,H',z,q⟩:=q;exact h2 pins s1 j H' D z q
 | ret v=>exact q
 | brk=>exact q
 | cont=>exact q
theorem Qbc (h1:PS X st t):PSs X [st] t:=by
 intro pins s σ H D I h;refine wpAny_execs_cons (thn (h1 pins s σ H D I h) fun f s1 q=>?_)
 cases f with
 | next=>exact wpAny_execs_nil q
 | ret v=>exact q
 | brk=>exact q
 | cont=>exact q
theorem Inv.quiet {pins:List (aA × Obj)} {σ:St} {H:Hp} {s:aC} (I:Inv X pins σ H s):interactive X.env=false:=by simp [interactive,I.ok.kind]
def Qyh (te:TE):TS:=fun D σ H=>te σ H fun _ H1=>D.nx σ H1
theorem Qgr (j:PE X e te) (hs:swapsWith e none pos.line X.env=pure false:=by rfl):PS X (.Expr e pos) (Qyh te):=by
 intro pins s σ H D I h;exact wpAny_Expr_any (thn (j pins s σ H _ I h) fun v s1 ⟨x,H1,q,z,q1⟩=>⟨σ,H1,q,q1⟩) I.quiet hs
def Qyb (te:TE):TS:=fun D σ H=>te σ H D.rt
theorem Qmd (j:PE X e te):PS X (.Return (some e) pos) (Qyb te):=by
 intro pins s σ H D I h;exact wpAny_Return_some (thn (j pins s σ H _ I h) fun v s1 ⟨x,H1,z,q,q1⟩=>⟨x,σ,H1,z,q,q1⟩)
def J1z (c:TT) (t u:TS):TS:=fun D σ H=>c σ H fun b H1=>if b=true then t D σ H1 else u D σ H1
theorem Qz3 {c:aD} {a b:List aK} {tc:TT} (q:PT X c tc) (B:PSs X a t) (z:PSs X b u):PS X (.If c a b pos) (J1z tc t u):=by
 intro pins s σ H D I h;refine wpAny_If (thn (q pins s σ H _ I h) fun d s1 ⟨H1,j,q1⟩=>?_)
 cases d with
 | true=>exact B pins s1 σ H1 D j q1
 | false=>exact z pins s1 σ H1 D j q1
end
abbrev TG:=V->St->Hp->(St->Hp->Prop)->Prop
abbrev TGs:=List V->St->Hp->(St->Hp->Prop)->Prop
def PG (X:Cx) (target:aD) (t:TG):Prop:=
 ∀ (pins:List (aA × Obj)) (s:aC) (σ:St) (H:Hp) (v:V) (u:aB) (Q:St->Hp->Prop),Inv X pins σ H s->RelV v u->t v σ H Q ->
  aI (aJ X.prog X.w) X.A (assign target X.env u) (fun _ s'=>∃ σ' H',Inv X pins σ' H' s'/\Q σ' H') X.xe s
def PGs (X:Cx) (ts:List aD) (t:TGs):Prop:=
 ∀ (pins:List (aA × Obj)) (s:aC) (σ:St) (H:Hp) (vs:List V) (us:List aB) (Q:St->Hp->Prop),Inv X pins σ H s->Vals vs us->t vs σ H Q ->
  aI (aJ X.prog X.w) X.A (assignInOrder ((aq ts X.env).map (·.2)) us) (fun _ s'=>∃ σ' H',Inv X pins σ' H' s'/\Q σ' H') X.xe s
abbrev Qxk:=V->V->V->Hp->(Hp->Prop)->Prop
def J0v (X:Cx) (t:Qxk):Prop:=
 ∀ (pins:List (aA × Obj)) (s:aC) (σ:St) (H:Hp) (o i v:V) (ov iv u:aB) (Q:Hp->Prop),Inv X pins σ H s->RelV o ov->RelV i iv->RelV v u->t o i v H Q ->
  aI (aJ X.prog X.w) X.A (setItem ov iv u) (fun _ s'=>∃ H',Inv X pins σ H' s'/\Q H') X.xe s
section
variable {X:Cx} {pos:Pos}
def Qe4 (i:Nat):TG:=fun v σ H Q=>Q (σ.set i (some v)) H
theorem Qrt {i:Nat} {x:Str} (z:X.N.Nodup) (hi:X.N[i]?=some x) (j:Loc X.env.scope x) (q:X.fn x=true\/X.env.scope.names.lookup x=some .local:=by first | exact .inl rfl | exact .inr rfl | assumption):PG X (.Name x pos) (Qe4 i):=by
 intro pins s σ H v u Q I r h;exact wpAny_assign_Name (Q6z I z hi j r (fun s' B=>⟨_,H,B,h⟩) q)
def J0c:TGs:=fun vs σ H Q=>vs=[]/\Q σ H
def Qnx (t:TG) (u:TGs):TGs:=fun vs σ H Q=>∃ v r,vs=v :: r/\t v σ H fun σ' H'=>u r σ' H' Q
theorem Qrr:PGs X [] J0c:=by
 intro pins s σ H vs us Q I r h;obtain ⟨e,h⟩:=h;subst e;cases r;exact assignInOrder_nil ⟨σ,H,I,h⟩
theorem Qmi {e:aD} {es:List aD} {t:TG} {u:TGs} (h1:PG X e t) (h2:PGs X es u)
  (hs:(aq (e :: es) X.env).map (·.2)=assign e X.env :: (aq es X.env).map (·.2):=by rfl):PGs X (e :: es) (Qnx t u):=by
 intro pins s σ H vs us Q I r h;obtain ⟨v,B,e1,h⟩:=h;subst e1;cases r with
 | cons r z=>
  rw [hs];refine assignInOrder_cons (thn (h1 pins s σ H _ _ _ I r h) fun _ s1 ⟨j,H1,q,q1⟩=>?_)
  exact h2 pins s1 j H1 _ _ Q q z q1
def J0b (K:bU) (n:Nat) (t:TGs):TG:=fun v σ H Q=>∃ a xs,v=.ref a/\SqT K H a xs/\xs.length=n/\t xs σ H Q
theorem Qvr {es:List aD} {k:Nat} {t:TGs} {n:Nat} (B:X.calm=true) (h:PGs X es t)
  (O:(aq es X.env).length=n:=by rfl) (q:(aq es X.env).findIdx? (·.1)=none:=by rfl):PG X (.Tuple es k pos) (J0b X.K n t):=by
 intro pins s σ H v u Q I r j;obtain ⟨a,xs,e1,Z,Y,j⟩:=j;subst e1;cases r;obtain ⟨its,z,J,hz⟩:=I.tuple Z;refine assign_Tuple_tuple (I.ok.hd B) J (by simp [O,<- Y,z.length]) q fun h' G=>?_
 have U:Inv X pins σ H { s with heap:=h' }:=I.kept (t':=s.toks) fun b o e=>G b o (E8 (D0 e)) e
 exact h pins _ σ H xs _ Q U (by simpa using z) j
def J2k (to ti:TE) (t:Qxk):TG:=fun v σ H Q=>to σ H fun o H1=>ti σ H1 fun i H2=>t o i v H2 fun H3=>Q σ H3
theorem Qvs {o i:aD} {to z:TE} {t:Qxk} (B:PE X o to) (hi:PE X i z) (hs:J0v X t)
  (J:∀ v,assign (.Subscript o i pos) X.env v=(do
   let j <- aj [v] (aL o X.env)
   let q <- aj [v,j] (aL i X.env)
   standAt pos
   aj [v,j,q] (setItem j q v)
   release [v,j,q] []):=by intro _; rfl):PG X (.Subscript o i pos) (J2k to z t):=by
 intro pins s σ H v u Q I r h;rw [J];refine aF (bB (thn (B pins s σ H _ I h) fun j s1 ⟨x,H1,I1,Z,q1⟩=>?_))
 refine aF (bB (thn (hi pins s1 σ H1 _ I1 q1) fun q s2 ⟨y,H2,G,O,q2⟩=>?_))
 refine aF (wpAny_standAt (aF (bB (thn (hs pins s2 σ H2 x y v j q u _ G Z O r q2) fun _ s3 ⟨Y,U,q3⟩=>?_))))
 exact wpAny_release ⟨σ,Y,U,q3⟩
def Quv (te:TE) (g:TG):TS:=fun D σ H=>te σ H fun x H1=>g x σ H1 D.nx
theorem Qmf {tg e:aD} {te:TE} {g:TG} (B:PE X e te) (j:PG X tg g) (hs:swapsWithSole [tg] e pos.line X.env=pure false:=by rfl) (z:swappedStores [tg] e X.env=pure none:=by rfl)
  (h1:(aq [tg] X.env).map (·.2)=[assign tg X.env]:=by rfl):PS X (.Assign [tg] e pos) (Quv te g):=by
 intro pins s σ H D I h;refine wpAny_Assign_stores (thn (B pins s σ H _ I h) fun v s1 ⟨x,H1,G,J,q1⟩=>?_) hs z
 rw [h1];exact thn (j pins s1 σ H1 x v _ G J q1) fun _ s2 q=>q
theorem Qvj {i:Nat} {x:Str} {e:aD} {te:TE} {pos':Pos} (J:X.N.Nodup) (hi:X.N[i]?=some x) (j:Loc X.env.scope x) (B:PE X e te) (hs:swapsWith e (some (.Name x pos')) pos.line X.env=pure false:=by rfl) (q:X.fn x=true\/X.env.scope.names.lookup x=some .local:=by first | exact .inl rfl | exact .inr rfl | assumption) :
  PS X (.Assign [.Name x pos'] e pos) (Quv te (Qe4 i)):=by
 intro pins s σ H D I h;refine wpAny_Assign_Name (thn (B pins s σ H _ I h) fun v s1 ⟨y,H1,G,O,q1⟩=>?_) hs
 exact Q6z G J hi j O (fun s2 z=>⟨_,H1,z,q1⟩) q
end
section
variable {X:Cx} {pos:Pos}
def Qur (c:TT) (tb:TS):TS:=fun D σ H=>∃ W:Nat->St->Hp->Prop,(∃ m,W m σ H)/\∀ m σ H,W m σ H ->
 c σ H fun b H1=>if b=true then ∃ N:St->Hp->Prop,(∀ σ' H',N σ' H'->∃ m',m' < m/\W m' σ' H')/\tb { D with nx:=N,ct:=N,bk:=D.nx } σ H1 else D.nx σ H1
theorem Qmb {c:aD} {body:List aK} {tc:TT} {tb:TS} (hp:PassesOwn (aJ X.prog X.w) X.A X.env X.xe) (hc:PT X c tc) (hb:PSs X body tb):PS X (.While c body [] pos) (Qur tc tb):=by
 intro pins s σ H D I h;obtain ⟨W,⟨m0,w0⟩,turn⟩:=h;refine wpAny_While (codeAny_whileLoop (fun n s'=>∃ z H',Inv X pins z H' s'/\W n z H') ?_ m0 ⟨σ,H,I,w0⟩);rintro n s1 ⟨q,H1,I1,w1⟩;refine bC hp (thn (hc pins s1 q H1 _ I1 (turn n q H1 w1)) fun b s2 ⟨H2,Z,q2⟩=>?_)
 cases b with
 | true=>
  obtain ⟨N,hN,q2⟩:=q2;rw [bO rfl];refine bC hp (thn (hb pins s2 q H2 _ Z q2) fun f s3 q3=>?_)
  cases f with
  | next=>
   obtain ⟨j,B,O,G⟩:=q3;obtain ⟨U,J,Y⟩:=hN j B G;exact ⟨U,J,j,B,O,Y⟩
  | cont=>
   obtain ⟨j,B,O,G⟩:=q3;obtain ⟨U,J,Y⟩:=hN j B G;exact ⟨U,J,j,B,O,Y⟩
  | brk=>exact q3
  | ret v=>exact q3
 | false=>
  rw [bP E5];exact wpAny_execs_nil ⟨q,H2,Z,q2⟩
end
structure It where
 go:Nat->Hp->Prop
 yld:Nat->Hp->V->Hp->Prop
 stop:Nat->Hp->Prop
def Q92 (X:Cx) (pins:List (aA × Obj)) (H:Hp) (b:aA):Prop:=
 H b=none/\b≠X.env.locals/\b∉X.fs/\(b∈X.ex\/X.s₀.heap.objs.size<=b)/\(∀ x c,X.env.cells.lookup x=some c->c≠b)/\∀ p∈X.pn ++ pins,p.1≠b
theorem Inv.fpOk {X:Cx} {pins:List (aA × Obj)} {σ:St} {H H':Hp} {s:aC} {b:aA} (I:Inv X pins σ H s) (j:s.heap.objs.size<=b) (B:H' b=none):Q92 X pins H' b:=by
 refine ⟨B,bt (D3 I.lt j),I.nofs j,.inr (F1 I.sz j),fun x c e z=>?_,fun p hp z=>?_⟩
 ·obtain ⟨v,q⟩:=I.cell x c e;exact absurd (D3 q.lt (by rw [z]; exact j)) (L7 _)
 ·exact absurd (D3 (D0 (I.pin p hp).1) (by rw [z]; exact j)) (L7 _)
structure Turn (P:aP) (w:aO) (K:bU) (tg:aD) (J:It) (fp:List aA) (it:aA) (tn:Nat->Heap->Prop):Prop where
 mem:it∈fp
 obj:∀ i h,tn i h->∀ b∈fp,∃ o,h.get? b=some o/\∀ v,o.data≠.cell v
 keep:∀ i h h',tn i h->(∀ b∈fp,∀ o,h.get? b=some o->h'.get? b=some o)->tn i h'
 item:∀ (X:Cx),X.prog=P->X.w=w->X.K=K->X.calm=true->∀ (i:Nat) (pins:List (aA × Obj)) (s:aC) (σ:St) (H:Hp) (E:aB->aC->Prop),Inv X pins σ H s->(∀ b∈fp,Q92 X pins H b)->tn i s.heap->J.go i H ->
  aI (aJ P w) X.A (ay (.ref it)) (fun r s1=>∃ u,r=some u /\
   aI (aJ P w) X.A (letOwnedTupleGo tg (.ref it) u) (fun _ s2=>∃ x H',Inv X pins σ H' s2/\RelV x u/\J.yld i H x H'/\tn (i + 1) s2.heap/\∀ b∈fp,H' b=none) E s1) E s
 done:∀ (X:Cx),X.prog=P->X.w=w->X.K=K->X.calm=true->∀ (i:Nat) (pins:List (aA × Obj)) (s:aC) (σ:St) (H:Hp) (E:aB->aC->Prop),Inv X pins σ H s->(∀ b∈fp,Q92 X pins H b)->tn i s.heap->J.stop i H ->
  aI (aJ P w) X.A (ay (.ref it)) (fun r s1=>r=none/\Inv X pins σ H s1) E s
 self:∀ (A:aR) (i:Nat) (s:aC) (Q:aB->aC->Prop) (E:aB->aC->Prop),tn i s.heap->Q (.ref it) s->aI (aJ P w) A (pyIter (.ref it)) Q E s
abbrev TI:=St->Hp->(It->Hp->Prop)->Prop
def PIE (X:Cx) (pins:List (aA × Obj)) (σ:St) (tg:aD) (R:It->Hp->Prop) (itv:aB) (s2:aC):Prop:=
 ∃ (it:aA) (fp:List aA) (tn:Nat->Heap->Prop) (J:It) (H':Hp),itv=.ref it/\Inv X pins σ H' s2/\Turn X.prog X.w X.K tg J fp it tn/\tn 0 s2.heap/\(∀ b∈fp,Q92 X pins H' b)/\R J H'
def PI (X:Cx) (tg iter:aD) (wi:TI):Prop:=
 ∀ (pins:List (aA × Obj)) (s:aC) (σ:St) (H:Hp) (R:It->Hp->Prop),Inv X pins σ H s->wi σ H R ->
  aI (aJ X.prog X.w) X.A (aL iter X.env) (fun v s1=>aI (aJ X.prog X.w) X.A (pyIter v) (PIE X pins σ tg R) X.xe s1) X.xe s
theorem Qhc {M:Model} {A:aR} {E:aB->aC->Prop} {s:aC} {tg:aD} {q:aA} {u:aB} {o:Obj} {n:String} {vs:Array aB} {Q:Unit->aC->Prop} (z:s.heap.get? q=some o) (B:o.cls=.type n) (hd:o.data=.fields vs)
  (G:["enumerate", "zip", "dict_itemiterator", "dict_reverseitemiterator", "odict_iterator", "itertools.zip_longest", "itertools.pairwise"].contains n=false) (j:Q () s):aI M A (letOwnedTupleGo tg (.ref q) u) Q E s:=by
 unfold letOwnedTupleGo;cases tg <;> first
  | exact aQ j
  | (cases u <;> first
    | exact aQ j
    | (refine aF (wpAny_load z ?_)
       rw [B,hd];show aI M A (if (["enumerate", "zip", "dict_itemiterator", "dict_reverseitemiterator", "odict_iterator", "itertools.zip_longest", "itertools.pairwise"].contains n && vs[0]? == some (aa _))=true then _ else _) Q E s;rw [bP (by intro h; rw [G,fU] at h; cases h)];exact aQ j))
def Itl (K:bU) (a:aA):It:=
 ⟨fun i H=>∃ xs x,SqL K H a xs/\xs[i]?=some x,fun i H x H'=>H'=H/\∀ xs,SqL K H a xs->xs[i]?=some x,fun i H=>∃ xs,SqL K H a xs/\xs.length<=i⟩
def Itt (K:bU) (a:aA):It:=
 ⟨fun i H=>∃ xs x,SqT K H a xs/\xs[i]?=some x,fun i H x H'=>H'=H/\∀ xs,SqT K H a xs->xs[i]?=some x,fun i H=>∃ xs,SqT K H a xs/\xs.length<=i⟩
def Itr (lo:Int) (n:Nat):It:=⟨fun i _=>i < n,fun i H x H'=>H'=H/\x=.int (lo + i),fun i _=>n<=i⟩
theorem Qhu {P:aP} {w:aO} {K:bU} {tg:aD} (a j:aA):Turn P w K tg (Itl K a) [j] j (fun i h=>h.IsListIter j a i) where
 mem:=by simp
 obj:=fun i h st b q=>by
  have e:b=j:=by simpa using q
  subst e;obtain ⟨o,e,c,d⟩:=st;exact ⟨o,e,fun v z=>by rw [d] at z; cases z⟩
 keep:=fun i h h' st k=>st.at fun o e=>k j (by simp) o e
 item:=by
  intro X hP hw hK hc i pins s σ H E I B st J;subst hP hw hK;obtain ⟨xs,x,G,O⟩:=J;obtain ⟨its,Y,p,hz⟩:=I.list G;obtain ⟨u,hu,ru⟩:=Y.get O;obtain ⟨Z,U,f2,f3,f4,f5⟩:=B j (by simp);refine wpAny_pyNext_list_item st p.isList (x:=u) (by simpa using hu) fun h' st' sb=>?_
  have I1:Inv X pins σ H { s with heap:=h' }:=I.turned (t':=s.toks) (fun b o q e=>(sb.2 b q).trans e) Z U f3 f4 f5
  obtain ⟨o,e,c,d⟩:=id st';exact ⟨u,rfl,Qhc (s:={ s with heap:=h' }) e c d (by decide) ⟨x,H,I1,ru,⟨rfl,fun ys hy=>by rw [I.list_inj hy G]; exact O⟩,st',fun b q=>(B b q).1⟩⟩
 done:=by
  intro X hP hw hK hc i pins s σ H E I B st J;subst hP hw hK;obtain ⟨xs,G,O⟩:=J;obtain ⟨its,Y,p,hz⟩:=I.list G;obtain ⟨Z,U,f2,f3,f4,f5⟩:=B j (by simp);have hl:=Y.length;exact wpAny_pyNext_list_end (I.ok.hd hc) st p.isList (by simp; omega) fun h' eb=>⟨rfl,I.turned (t':=s.toks) (fun b o q e=>eb b o q e) Z U f3 f4 f5⟩
 self:=fun _ _ _ _ _ st h=>wpAny_pyIter_listiter st h
theorem Qep {P:aP} {w:aO} {K:bU} {tg:aD} (a j:aA):Turn P w K tg (Itt K a) [j] j (fun i h=>h.IsTupleIter j a i) where
 mem:=by simp
 obj:=fun i h st b q=>by
  have e:b=j:=by simpa using q
  subst e;obtain ⟨o,e,c,d⟩:=st;exact ⟨o,e,fun v z=>by rw [d] at z; cases z⟩
 keep:=fun i h h' st k=>st.at fun o e=>k j (by simp) o e
 item:=by
  intro X hP hw hK hc i pins s σ H E I B st J;subst hP hw hK;obtain ⟨xs,x,G,O⟩:=J;obtain ⟨its,Y,p,hz⟩:=I.tuple G;obtain ⟨u,hu,ru⟩:=Y.get O;obtain ⟨Z,U,f2,f3,f4,f5⟩:=B j (by simp);refine wpAny_pyNext_tuple_item st (show s.heap.IsTuple a its.toArray from p) (x:=u) (by simpa using hu) fun h' st' sb=>?_
  have I1:Inv X pins σ H { s with heap:=h' }:=I.turned (t':=s.toks) (fun b o q e=>(sb.2 b q).trans e) Z U f3 f4 f5
  obtain ⟨o,e,c,d⟩:=id st';exact ⟨u,rfl,Qhc (s:={ s with heap:=h' }) e c d (by decide) ⟨x,H,I1,ru,⟨rfl,fun ys hy=>by rw [I.tuple_inj hy G]; exact O⟩,st',fun b q=>(B b q).1⟩⟩
 done:=by
  intro X hP hw hK hc i pins s σ H E I B st J;subst hP hw hK;obtain ⟨xs,G,O⟩:=J;obtain ⟨its,Y,p,hz⟩:=I.tuple G;obtain ⟨Z,U,f2,f3,f4,f5⟩:=B j (by simp);have hl:=Y.length;exact wpAny_pyNext_tuple_end (I.ok.hd hc) st (show s.heap.IsTuple a its.toArray from p) (by simp; omega) fun h' eb=>⟨rfl,I.turned (t':=s.toks) (fun b o q e=>eb b o q e) Z U f3 f4 f5⟩
 self:=fun _ _ _ _ _ st h=>wpAny_pyIter_tupleiter st h
theorem Qeq {P:aP} {w:aO} {K:bU} {tg:aD} (j:aA) (lo:Int) (n:Nat):Turn P w K tg (Itr lo n) [j] j (fun i h=>IsRangeIter h j (lo + (i:Nat) * 1) ((n:Int) - (i:Nat)) 1) where
 mem:=by simp
 obj:=fun i h st b q=>by
  have e:b=j:=by simpa using q
  subst e;exact ⟨_,st,fun v z=>by
   have z':Data.fields _=Data.cell v:=z;cases z'⟩
 keep:=fun i h h' st k=>k j (by simp) _ st
 item:=by
  intro X Y U Z hc i pins s σ H E I B st G;subst Y U Z;obtain ⟨O,J,f2,f3,f4,f5⟩:=B j (by simp);have W:=Walks.range (prog:=X.prog) (w:=X.w) (I.ok.hd hc) j lo 1 n;refine W.item i s _ _ G st fun v h' tk hv st' kk=>?_
  obtain ⟨t,rfl⟩:=hv;have I1:Inv X pins σ H { s with heap:=h',toks:=tk }:=I.turned (fun b o q e=>kk b o (by simpa using q) e) O J f3 f4 f5
  refine ⟨_,rfl,Qhc (s:={ s with heap:=h',toks:=tk }) (n := "range_iterator") st' rfl rfl (by decide) ⟨.int (lo + i),H,I1,⟨t,?_⟩,⟨rfl,rfl⟩,st',fun b q=>(B b q).1⟩⟩
  rw [Int.mul_one]
 done:=by
  intro X Y U Z hc i pins s σ H E I B st G;subst Y U Z;obtain ⟨O,J,f2,f3,f4,f5⟩:=B j (by simp);exact wpAny_pyNext_range_end (I.ok.hd hc) st (by have:n<=i:=G; omega) fun h' eb=>⟨rfl,I.turned (t':=s.toks) (fun b o q e=>eb b o q e) O J f3 f4 f5⟩
 self:=fun _ _ _ _ _ st h=>wpAny_pyIter_rangeiter st h
section
variable {X:Cx} {tg:aD}
def J06 (K:bU) (tl:TE):TI:=fun σ H R=>tl σ H fun x H1=>∃ a,x=.ref a/\(∃ xs,SqL K H1 a xs)/\R (Itl K a) H1
def J2j (K:bU) (tl:TE):TI:=fun σ H R=>tl σ H fun x H1=>∃ a,x=.ref a/\(∃ xs,SqT K H1 a xs)/\R (Itt K a) H1
theorem Qrp {l:aD} {tl:TE} (B:PE X l tl):PI X tg l (J06 X.K tl):=by
 intro pins s σ H R I h;refine thn (B pins s σ H _ I h) fun v s1 ⟨x,H1,j,G,q1⟩=>?_
 obtain ⟨a,e,⟨xs,J⟩,q⟩:=q1;subst e;cases G;obtain ⟨its,O,p,hz⟩:=j.list J;refine wpAny_pyIter_list p.isList ?_;refine ⟨s1.heap.objs.size,[s1.heap.objs.size],_,_,H1,rfl,j.kept (t':=s1.toks) fun b o e=>O1 _ e,Qhu a _,⟨_,D7 _ rfl,rfl,rfl⟩,fun b z=>?_,q⟩
 have e:b=s1.heap.objs.size:=by simpa using z
 subst e;exact j.fpOk (O7 _) (j.hok.fresh (O7 _))
theorem Qvq {l:aD} {tl:TE} (B:PE X l tl):PI X tg l (J2j X.K tl):=by
 intro pins s σ H R I h;refine thn (B pins s σ H _ I h) fun v s1 ⟨x,H1,j,G,q1⟩=>?_
 obtain ⟨a,e,⟨xs,J⟩,q⟩:=q1;subst e;cases G;obtain ⟨its,O,p,hz⟩:=j.tuple J;refine bJ (show s1.heap.IsTuple a its.toArray from p) ?_;refine ⟨s1.heap.objs.size,[s1.heap.objs.size],_,_,H1,rfl,j.kept (t':=s1.toks) fun b o e=>O1 _ e,Qep a _,⟨_,D7 _ rfl,rfl,rfl⟩,fun b z=>?_,q⟩
 have e:b=s1.heap.objs.size:=by simpa using z
 subst e;exact j.fpOk (O7 _) (j.hok.fresh (O7 _))
theorem Qcz {pins:List (aA × Obj)} {σ:St} {H:Hp} {s:aC} {R:It->Hp->Prop} {E:aB->aC->Prop} {lo hi:Int} {t u v:Tok} {tk:Nat} (I:Inv X pins σ H s) (h1:-(2 ^ 62)<=lo) (h2:lo < 2 ^ 62) (G:-(2 ^ 62)<=hi) (B:hi < 2 ^ 62)
  (q:R (Itr lo (hi - lo).toNat) H):aI (aJ X.prog X.w) X.A (pyIter (.ref s.heap.objs.size)) (PIE X pins σ tg R) E { s with heap:=s.heap.push { cls:=.type "range",data:=.fields #[.int lo t,.int hi u,.int 1 v] },toks:=tk }:=by
 refine wpAny_pyIter_range (IsRange.new ..) (small_one h1 h2 G B) ?_;have j:Inv X pins σ H { s with heap:=s.heap.push { cls:=.type "range",data:=.fields #[.int lo t,.int hi u,.int 1 v] },toks:=tk }:=I.kept fun b o e=>O1 _ e
 refine ⟨(s.heap.push { cls:=.type "range",data:=.fields #[.int lo t,.int hi u,.int 1 v] }).objs.size,[(s.heap.push { cls:=.type "range",data:=.fields #[.int lo t,.int hi u,.int 1 v] }).objs.size],_,_,H,rfl,
  j.kept (t':=tk) fun b o e=>O1 _ e,Qeq _ lo (hi - lo).toNat,?_,fun b z=>?_,q⟩
 ·have e1:lo + ((0:Nat):Int) * 1=lo:=by simp
  have e2:(((hi - lo).toNat:Nat):Int) - ((0:Nat):Int)=Builtin.Range.rangeSize lo hi 1:=by rw [rangeSize_one]; split <;> omega
  show IsRangeIter _ _ (lo + ((0:Nat):Int) * 1) ((((hi - lo).toNat:Nat):Int) - ((0:Nat):Int)) 1;rw [e1,e2];exact D7 _ rfl
 ·have e:b=(s.heap.push { cls:=.type "range",data:=.fields #[.int lo t,.int hi u,.int 1 v] }).objs.size:=by simpa using z
  subst e;exact j.fpOk (O7 _) (j.hok.fresh (O7 _))
def J05 (ta:TA):TI:=fun σ H R=>ta σ H fun vs H1=>∃ j:Int,vs=[.int j]/\-(2 ^ 62)<=j/\j < 2 ^ 62/\R (Itr 0 j.toNat) H1
def J04 (ta:TA):TI:=fun σ H R=>ta σ H fun vs H1=>∃ i j:Int,vs=[.int i,.int j]/\(-(2 ^ 62)<=i/\i < 2 ^ 62/\-(2 ^ 62)<=j/\j < 2 ^ 62)/\R (Itr i (j - i).toNat) H1
theorem Qie {a:aD} {ta:TA} {p pos:Pos} (z:Gl X "range") (G:X.mg "range" = none) (B:PA X [a] ta) (hs:aM [a] X.env=[(false,aL a X.env)]:=by rfl):PI X tg (.Call (.Name "range" p) [a] [] pos) (J05 ta):=by
 intro pins s σ H R I h;refine Call_ (Q1w I z G boot_range (ce (thn (B pos pins s σ H _ I h) fun us s1 ⟨vs,H1,J,O,q1⟩=>?_) hs rfl))
 obtain ⟨j,e,q1,q2,q⟩:=q1;subst e;cases O with
 | cons r U=>
  cases U;obtain ⟨t,rfl⟩:=r;exact call_range_1 (Qcz J (by omega) (by omega) q1 q2 (by simpa using q))
theorem Qid {a b:aD} {ta:TA} {p pos:Pos} (J:Gl X "range") (Y:X.mg "range" = none) (U:PA X [a,b] ta) (hs:aM [a,b] X.env=[(false,aL a X.env),(false,aL b X.env)]:=by rfl) (z:aM [b] X.env=[(false,aL b X.env)]:=by rfl) :
  PI X tg (.Call (.Name "range" p) [a,b] [] pos) (J04 ta):=by
 intro pins s σ H R I h;refine Call_ (Q1w I J Y boot_range (ce (thn (U pos pins s σ H _ I h) fun us s1 ⟨vs,H1,I1,Z,q1⟩=>?_) (by rw [hs,z]) (by rw [z]; rfl)))
 obtain ⟨i,j,e,⟨q1,q2,q3,G⟩,q⟩:=q1;subst e;cases Z with
 | cons r B=>
  cases B with
  | cons O B=>
   cases B;obtain ⟨t,rfl⟩:=r;obtain ⟨t',rfl⟩:=O;exact call_range_2 (Qcz I1 q1 q2 q3 G q)
def J20 (wi:TI) (g:TG) (tb:TS):TS:=fun D σ H=>wi σ H fun J H1=>∃ W:Nat->Nat->St->Hp->Prop,(∃ m,W 0 m σ H1)/\∀ i m σ H,W i m σ H ->
 (J.stop i H/\D.nx σ H)\/(J.go i H/\∃ N:St->Hp->Prop,(∀ σ' H',N σ' H'->∃ m',m' < m/\W (i + 1) m' σ' H')/\∀ x H',J.yld i H x H'->g x σ H' fun σ2 H2=>tb { D with nx:=N,ct:=N,bk:=D.nx } σ2 H2)
def Q7h (fp:List aA) (h:Heap):List (aA × Obj):=fp.filterMap fun b=>(h.get? b).map fun o=>(b,o)
theorem Xy {j:List aA} {h:Heap} {b:aA} {o:Obj} (q:b∈j) (e:h.get? b=some o):(b,o)∈Q7h j h:=eI.mpr ⟨b,q,by rw [e]; rfl⟩
theorem Qim {j:List aA} {h:Heap} {p:aA × Obj} (hp:p∈Q7h j h):p.1∈j/\h.get? p.1=some p.2:=by
 obtain ⟨b,B,e⟩:=eI.mp hp;cases q:h.get? b with
 | none=>rw [q] at e; cases e
 | some o=>
  rw [q] at e;have z:(b,o)=p:=bf e;subst z;exact ⟨B,q⟩
theorem Inv.pinned {pins:List (aA × Obj)} {σ:St} {H:Hp} {s:aC} {j:List aA} (I:Inv X pins σ H s) (J:∀ b∈j,Q92 X pins H b) (G:∀ b∈j,∃ o,s.heap.get? b=some o/\∀ v,o.data≠.cell v):Inv X (pins ++ Q7h j s.heap) σ H s:=
 I.pins_of fun p hp=>(F6.mp hp).elim (fun z=>I.pin p (F2 _ z)) fun z=>by
  obtain ⟨q,e⟩:=Qim z;obtain ⟨Y,O,U,_⟩:=J p.1 q;obtain ⟨o,B,d⟩:=G p.1 q;rw [e] at B; cases B;exact ⟨e,Y,O,U,d⟩
theorem Inv.unpinned {pins pl:List (aA × Obj)} {σ:St} {H:Hp} {s:aC} (I:Inv X (pins ++ pl) σ H s):Inv X pins σ H s:=I.pins_of fun p hp=>I.pin p (F2 _ (G8 _ hp))
theorem Qvk {iter:aD} {body:List aK} {wi:TI} {g:TG} {tb:TS} {pos:Pos} (hp:PassesOwn (aJ X.prog X.w) X.A X.env X.xe) (hc:X.calm=true) (hi:PI X tg iter wi) (hg:PG X tg g) (G:PSs X body tb)
  (hs:∀ x,au iter X.env x=pure x:=by intro _; rfl):PS X (.For tg iter body [] pos) (J20 wi g tb):=by
 intro pins s σ H D I h;refine wpAny_For (thn (hi pins s σ H _ I h) fun v s1 h1=>thn h1 fun a7 s2 h2=>?_) hs
 obtain ⟨it,fp,tn,J,H2,e,I2,T,a5,f2,W,⟨m0,w0⟩,turn⟩:=h2;subst e;have B:∀ {H':Hp},(∀ b∈fp,H' b=none)->∀ b∈fp,Q92 X pins H' b:=fun hn b G=>⟨hn b G,(f2 b G).2⟩
 refine codeAny_forLoop_any (fun n s'=>∃ i z H',Inv X pins z H' s'/\tn i s'.heap/\(∀ b∈fp,H' b=none)/\W i n z H') ?_ m0 ⟨0,σ,H2,I2,a5,fun b G=>(f2 b G).1,w0⟩
 rintro n s3 ⟨i,q,H3,I3,a2,Z,w3⟩;rcases turn i n q H3 w3 with ⟨stop,qn⟩ | ⟨go,N,hN,step⟩
 ·refine bC hp (thn (T.done X rfl rfl rfl hc i pins s3 q H3 X.xe I3 (B Z) a2 stop) fun r s4 ⟨hr,I4⟩=>?_)
  subst hr;exact wpAny_execs_nil ⟨q,H3,I4,qn⟩
 ·refine bC hp (thn (T.item X rfl rfl rfl hc i pins s3 q H3 X.xe I3 (B Z) a2 go) fun r s4 ⟨u,hr,h4⟩=>?_)
  subst hr;refine bC hp (thn h4 fun _ s5 ⟨x,H5,I5,r5,y5,Y,a6⟩=>?_);have a4:=I5.pinned (B a6) (T.obj _ _ Y);refine bC hp (thn (hg _ s5 q H5 x u _ a4 r5 (step x H5 y5)) fun _ s6 ⟨a3,H6,I6,q6⟩=>?_)
  refine bC hp (thn (G _ s6 a3 H6 _ I6 q6) fun f s7 U=>?_)
  have again:∀ {j:St} {H7:Hp},Inv X (pins ++ Q7h fp s5.heap) j H7 s7->N j H7->∃ m,m < n/\∃ i z H',Inv X pins z H' s7/\tn i s7.heap/\(∀ b∈fp,H' b=none)/\W i m z H':=fun {j H7} O n7=>by
   obtain ⟨m',hm,w7⟩:=hN j H7 n7;refine ⟨m',hm,i + 1,j,H7,O.unpinned,T.keep _ _ _ Y fun b G o e=>(O.pin (b,o) (F2 _ (F2 _ (Xy G e)))).1,fun b G=>?_,w7⟩;obtain ⟨o,e,d⟩:=T.obj _ _ Y b G;exact (O.pin (b,o) (F2 _ (F2 _ (Xy G e)))).2.1
  cases f with
  | next=>obtain ⟨j,H7,O,n7⟩:=U; exact again O n7
  | cont=>obtain ⟨j,H7,O,n7⟩:=U; exact again O n7
  | brk=>obtain ⟨j,H7,O,U⟩:=U; exact ⟨j,H7,O.unpinned,U⟩
  | ret v=>obtain ⟨x7,j,H7,O,r7,U⟩:=U; exact ⟨x7,j,H7,O.unpinned,r7,U⟩
end
abbrev R2:=V->V->Hp->VK->Prop
def OpR (X:Cx) (f:aB->aB->Sem aB) (r:R2):Prop:=
 ∀ (pins:List (aA × Obj)) (s:aC) (σ:St) (H:Hp) (x y:V) (v u:aB) (Q:VK),Inv X pins σ H s->RelV x v->RelV y u->r x y H Q ->
  aI (aJ X.prog X.w) X.A (f v u) (EP X pins σ Q) X.xe s
def UnR (X:Cx) (f:aB->Sem aB) (r:V->Hp->VK->Prop):Prop:=
 ∀ (pins:List (aA × Obj)) (s:aC) (σ:St) (H:Hp) (x:V) (v:aB) (Q:VK),Inv X pins σ H s->RelV x v->r x H Q ->
  aI (aJ X.prog X.w) X.A (f v) (EP X pins σ Q) X.xe s
def Kh (X:Cx) (f:aB) (r:List V->Hp->VK->Prop):Prop:=
 ∀ (pins:List (aA × Obj)) (s:aC) (σ:St) (H:Hp) (xs:List V) (us:List aB) (Q:VK),Inv X pins σ H s->Vals xs us->r xs H Q ->
  aI (aJ X.prog X.w) X.A (call f us) (EP X pins σ Q) X.xe s
def tOp (r:R2) (ta tb:TE):TE:=fun σ H Q=>ta σ H fun x H1=>tb σ H1 fun y H2=>r x y H2 Q
def tUn (r:V->Hp->VK->Prop) (ta:TE):TE:=fun σ H Q=>ta σ H fun x H1=>r x H1 Q
def rI (C:Int->Int->Prop) (g:Int->Int->V):R2:=fun x y H Q=>∃ i j,x=.int i/\y=.int j/\C i j/\Q (g i j) H
def rI0 (g:Int->Int->V):R2:=fun x y H Q=>∃ i j,x=.int i/\y=.int j/\Q (g i j) H
def rU (g:Int->V):V->Hp->VK->Prop:=fun x H Q=>∃ i,x=.int i/\Q (g i) H
section
variable {X:Cx} {a b c:aD} {ta tb tc:TE} {pos:Pos}
theorem Qxe (O:PE X a ta) (z:PE X b tb) {pins:List (aA × Obj)} {s:aC} {σ:St} {H:Hp} {R:V->V->Hp->Prop} (I:Inv X pins σ H s)
  (h:ta σ H fun x H1=>tb σ H1 fun y H2=>R x y H2) {Q:aB->aC->Prop} {f:aB->aB->Sem aB}
  (B:∀ v u s2 x y H2,Inv X pins σ H2 s2->RelV x v->RelV y u->R x y H2->aI (aJ X.prog X.w) X.A (f v u) Q X.xe s2) :
  aI (aJ X.prog X.w) X.A (aL a X.env) (fun v q=>aI (aJ X.prog X.w) X.A (aL b X.env) (fun u j=>aI (aJ X.prog X.w) X.A (f v u) Q X.xe j) X.xe q) X.xe s:=by
 refine thn (O pins s σ H _ I h) fun v s1 ⟨x,H1,Y,U,q1⟩=>?_
 refine thn (z pins s1 σ H1 _ Y q1) fun u s2 ⟨y,H2,G,J,q2⟩=>?_
 exact B v u s2 x y H2 G U J q2
theorem Qu6 {op:Operator} {r:R2} (j:OpR X (aW op) r) (G:PE X a ta) (z:PE X b tb):PE X (.BinOp a op b pos) (tOp r ta tb):=by
 intro pins s σ H Q I h;exact wpAny_BinOp (Qxe G z I h fun v u s2 x y H2 B J O q=>j pins s2 σ H2 x y v u Q B J O q)
theorem Qz6 {op:UnaryOp} {r:V->Hp->VK->Prop} (j:UnR X (unaryOp op) r) (q:PE X a ta):PE X (.UnaryOp op a pos) (tUn r ta):=by
 intro pins s σ H Q I h;exact UnaryOp_ (thn (q pins s σ H _ I h) fun v s1 ⟨x,H1,z,B,q1⟩=>j pins s1 σ H1 x v Q z B q1)
theorem opI {f:aB->aB->Sem aB} {C:Int->Int->Prop} {g:Int->Int->Int}
  (rule:∀ (i j:Int) (t u:Tok) (s:aC) (Q:aB->aC->Prop) (E:aB->aC->Prop),C i j->Q (.int (g i j) s.toks) { s with toks:=s.toks + 1 }->aI (aJ X.prog X.w) X.A (f (.int i t) (.int j u)) Q E s) :
  OpR X f (rI C fun i j=>.int (g i j)):=by
 intro pins s σ H x y v u Q I B G h;obtain ⟨i,j,rfl,rfl,z,q⟩:=h;obtain ⟨t,rfl⟩:=B;obtain ⟨t',rfl⟩:=G;exact rule i j t t' s _ _ z ⟨.int (g i j),H,I.tok _,⟨_,rfl⟩,q⟩
theorem Qzm {f:aB->aB->Sem aB} {g:Int->Int->Int}
  (rule:∀ (i j:Int) (t u:Tok) (s:aC) (Q:aB->aC->Prop) (E:aB->aC->Prop),Q (.int (g i j) s.toks) { s with toks:=s.toks + 1 }->aI (aJ X.prog X.w) X.A (f (.int i t) (.int j u)) Q E s) :
  OpR X f (rI0 fun i j=>.int (g i j)):=by
 intro pins s σ H x y v u Q I z B h;obtain ⟨i,j,rfl,rfl,q⟩:=h;obtain ⟨t,rfl⟩:=z;obtain ⟨t',rfl⟩:=B;exact rule i j t t' s _ _ ⟨.int (g i j),H,I.tok _,⟨_,rfl⟩,q⟩
theorem Qs8 {f:aB->aB->Sem aB} {g:Int->Int->Bool}
  (rule:∀ (i j:Int) (t u:Tok) (s:aC) (Q:aB->aC->Prop) (E:aB->aC->Prop),Q (.bool (g i j)) s->aI (aJ X.prog X.w) X.A (f (.int i t) (.int j u)) Q E s) :
  OpR X f (rI0 fun i j=>.bl (g i j)):=by
 intro pins s σ H x y v u Q I z B h;obtain ⟨i,j,rfl,rfl,q⟩:=h;obtain ⟨t,rfl⟩:=z;obtain ⟨t',rfl⟩:=B;exact rule i j t t' s _ _ ⟨.bl (g i j),H,I,rfl,q⟩
def J2t (i j:Int):Prop:=0 < j/\j < 1073741824
def J2s (i j:Int):Prop:=0<=j/\j<=1000000/\i.natAbs < 2 ^ 64
def CMul (i j:Int):Prop:=(-(2 ^ 64) < i/\i < 2 ^ 64)\/(-(2 ^ 64) < j/\j < 2 ^ 64)
theorem CMul.ok {i j:Int} (h:CMul i j):IntMulOk i j:=by
 rcases h with ⟨h1,h2⟩ | ⟨h1,h2⟩
 ·exact .of_left (intBits_le_64 h1 h2)
 ·exact .of_right (intBits_le_64 h1 h2)
theorem Qwa:OpR X (aW .Add) (rI0 fun i j=>.int (i + j)):=Qzm fun _ _ _ _ _ _ _ q=>add_int q
theorem Qw4:OpR X (aW .Sub) (rI0 fun i j=>.int (i - j)):=Qzm fun _ _ _ _ _ _ _ q=>sub_int q
theorem Qw7:OpR X (aW .Mult) (rI CMul fun i j=>.int (i * j)):=opI fun _ _ _ _ _ _ _ z q=>mul_int q z.ok
theorem Qs6:OpR X (aW .FloorDiv) (rI J2t fun i j=>.int (i / j)):=opI fun i j _ _ _ _ _ z q=>by
 have h1:(0:Int) < j:=z.1;have h2:j < 1073741824:=z.2;exact floordiv_int (by omega) (by rw [fV i (by omega)]; exact q) (.inl (PyProof.noPylong_small (by omega)))
theorem Qw8:OpR X (aW .Mod) (rI (fun _ j=>0 < j) fun i j=>.int (i % j)):=opI fun i j _ _ _ _ _ z q=>by
 have h1:(0:Int) < j:=z;exact mod_int' (by omega) (by rw [Int.fmod_eq_emod_of_nonneg i (by omega)]; exact q)
theorem Qw6:OpR X (aW .Pow) (rI J2s fun i j=>.int (i ^ j.toNat)):=opI fun _ _ _ _ _ _ _ z q=>pow_int_small z.1 z.2.1 z.2.2 q
theorem unI {f:aB->Sem aB} {g:Int->Int}
  (rule:∀ (i:Int) (t:Tok) (s:aC) (Q:aB->aC->Prop) (E:aB->aC->Prop),Q (.int (g i) s.toks) { s with toks:=s.toks + 1 }->aI (aJ X.prog X.w) X.A (f (.int i t)) Q E s) :
  UnR X f (rU fun i=>.int (g i)):=by
 intro pins s σ H x v Q I j h;obtain ⟨i,rfl,q⟩:=h;obtain ⟨t,rfl⟩:=j;exact rule i t s _ _ ⟨.int (g i),H,I.tok _,⟨_,rfl⟩,q⟩
theorem Quk:UnR X (unaryOp .USub) (rU fun i=>.int (-i)):=unI fun _ _ _ _ _ q=>neg_int q
end
section
variable {X:Cx} {a b c:aD} {ta tb tc:TE} {pos:Pos}
theorem Qg3 {pins:List (aA × Obj)} {σ:St} {H:Hp} {s:aC} {Q:VK} {k j:Bool} (I:Inv X pins σ H s) (q:Q (.bl k) H) (e:k=j):EP X pins σ Q (.bool j) s:=by
 subst e;exact ⟨.bl k,H,I,rfl,q⟩
theorem Qzh:OpR X (aV .Lt) (rI0 fun i j=>.bl (decide (i < j))):=Qs8 fun _ _ _ _ _ _ _ q=>lt_int q
theorem Qzi:OpR X (aV .LtE) (rI0 fun i j=>.bl (decide (i<=j))):=Qs8 fun _ _ _ _ _ _ _ q=>le_int q
theorem Qzj:OpR X (aV .Gt) (rI0 fun i j=>.bl (decide (j < i))):=Qs8 fun _ _ _ _ _ _ _ q=>gt_int q
theorem Qzk:OpR X (aV .GtE) (rI0 fun i j=>.bl (decide (j<=i))):=Qs8 fun _ _ _ _ _ _ _ q=>ge_int q
theorem Qs5:OpR X (aV .IsNot) (fun x y H Q=>y=.non/\Q (.bl (!decide (x=.non))) H):=by
 intro pins s σ H x y v u Q I j z h;obtain ⟨rfl,q⟩:=h;cases z;refine isnot_none_gen (Qg3 I q ?_);cases x <;> first
  | (cases j; rfl)
  | (obtain ⟨t,rfl⟩:=j; rfl)
theorem OpR.or {f:aB->aB->Sem aB} {r B:R2} (h:OpR X f r) (h':OpR X f B):OpR X f (fun x y H Q=>r x y H Q\/B x y H Q):=by
 intro pins s σ H x y v u Q I j z q;rcases q with q | q
 ·exact h pins s σ H x y v u Q I j z q
 ·exact h' pins s σ H x y v u Q I j z q
theorem Qfi (b:aD) {op:CmpOp} (h:op≠.In:=by decide) (h2:op≠.NotIn:=by decide):bG op b=false:=by
 have e1:(op == CmpOp.In)=false:=by cases op <;> first | rfl | exact absurd rfl h
 have e2:(op == CmpOp.NotIn)=false:=by cases op <;> first | rfl | exact absurd rfl h2
 cases b <;> simp [bG,e1,e2]
theorem Qry {op:CmpOp} {r:R2} (j:OpR X (aV op) r) (G:PE X a ta) (z:PE X b tb) (J:bG op b=false):PE X (.Compare a [op] [b] pos) (tOp r ta tb):=by
 intro pins s σ H Q I h;exact wpAny_Compare1 (Qxe G z I h fun v u s2 x y H2 B O U q=>j pins s2 σ H2 x y v u Q B O U q) J
def Qty (t:TE):TT:=fun σ H Q=>t σ H fun x H'=>∃ k,x=.bl k/\Q k H'
theorem Qri {op:CmpOp} {r:R2} (j:OpR X (aV op) r) (J:PE X a ta) (q:PE X b tb) (O:bG op b=false):PT X (.Compare a [op] [b] pos) (Qty (tOp r ta tb)):=by
 intro pins s σ H Q I h;refine wpAny_isTrue_Compare1 (thn (J pins s σ H _ I h) fun v s1 ⟨x,H1,Z,r1,q1⟩=>thn (q pins s1 σ H1 _ Z q1) fun u s2 ⟨y,H2,B,G,q2⟩=>
  thn (j pins s2 σ H2 x y v u _ B r1 G q2) fun c s3 ⟨z,Y,U,r3,k,e,q3⟩=>?_) O
 subst e;cases r3;exact ar ⟨Y,U,q3⟩
def Qes (r r':R2) (ta tb tc:TE):TE:=fun σ H Q=>ta σ H fun x H1=>tb σ H1 fun y H2=>r x y H2 fun z H3=>∃ k,z=.bl k /\
 (if k=true then tc σ H3 fun w' H4=>r' y w' H4 Q else Q (.bl false) H3)
theorem Qmr {op j:CmpOp} {r J:R2} (ho:OpR X (aV op) r) (q:OpR X (aV j) J) (ha:PE X a ta) (hb:PE X b tb) (hc:PE X c tc)
  (hm:lastMarks [op,j] [b,c]=false:=by with_unfolding_all rfl):PE X (.Compare a [op,j] [b,c] pos) (Qes r J ta tb tc):=by
 intro pins s σ H Q I h;refine Compare_chain (thn (ha pins s σ H _ I h) fun v s1 ⟨x,H1,I1,r1,q1⟩=>chain_link (thn (hb pins s1 σ H1 _ I1 q1) fun u s2 ⟨y,H2,I2,O,q2⟩=>
  thn (ho pins s2 σ H2 x y v u _ I2 r1 O q2) fun d s3 ⟨z,G,B,r3,k,e,q3⟩=>?_)) hm
 subst e;cases r3;refine ar ?_;cases k with
 | false=>exact ite_ff ⟨.bl false,G,B,rfl,q3⟩
 | true=>exact ite_tt (chain_last (thn (hc pins s3 σ G _ B q3) fun Y s4 ⟨Z,H4,U,r4,q4⟩=>q pins s4 σ H4 y Z u Y Q U O r4 q4))
theorem Qma {op j:CmpOp} {r J:R2} (ho:OpR X (aV op) r) (q:OpR X (aV j) J) (ha:PE X a ta) (hb:PE X b tb) (hc:PE X c tc)
  (hm:lastMarks [op,j] [b,c]=false:=by with_unfolding_all rfl):PT X (.Compare a [op,j] [b,c] pos) (Qty (Qes r J ta tb tc)):=by
 intro pins s σ H Q I h;refine isTrue_chain (thn (ha pins s σ H _ I h) fun v s1 ⟨x,H1,I1,r1,q1⟩=>test_link (thn (hb pins s1 σ H1 _ I1 q1) fun u s2 ⟨y,H2,I2,O,q2⟩=>
  thn (ho pins s2 σ H2 x y v u _ I2 r1 O q2) fun d s3 ⟨z,G,B,r3,k,e,q3⟩=>?_)) hm
 subst e;cases r3;refine ar ?_;cases k with
 | false=>
  obtain ⟨k',e',Y⟩:=q3;cases e';exact ite_ff ⟨G,B,Y⟩
 | true=>
  refine ite_tt (test_last (thn (hc pins s3 σ G _ B q3) fun Z s4 ⟨z',H4,U,r4,q4⟩=>thn (q pins s4 σ H4 y z' u Z _ U O r4 q4) fun d' s5 ⟨z2,H5,I5,r5,k2,e2,q5⟩=>?_))
  subst e2;cases r5;exact ar ⟨H5,I5,q5⟩
theorem Q5b:(sizeLine:Nat) < 2 ^ 63:=by rw [sizeLine_eq]; decide
theorem Qfd:OpR X (aW .Add) (fun x y H Q=>∃ i j,x=.str i/\y=.str j/\i.length + j.length<=sizeLine/\Q (.str (i ++ j)) H):=by
 intro pins s σ H x y v u Q I z B h;obtain ⟨i,j,rfl,rfl,hz,q⟩:=h;obtain ⟨t,rfl⟩:=z;obtain ⟨t',rfl⟩:=B;exact add_str (fun t' tk=>⟨.str (i ++ j),H,I.tok _,⟨_,rfl⟩,q⟩) hz
theorem Q1b {x:V} {us:List aB} (r:Vals [x] us):∃ u,us=[u]/\RelV x u:=by
 cases r with
 | cons j q=>cases q; exact ⟨_,rfl,j⟩
theorem Qk5 {x y:V} {us:List aB} (r:Vals [x,y] us):∃ u j,us=[u,j]/\RelV x u/\RelV y j:=by
 cases r with
 | cons G z=>
  cases z with
  | cons B q=>cases q; exact ⟨_,_,rfl,G,B⟩
theorem Qjk (B:X.calm=true):Kh X (.builtin "max") (fun xs H Q=>∃ i j,xs=[.int i,.int j]/\Q (.int (if j > i then j else i)) H):=by
 intro pins s σ H xs us Q I r h;obtain ⟨i,j,rfl,q⟩:=h;obtain ⟨u,G,rfl,⟨t,rfl⟩,⟨t',rfl⟩⟩:=Qk5 r;refine max_two_ints (I.ok.hd B) fun h' tk k=>⟨_,H,I.kept k,?_,q⟩
 by_cases z:j > i
 ·rw [bO z,bO z]; exact ⟨_,rfl⟩
 ·rw [bP z,bP z]; exact ⟨_,rfl⟩
theorem Qji (B:X.calm=true):Kh X (.builtin "min") (fun xs H Q=>∃ i j,xs=[.int i,.int j]/\Q (.int (if j < i then j else i)) H):=by
 intro pins s σ H xs us Q I r h;obtain ⟨i,j,rfl,q⟩:=h;obtain ⟨u,G,rfl,⟨t,rfl⟩,⟨t',rfl⟩⟩:=Qk5 r;refine min_two_ints (I.ok.hd B) fun h' tk k=>⟨_,H,I.kept k,?_,q⟩
 by_cases z:j < i
 ·rw [bO z,bO z]; exact ⟨_,rfl⟩
 ·rw [bP z,bP z]; exact ⟨_,rfl⟩
end
structure ObjM (h:Heap) (x dx C:aA) (mA:Str->Option aB):Prop where
 obj:h.get? x=some (cD C dx)
 ns:h.Ns1 dx mA
 ne:dx≠x
theorem Qag {h:Heap} {dx:aA} {mA:Str->Option aB} (n:h.Ns1 dx mA):∃ B,h.get? dx=some B/\∀ name,dW name B=some (mA name):=by
 obtain ⟨o,es,Y,G,hd,I,_,U⟩:=n;refine ⟨o,G,fun name=>?_⟩;have e:=U name;unfold nsFind findBy at e;rw [<- Array.find?_toList] at e;unfold dW;rw [hd];dsimp only
 split
 ·rename_i y q;rw [q] at e;exact congrArg some e
 ·rename_i q;rw [q] at e;have a:es.toList.any (·.refKey)=false:=by
   rw [fW];intro y O;obtain ⟨z,t,j⟩:=I y (Array.mem_toList_iff.mp O);simp [DictEntry.refKey,j]
  have J:¬ es.toList.any (·.refKey)=true:=by rw [a]; exact E5
  rw [bP J];exact congrArg some e
theorem ObjM.look {h:Heap} {x dx C:aA} {mA:Str->Option aB} (I:ObjM h x dx C mA):∃ j,PySem.W.InstAt h x (cD C dx) C (some j)/\∀ name,dW name j=some (mA name):=
 let ⟨j,q,z⟩:=Qag I.ns
 ⟨j,⟨I.obj,rfl,rfl,q⟩,z⟩
section
variable {prog:aP} {w:aO} {A:aR} {E:aB->aC->Prop} {s:aC} {K:bU} {x dx C f:aA} {mA:Str->Option aB} {name:Str} {v:aB}
theorem Qt7 {j:Bool} {Q:aB->aC->Prop} (X:K.In s.heap) (I:ObjM s.heap x dx C mA) (z:dB K C name=true) (B:dX K C=true)
  (G:bZ K (.ref C) name=some none) (O:mA name=some v) (q:fX v=true) (h:Q v { s with toks:=s.toks + 1 }) :
  aI (aJ prog w) A (getAttr (.ref x) name j) Q E s:=by
 obtain ⟨Y,J,U⟩:=I.look;exact PySem.W.get_value X J (eJ z).1 (PySem.W.findObj_own B G rfl (by rw [U,O])) q h
theorem Qnw {pl:Sem Bool} {Q:aB × List aB->aC->Prop} (X:K.In s.heap) (I:ObjM s.heap x dx C mA) (j:dB K C name=true)
  (q:bZ K (.ref C) name=some (some (.ref f))) (z:dC K (.ref f)=true) (B:mA name=none) (h:Q (.ref f,[.ref x]) s) :
  aI (aJ prog w) A (getMethod (.ref x) name pl) Q E s:=by
 obtain ⟨O,J,G⟩:=I.look;exact PySem.W.method_fn X J (eJ j).1 (eJ j).2 q (beq_iff_eq.mp z) (by show (dW name O).map (·.isSome)=some false; rw [G,B]; rfl) h
theorem Qqz {ns:List Str} {Q:Unit->aC->Prop} (X:K.In s.heap) (I:ObjM s.heap x dx C mA)
  (hs:bZ K (.ref C) "__setattr__" = some (some (.builtin "object.__setattr__"))) (hp:eK K C=true) (Y:eM K C name=some none) (hh:dX K C=true)
  (hw:eE mA ns) (a2:ns.length<=sizeLine)
  (h:∀ h',ObjM h' x dx C (fun y=>if y=name then some v else mA y)->Heap.SameBut dx s.heap h'->Q () { s with heap:=h',toks:=s.toks + 2 }) :
  aI (aJ prog w) A (setAttr (.ref x) name v) Q E s:=by
 obtain ⟨od,J,hl⟩:=I.look;refine PySem.W.set_plain X J hs (PySem.W.osa_open (s:={ s with toks:=s.toks + 1 }) (r:=none) X J hp Y fun b=>?_)
 obtain ⟨cd,hc,G⟩:=PySem.W.any_some hh;have U:s.heap.get? x=some ⟨.ref C,some dx,.plain,#[]⟩:=I.obj;refine aF (aQ (aF (aF (wpAny_loadPart U (aF (PySem.W.Looks.here (s:={ s with toks:=s.toks + 1 }) (PySem.W.looks_clsIn X hc) ?_))))));rw [G];refine aQ (a:=some dx) (aF (aQ (aF ?_)));refine wpAny_nsSet1 (s:={ s with toks:=s.toks + 1 }) I.ns fun h' j q=>?_
 obtain ⟨oD,a3,Z,O,B,z⟩:=j.count (PySem.Within.cons name v hw);refine aF (wpAny_lookBehind O (by rw [B]; exact pastItsLine_dict (F1 z (by rw [D8]; omega))) ?_);exact aQ (h _ ⟨(q.2 _ (Ne.symm I.ne)).trans I.obj,j,I.ne⟩ q)
theorem Qnc {R:Result->aC->Prop} {vs:List aB} {j:List (Str × aB)} (X:K.In s.heap) (z:eN K C=true)
  (hi:bZ K (.ref C) "__init__" = some (some (.ref f))) (q:PySem.W.typeIn K (.ref f)=some (.type "function"))
  (h:codeAny (aJ prog w) (A.under (.builtin "type.__call__" ⟨.ref C :: vs,j⟩)) (.call (.ref f) ⟨.ref (s.heap.objs.size + 1) :: vs,j⟩) (PySem.W.InitBack (s.heap.objs.size + 1) R)
   { s with heap:=(s.heap.push bu).push (cD C s.heap.objs.size) }) :
  codeAny (aJ prog w) A (.call (.ref C) ⟨vs,j⟩) R s:=by
 obtain ⟨B,g,d,t,os⟩:=s;exact PySem.W.make_core (PySem.W.makes_of X z) (fY X hi) (fun self=>PySem.W.bind_fn X self q) (.inl rfl) h
end
def Q03 (f:Str) (v:V):List (Str × V)->List (Str × V)
 | []=>[(f,v)]
 | (g,x) :: r=>if g=f then (g,v) :: r else (g,x) :: Q03 f v r
theorem Q5q (f g:Str) (v:V):∀ fs:List (Str × V),(Q03 f v fs).lookup g=if g=f then some v else fs.lookup g
 | []=>by
  show bv g [(f,v)]=_
  by_cases h:g=f
  ·have j:(g == f)=true:=beq_iff_eq.mpr h;simp only [bv,j,bO h]
  ·have j:(g == f)=false:=beq_eq_false_iff_ne.mpr h;simp only [bv,j,bP h]
 | (k,x) :: r=>by
  have z:=Q5q f g v r;rw [show Q03 f v ((k,x) :: r)=(if k=f then (k,v) :: r else (k,x) :: Q03 f v r) from rfl]
  by_cases q:k=f
  ·rw [bO q]
   by_cases h:g=k
   ·have j:(g == k)=true:=beq_iff_eq.mpr h;simp only [bv,j,bO (h.trans q)]
   ·have j:(g == k)=false:=beq_eq_false_iff_ne.mpr h;simp only [bv,j,bP (fun e:g=f=>h (e.trans q.symm))]
  ·rw [bP q]
   by_cases h:g=k
   ·have j:(g == k)=true:=beq_iff_eq.mpr h;simp only [bv,j,bP (fun e:g=f=>q (h.symm.trans e))]
   ·have j:(g == k)=false:=beq_eq_false_iff_ne.mpr h;simp only [bv,j];exact z
theorem Q5e (f:Str) (v:V):∀ fs:List (Str × V),f∈(Q03 f v fs).map (·.1)/\∀ g,g∈fs.map (·.1)->g∈(Q03 f v fs).map (·.1)
 | []=>⟨by simp [Q03],fun g h=>by simp at h⟩
 | (k,x) :: r=>by
  obtain ⟨z,q⟩:=Q5e f v r;rw [show Q03 f v ((k,x) :: r)=(if k=f then (k,v) :: r else (k,x) :: Q03 f v r) from rfl]
  by_cases j:k=f
  ·rw [bO j];subst j;exact ⟨by simp,fun g h=>by simpa using h⟩
  ·rw [bP j];refine ⟨?_,fun g h=>?_⟩
   ·rw [F7];exact D1 _ z
   ·rw [F7] at h ⊢;rcases E3.mp h with e | e
    ·exact E3.mpr (.inl e)
    ·exact D1 _ (q g e)
theorem Q5r (f:Str) (v:V):∀ fs:List (Str × V),(Q03 f v fs).length<=fs.length + 1
 | []=>by simp [Q03]
 | (k,x) :: r=>by
  have q:=Q5r f v r;rw [show Q03 f v ((k,x) :: r)=(if k=f then (k,v) :: r else (k,x) :: Q03 f v r) from rfl]
  by_cases j:k=f
  ·rw [bO j,D8,D8]; omega
  ·rw [bP j,D8,D8]; omega
theorem RelO.some_of {v:V} {o:Option aB} (r:RelO (some v) o):∃ u,o=some u/\RelV v u:=by
 cases o with
 | none=>exact (show False from r).elim
 | some u=>exact ⟨u,rfl,r⟩
theorem RelO.none_of {o:Option aB} (r:RelO none o):o=none:=by
 cases o with
 | none=>rfl
 | some u=>exact (show False from r).elim
theorem Qj9 {v:V} {u:aB} (r:RelV v u):fX u=true:=by
 cases v with
 | non=>cases (show u=bb from r); rfl
 | bl b=>cases (show u=cC b from r); rfl
 | int i=>obtain ⟨t,e⟩:=(show ∃ t,u=cc i t from r); cases e; rfl
 | str x=>obtain ⟨t,e⟩:=(show ∃ t,u=dA x t from r); cases e; rfl
 | byt b=>obtain ⟨t,e⟩:=(show ∃ t,u=fP b t from r); cases e; rfl
 | flt b=>obtain ⟨t,e⟩:=(show ∃ t,u=eC b t from r); cases e; rfl
 | ref a=>cases (show u=bW a from r); rfl
 | ty n=>cases (show u=dQ n from r); rfl
section
variable {P:aP} {w:aO} {H H':Hp} {h h':Heap} {a C dx:aA} {fs fs':List (Str × V)}
theorem Q6j (hok:HOk P w H h) (e:H a=some (.ins C dx fs)):∃ mA,ObjM h a dx C mA/\(∀ f,RelO (fs.lookup f) (mA f))/\eE mA (fs.map (·.1))/\fs.length<=1000/\H dx=some (.own a):=by
 obtain ⟨d,z,ne,ob,mA,n,r,q⟩:=(show ObjOk P w H h a (.ins C dx fs) from hok a _ e);exact ⟨mA,⟨ob,n,ne⟩,r,q,z,d⟩
end
structure Cls (K:bU) (C:aA):Prop where
 pg:dB K C fZ=true
 hd:dX K C=true
 po:eK K C=true
 sa:bZ K (.ref C) "__setattr__" = some (some (.builtin "object.__setattr__"))
theorem Cls.get {K:bU} {C:aA} (c:Cls K C) (f:Str):dB K C f=true:=c.pg
def NoAttr (K:bU) (C:aA) (f:Str):Prop:=bZ K (.ref C) f=some none
theorem NoAttr.taker {K:bU} {C:aA} {f:Str} (n:NoAttr K C f):eM K C f=some none:=by
 unfold eM;rw [show bZ K (.ref C) f=some none from n];rfl
structure Meth (K:bU) (C:aA) (m:Str) (f:aA):Prop where
 at_:bZ K (.ref C) m=some (some (.ref f))
 fn:dC K (.ref f)=true
 kp:bi K (.ref f)=true
section
variable {X:Cx} {pins:List (aA × Obj)} {σ:St} {H:Hp} {s:aC} {a C dx:aA} {fs:List (Str × V)} {f:Str} {v:V} {A:aR} {E:aB->aC->Prop}
theorem Qg0 {b:Bool} {Q:aB->aC->Prop} (I:Inv X pins σ H s) (e:H a=some (.ins C dx fs)) (c:Cls X.K C) (n:NoAttr X.K C f) (l:fs.lookup f=some v)
  (h:∀ u s',Inv X pins σ H s'->RelV v u->Q u s'):aI (aJ X.prog X.w) A (getAttr (.ref a) f b) Q E s:=by
 obtain ⟨mA,O,r,_,_,_⟩:=Q6j I.hok e;obtain ⟨u,q,j⟩:=RelO.some_of (v:=v) (o:=mA f) (by rw [<- l]; exact r f);exact Qt7 I.kIn O (c.get f) c.hd n q (Qj9 j) (h u _ (I.tok _) j)
theorem Q8n {m:Str} {g:aA} {pl:Sem Bool} {Q:aB × List aB->aC->Prop} (I:Inv X pins σ H s) (e:H a=some (.ins C dx fs)) (c:Cls X.K C) (k:Meth X.K C m g) (l:fs.lookup m=none)
  (h:Q (.ref g,[.ref a]) s):aI (aJ X.prog X.w) A (getMethod (.ref a) m pl) Q E s:=by
 obtain ⟨mA,O,r,_,_,_⟩:=Q6j I.hok e;have j:mA m=none:=RelO.none_of (by rw [<- l]; exact r m);exact Qnw I.kIn O (c.get m) k.at_ k.fn j h
theorem Qez {y:V} {u:aB} {Q:Unit->aC->Prop} (I:Inv X pins σ H s) (e:H a=some (.ins C dx fs)) (c:Cls X.K C) (n:NoAttr X.K C f) (hl:fs.length < 1000) (ry:RelV y u)
  (h:∀ s',Inv X pins σ (upd H a (.ins C dx (Q03 f y fs))) s'->Q () s'):aI (aJ X.prog X.w) A (setAttr (.ref a) f u) Q E s:=by
 obtain ⟨mA,O,r,G,_,B⟩:=Q6j I.hok e;have hz:(fs.map (·.1)).length<=sizeLine:=by rw [O2,sizeLine_eq]; omega
 refine Qqz I.kIn O c.sa c.po n.taker c.hd G hz fun h' j Y=>h _ ?_
 have hd:∃ o,h'.get? dx=some o:=let ⟨o,_,_,Z,_⟩:=j.ns; ⟨o,Z⟩;refine I.write (x:=a) (e:=dx) (by rw [e]; exact True.intro) (.inr B) (fun b q U z=>(Y.2 b U).trans z) hd ?_
 refine ⟨by rw [Qa O.ne]; exact B,?_,O.ne,j.obj,_,j.ns,fun g=>?_,fun g J=>?_⟩
 ·have:=Q5r f y fs; omega
 ·show RelO ((Q03 f y fs).lookup g) (if g=f then some u else mA g);rw [Q5q]
  by_cases q:g=f
  ·rw [bO q,bO q]; exact ry
  ·rw [bP q,bP q]; exact r g
 ·by_cases q:g=f
  ·rw [q]; exact (Q5e f y fs).1
  ·refine (Q5e f y fs).2 g (G g fun z=>J ?_);show (if g=f then some u else mA g)=none;rw [bP q]; exact z
theorem Inv.made (I:Inv X pins σ H s):Inv X pins σ (upd (upd H s.heap.objs.size (.own (s.heap.objs.size + 1))) (s.heap.objs.size + 1) (.ins C s.heap.objs.size []))
  { s with heap:=(s.heap.push bu).push (cD C s.heap.objs.size) }:=by
 have e1:(s.heap.push bu).get? s.heap.objs.size=some bu:=D7 s.heap rfl;have e2:((s.heap.push bu).push (cD C s.heap.objs.size)).get? (s.heap.objs.size + 1)=some (cD C s.heap.objs.size):=by
  have:=D7 (s.heap.push bu) (o:=cD C s.heap.objs.size) rfl
  rwa [F8] at this
 have e3:(s.heap.push bu).Ns s.heap.objs.size (fun _=>none):=⟨bu,#[],_,e1,rfl,(fun e j=>absurd j (by simp)),fun _=>rfl⟩;have z:=I.laid (a:=s.heap.objs.size) (o:=.own (s.heap.objs.size + 1)) (h':=s.heap.push bu) (t':=s.toks) (fun b u q=>O1 _ q) (O7 _) ⟨_,e1⟩;refine z.laid (a:=s.heap.objs.size + 1) (o:=.ins C s.heap.objs.size []) (t':=s.toks) (fun b u q=>O1 _ q) (eO (F8 _ _)) ?_;have ne:s.heap.objs.size≠s.heap.objs.size + 1:=E8 (cO _);refine ⟨by rw [Qa ne,J5],cg _,ne,e2,fun _=>none,(Heap.Ns1.of_empty e3).at fun o q=>O1 _ q,fun _=>True.intro,fun y B=>absurd rfl B⟩
theorem Qhk {prog:aP} {w:aO} {env:Env} {e:aD} {f:Str} {pos:Pos} {s:aC} {Q:aB->aC->Prop} (q:ak e f env (aL e env)=aL e env)
  (h:aI (aJ prog w) A (aL e env) (fun o j=>aI (aJ prog w) A (getAttr o f true) Q E j) E s):aI (aJ prog w) A (aL (.Attribute e f pos) env) Q E s:=
 Attribute_any_ h (by rw [arm_eval_Attribute,q])
end
def J21 (K:bU) (ta:TE) (f:Str):TE:=fun σ H Q=>ta σ H fun x H1=>∃ a C dx fs v,x=.ref a/\H1 a=some (.ins C dx fs)/\Cls K C/\NoAttr K C f/\fs.lookup f=some v/\Q v H1
def J23 (K:bU) (ta tv:TE) (f:Str):TS:=fun D σ H=>tv σ H fun y H1=>ta σ H1 fun x H2=>∃ a C dx fs,x=.ref a/\H2 a=some (.ins C dx fs)/\Cls K C/\NoAttr K C f/\fs.length < 1000 /\
 D.nx σ (upd H2 a (.ins C dx (Q03 f y fs)))
section
variable {X:Cx} {o e value:aD} {f:Str} {pos pos' tpos:Pos} {ta tv:TE}
theorem Qvx (G:PE X e ta) (j:ak e f X.env (aL e X.env)=aL e X.env):PE X (.Attribute e f pos) (J21 X.K ta f):=by
 intro pins s σ H Q I h;refine Qhk j (thn (G pins s σ H _ I h) fun u s1 ⟨x,H1,O,J,a,C,dx,fs,v,ex,U,c,n,l,q⟩=>?_)
 subst ex;obtain rfl:u=bW a:=J;exact Qg0 O U c n l fun Y s2 B z=>⟨v,H1,B,z,q⟩
theorem Qvm (B:PE X o ta) (G:PE X value tv) (hs:swapsWith value (some (.Attribute o f pos')) pos.line X.env=pure false):PS X (.Assign [.Attribute o f pos'] value pos) (J23 X.K ta tv f):=by
 intro pins s σ H D I h;refine plainObj_wpAny_Assign_Attribute (thn (G pins s σ H _ I h) fun u s1 ⟨y,H1,U,Y,q⟩=>thn (B pins s1 σ H1 _ U q) fun j s2 ⟨x,H2,z,O,a,C,dx,fs,ex,Z,c,n,l,q2⟩=>?_) hs
 subst ex;obtain rfl:j=bW a:=O;exact Qez z Z c n l Y fun s3 J=>⟨σ,_,J,q2⟩
end
section
variable {X:Cx} {pins:List (aA × Obj)} {σ:St} {H:Hp} {s:aC} {A:aR} {E:aB->aC->Prop} {Q:aB->aC->Prop} {c:aB} {b:Bool}
inductive TyOf (K:bU) (H:Hp):V->aB->Prop where
 | non:TyOf K H .non (.type "NoneType")
 | bl (x:Bool):TyOf K H (.bl x) (.type "bool")
 | int (i:Int):TyOf K H (.int i) (.type "int")
 | str (x:Str):TyOf K H (.str x) (.type "str")
 | flt (x:UInt64):TyOf K H (.flt x) (.type "float")
 | lst {a:aA} {xs:List V} (e:H a=some (.lst xs)):TyOf K H (.ref a) (.type "list")
 | frz {a:aA} {o:Obj} {xs:List V} (e:H a=some (.frz o (.lst xs))):TyOf K H (.ref a) (.type "list")
 | tup {a:aA} {xs:List V} (e:H a=some (.tup xs)):TyOf K H (.ref a) (.type "tuple")
 | dK {a:aA} {kvs:List (Key × V)} (e:H a=some (.dK kvs)):TyOf K H (.ref a) (.type "dict")
 | dT {a:aA} {kvs:List (List Key × V)} (e:H a=some (.dT kvs)):TyOf K H (.ref a) (.type "dict")
 | ins {a C dx:aA} {fs:List (Str × V)} (e:H a=some (.ins C dx fs)) (cl:Cls K C) (ha:bZ K (.ref C) "__class__" = some (some (.builtin "object.__class__")))
   (hn:eP K (.builtin "object.__class__") "__get__" = some (some (.builtin "getset_descriptor.__get__"))) (htk:fb K (.builtin "object.__class__")=some true)
   (hm:eQ K C (.type "object")=some true):TyOf K H (.ref a) (.ref C)
theorem Qj3 {x:V} {u t:aB} (I:Inv X pins σ H s) (j:RelV x u) (ty:TyOf X.K H x t) (e:eT X.K t c=some b) (h:∀ tk,Q (.bool b) { s with toks:=tk }) :
  aI (aJ X.prog X.w) A (call (.builtin "isinstance") [u,c]) Q E s:=by
 cases ty with
 | non=>cases (show u=bb from j); exact bq PySem.W.kitx_none I.kIn True.intro e (fun z=>nomatch z) h
 | bl y=>cases (show u=cC y from j); exact bq PySem.W.kitx_bool I.kIn True.intro e (fun z=>nomatch z) h
 | int i=>obtain ⟨t,q⟩:=(show ∃ t,u=cc i t from j); cases q; exact bq PySem.W.kitx_int I.kIn True.intro e (fun z=>nomatch z) h
 | str y=>obtain ⟨t,q⟩:=(show ∃ t,u=dA y t from j); cases q; exact bq PySem.W.kitx_str I.kIn True.intro e (fun z=>nomatch z) h
 | flt y=>obtain ⟨t,q⟩:=(show ∃ t,u=eC y t from j); cases q; exact bq PySem.W.kitx_float I.kIn True.intro e (fun z=>nomatch z) h
 | @lst a xs B=>
  cases (show u=bW a from j);obtain ⟨_,_,n,_,h1⟩:=(show ObjOk X.prog X.w H s.heap a (.lst xs) from I.hok a _ B);exact bq fe I.kIn ⟨_,h1,rfl⟩ e (fun z=>nomatch z) h
 | @frz a ob xs B=>
  cases (show u=bW a from j);obtain ⟨_,_,_,n,_,h1⟩:=(show ObjOk X.prog X.w H s.heap a (.frz ob (.lst xs)) from I.hok a _ B);exact bq fe I.kIn ⟨_,h1,rfl⟩ e (fun z=>nomatch z) h
 | @tup a xs B=>
  cases (show u=bW a from j);obtain ⟨_,_,_,p⟩:=(show ObjOk X.prog X.w H s.heap a (.tup xs) from I.hok a _ B);obtain ⟨o,h1,h2,_⟩:=p;exact bq PySem.W.kitx_tuple I.kIn ⟨o,h1,h2⟩ e (fun z=>nomatch z) h
 | @dK a kvs B=>
  cases (show u=bW a from j);obtain ⟨_,_,vs,_,p⟩:=(show ObjOk X.prog X.w H s.heap a (.dK kvs) from I.hok a _ B);obtain ⟨o,es,U,h1,h2,_⟩:=p;exact bq fh I.kIn ⟨o,h1,h2.1⟩ e (fun z=>nomatch z) h
 | @dT a kvs B=>
  cases (show u=bW a from j);obtain ⟨_,_,xs,_,o,es,U,h1,h2,_⟩:=(show ObjOk X.prog X.w H s.heap a (.dT kvs) from I.hok a _ B);exact bq fh I.kIn ⟨o,h1,h2.1⟩ e (fun z=>nomatch z) h
 | @ins a C dx fs B cl Y hn G Z=>
  cases (show u=bW a from j);obtain ⟨mA,O,_⟩:=Q6j I.hok B;obtain ⟨od,J,_⟩:=O.look;exact bq (PySem.W.kitx_own (cl.get _) cl.hd Y hn G Z) I.kIn J e (fun z=>nomatch z) h
end
structure Room (k:Nat) (A:aR):Prop where
 hd:A.handled=none
 dp:A.depth + 3 * k + 5 < recursionLimit
 un:A.units + 16 * k + 200 < ae
theorem Room.mono {j k:Nat} {A:aR} (r:Room k A) (h:j<=k):Room j A:=⟨r.hd,by have:=r.dp; omega,by have:=r.un; omega⟩
theorem Room.deeper {k:Nat} {A:aR} (r:Room (k + 1) A) (env:Env):Room k (A.deeper env):=
 ⟨r.hd,by have:=r.dp; show A.depth + 1 + 3 * k + 5 < _; omega,by have:=r.un; show A.units + 3 + 16 * k + 200 < _; omega⟩
theorem Qfs {A:aR} {C:aA} {us:List aB} {j:List (Str × aB)}:(A.under (.builtin "type.__call__" ⟨.ref C :: us,j⟩)).depth=A.depth + 1:=by
 first | rfl | simp [Around.under,Code.weight,Code.isCreation,Code.isGuard,Code.isCaller,Code.frames,Code.isFrame,guardIds]
theorem Qfr {A:aR} {C:aA} {us:List aB} {j:List (Str × aB)}:(A.under (.builtin "type.__call__" ⟨.ref C :: us,j⟩)).units=A.units + 1:=by
 first | rfl | simp [Around.under,Code.cUnits,Code.frames,Code.isFrame]
theorem Room.make {k:Nat} {A:aR} (r:Room (k + 1) A) (C:aA) (us:List aB) (j:List (Str × aB)):Room k (A.under (.builtin "type.__call__" ⟨.ref C :: us,j⟩)):=
 ⟨r.hd,by have:=r.dp; rw [Qfs]; omega,by have:=r.un; rw [Qfr]; omega⟩
theorem Room.depth {k:Nat} {A:aR} (r:Room k A):A.depth < recursionLimit:=by have:=r.dp; omega
theorem Room.units {k:Nat} {A:aR} (r:Room k A):A.units + 64 < ae:=by have:=r.un; omega
def Qye:TA:=fun _ H Q=>Q [] H
def Qyk (ta:TE) (tr:TA):TA:=fun σ H Q=>ta σ H fun x H1=>tr σ H1 fun xs H2=>Q (x :: xs) H2
section
variable {X:Cx} {e:aD} {es:List aD} {te:TE} {t:TA} {pos:Pos}
theorem Q7k:PA X [] Qye:=fun _ _ _ _ H Q I h=>Calls.spliced_nil ⟨[],H,I,.nil,h⟩
theorem Q04 (B:PE X e te) (j:PA X es t) (hs:aM (e :: es) X.env=(false,aL e X.env) :: aM es X.env:=by rfl):PA X (e :: es) (Qyk te t):=by
 intro pos pins s σ H Q I h;rw [hs];show aI _ _ (spliced ((false,aL e X.env) :: aU pos (aM es X.env))) _ _ s;refine Calls.spliced_cons (thn (B pins s σ H _ I h) fun u s1 ⟨x,H1,G,J,q1⟩=>?_)
 exact thn (j pos pins s1 σ H1 _ G q1) fun us s2 ⟨xs,H2,q,z,q2⟩=>⟨x :: xs,H2,q,.cons J z,q2⟩
def J1u (t:TA):TE:=fun σ H Q=>t σ H fun xs H1=>xs.length<=sizeLine/\∀ p,H1 p=none->Q (.ref p) (upd H1 p (.tup xs))
def J1y (t:TA):TE:=fun σ H Q=>t σ H fun xs H1=>xs.length<=sizeLine/\∀ p,H1 p=none->Q (.ref p) (upd H1 p (.lst xs))
theorem Qvt {x1} (h:PA X es t):PE X (.Tuple es x1 pos) (J1u t):=by
 intro pins s σ H Q I G;refine wpAny_Tuple_spliced (thn (h pos pins s σ H _ I G) fun us s1 ⟨xs,H1,j,r,z,q⟩=>⟨by rw [<- r.length]; exact z,?_⟩)
 have B:H1 s1.heap.objs.size=none:=j.hok.fresh (O7 _);refine ⟨.ref s1.heap.objs.size,upd H1 s1.heap.objs.size (.tup xs),j.laid (t':=s1.toks) (fun b u e=>O1 _ e) (O7 _) ?_,rfl,q _ B⟩;exact ⟨z,us,r,⟨_,D7 _ rfl,rfl,_,rfl⟩⟩
theorem Qmp (h:PA X es t):PE X (.List es pos) (J1y t):=by
 intro pins s σ H Q I G;refine wpAny_List_spliced (thn (h pos pins s σ H _ I G) fun us s1 ⟨xs,H1,j,r,z,q⟩=>⟨by rw [<- r.length]; exact z,?_⟩)
 have B:H1 s1.heap.objs.size=none:=j.hok.fresh (O7 _);refine ⟨.ref s1.heap.objs.size,upd H1 s1.heap.objs.size (.lst xs),j.laid (t':=s1.toks) (fun b u e=>O1 _ e) (O7 _) ?_,rfl,q _ B⟩;exact ⟨z,us,0,r,D7 _ rfl⟩
end
abbrev Sp:=List V->Hp->VK->XK->Prop
abbrev CXT:=List Env->Hp->aC->XK->aB->aC->Prop
structure Env0 (P:aP) (w:aO) (K:bU) (mg:Str->Option aB) (base:Heap) (A:aR) (outer:List Env) (s:aC) (H:Hp):Prop where
 frames:A.frames=some outer
 mod:Mod K mg base
 bs:∀ b o,base.get? b=some o->s.heap.get? b=some o/\H b=none
 bsz:base.objs.size<=s.heap.objs.size
 funs:s.heap.FunFrames base outer
 frf:∀ b∈frs outer,H b=none
 hok:HOk P w H s.heap
 bare:AllBare s.gens
def CE (outer:List Env) (P:aP) (w:aO) (H:Hp) (s:aC) (Q:VK) (u:aB) (s':aC):Prop:=
 ∃ v H',s'.os=s.os/\AllBare s'.gens/\Un (frs outer) [] H H' s.heap s'.heap/\HOk P w H' s'.heap/\RelV v u/\Q v H'
def CR (CX:CXT) (outer:List Env) (P:aP) (w:aO) (H:Hp) (s:aC) (Q:VK) (E:XK) (r:Result) (s':aC):Prop:=
 match r with
 | .ok (.ret u)=>CE outer P w H s Q u s'
 | .ok _=>False
 | .error e=>CX outer H s E e s'
structure FnOk (P:aP) (w:aO) (K:bU) (mg:Str->Option aB) (base:Heap) (CX:CXT) (k:Nat) (f:aA) (fd:aN) (ps:List Str) (sp:Sp):Prop where
 len:∀ vs H Q E,sp vs H Q E->vs.length=ps.length
 run:∀ (A:aR) (outer:List Env) (s:aC) (H:Hp) (args:Args) (us:List aB) (vs:List V) (Q:VK) (E:XK),Room k A->Env0 P w K mg base A outer s H->BindsTo s fd args (ps.zip us)->Vals vs us->sp vs H Q E ->
  codeAny (aJ P w) A (.call (.ref f) args) (CR CX outer P w H s Q E) s
theorem FnOk.imp {P:aP} {w:aO} {K:bU} {mg:Str->Option aB} {base:Heap} {CX:CXT} {k:Nat} {f:aA} {fd:aN} {ps:List Str} {sp j:Sp} (F:FnOk P w K mg base CX k f fd ps sp)
  (h:∀ vs H Q E,j vs H Q E->sp vs H Q E):FnOk P w K mg base CX k f fd ps j:=
 ⟨fun vs H Q E q=>F.len vs H Q E (h _ _ _ _ q),fun A outer s H args us vs Q E z I B G hs=>F.run A outer s H args us vs Q E z I B G (h _ _ _ _ hs)⟩
theorem Env0.make {P:aP} {w:aO} {K:bU} {mg:Str->Option aB} {base:Heap} {A:aR} {outer:List Env} {s:aC} {H:Hp} (e:Env0 P w K mg base A outer s H) (C:aA) (us:List aB) (j:List (Str × aB)) :
  Env0 P w K mg base (A.under (.builtin "type.__call__" ⟨.ref C :: us,j⟩)) outer s H:=⟨by first | exact e.frames | (simpa [Around.under,Code.envs,Code.isFrame,pushEnvs] using e.frames),e.mod,e.bs,e.bsz,e.funs,e.frf,e.hok,e.bare⟩
section
variable {X:Cx} {pins:List (aA × Obj)} {σ:St} {H:Hp} {s s':aC}
theorem Inv.env0 (I:Inv X pins σ H s):Env0 X.prog X.w X.K X.mg X.base X.A X.stack s H:=
 ⟨I.ok.frames,I.ok.mod,I.bs,F1 I.ok.bsz I.sz,I.stack,I.stkFree,I.hok,I.bare⟩
theorem Inv.after {Q:VK} {u:aB} (I:Inv X pins σ H s) (h:CE X.stack X.prog X.w H s Q u s'):EP X pins σ Q u s':=by
 obtain ⟨v,H',os,bare,un,hok,r,q⟩:=h;obtain ⟨B,g,d,t,j⟩:=s';obtain rfl:j=s.os:=os;exact ⟨v,H',I.call (h':=B) (g':=g) (d':=d) (t':=t) (ch:=[]) un hok bare (fun b z=>absurd z (by simp)),r,q⟩
end
def Qym (sp:Sp) (dvs:List V) (E:XK) (t:TA):TE:=fun σ H Q=>t σ H fun vs H1=>sp (vs ++ dvs) H1 Q E
def Qtz (C:aA) (m:Str) (sp:Sp) (dvs:List V) (E:XK) (ta:TE) (t:TA):TE:=fun σ H Q=>ta σ H fun x H1=>∃ a dx fs,x=.ref a/\H1 a=some (.ins C dx fs)/\fs.lookup m=none /\
 t σ H1 fun vs H2=>sp (x :: (vs ++ dvs)) H2 Q E
def Qyg (C:aA) (sp:Sp) (dvs:List V) (E:XK) (t:TA):TE:=fun σ H Q=>t σ H fun vs H1=>∀ x dx,H1 x=none->H1 dx=none->dx≠x ->
 sp (.ref x :: (vs ++ dvs)) (upd (upd H1 dx (.own x)) x (.ins C dx [])) (fun v H2=>v=.non/\Q (.ref x) H2) E
def Binds (K:bU) (fd:aN) (ps:List Str) (ds:List aB):Prop:=
 ∀ (s:aC) (us:List aB),K.In s.heap->(us ++ ds).length=ps.length->BindsTo s fd ⟨us,[]⟩ (ps.zip (us ++ ds))
theorem Binds.all {K:bU} {fd:aN} {ps:List Str} (h:∀ us:List aB,us.length=ps.length->bindArgs fd ⟨us,[]⟩=pure (ps.zip us)):Binds K fd ps []:=fun s us _ j=>by
 rw [L6] at j ⊢;exact .of_eq (h us j)
def Kx (CX:CXT) (X:Cx) (E:XK):Prop:=∀ (pins:List (aA × Obj)) (σ:St) (H:Hp) (s:aC) (e:aB) (s':aC),Inv X pins σ H s->CX X.stack H s E e s'->X.xe e s'
section
variable {X:Cx} {CX:CXT} {k:Nat} {f C:aA} {fd:aN} {ps:List Str} {sp:Sp} {dvs:List V} {ds:List aB} {E:XK} {x m:Str} {p pos apos:Pos} {e o:aD} {es:List aD} {ta:TE} {t:TA}
theorem Qf5 {pins:List (aA × Obj)} {σ:St} {H:Hp} {s:aC} {Q:VK} {us:List aB} {vs:List V} (F:FnOk X.prog X.w X.K X.mg X.base CX k f fd ps sp) (z:Room k X.A) (B:Binds X.K fd ps ds) (hd:Vals dvs ds) (G:Kx CX X E)
  (I:Inv X pins σ H s) (r:Vals vs us) (h:sp (vs ++ dvs) H Q E):aI (aJ X.prog X.w) X.A (call (.ref f) us) (EP X pins σ Q) X.xe s:=by
 have q:Vals (vs ++ dvs) (us ++ ds):=r.append hd;have J:(us ++ ds).length=ps.length:=by rw [<- q.length]; exact F.len _ _ _ _ h
 refine wpAny_call (bH (F.run X.A X.stack s H ⟨us,[]⟩ (us ++ ds) (vs ++ dvs) Q E z I.env0 (B s us I.kIn J) q h) fun r s' j=>?_)
 cases r with
 | error e=>exact G pins σ H s e s' I j
 | ok fl=>
  cases fl with
  | ret u=>exact I.after j
  | next=>exact False.elim j
  | brk=>exact False.elim j
  | cont=>exact False.elim j
theorem Qrz (F:FnOk X.prog X.w X.K X.mg X.base CX k f fd ps sp) (J:Room k X.A) (O:Gl X x) (hm:X.mg x=some (.ref f)) (G:bi X.K (.ref f)=true) (U:Binds X.K fd ps ds) (hd:Vals dvs ds) (Y:Kx CX X E)
  (Z:PA X (e :: es) t) (j:(x == ("__debug__" : Str))=false:=by decide) (he:aM (e :: es) X.env=(false,aL e X.env) :: aM es X.env:=by rfl) (z:(aU pos (aM es X.env)).any (·.1)=false:=by rfl) :
  PE X (.Call (.Name x p) (e :: es) [] pos) (Qym sp dvs E t):=by
 intro pins s σ H Q I h;refine wpAny_Call_Name_kw (qw I O hm ?_ j);refine dD (h₀:=X.base) I.ok.mod.kin G (thn (Z pos pins s σ H _ I h) fun us s1 ⟨vs,H1,B,r,q⟩=>⟨B.kIn,?_⟩) he z
 exact Qf5 F J U hd Y B r q
theorem Qrv {pl:Sem Bool} (he:PE X o ta) (c:Cls X.K C) (G:Meth X.K C m f) (F:FnOk X.prog X.w X.K X.mg X.base CX k f fd ps sp) (O:Room k X.A) (U:Binds X.K fd ps ds) (hd:Vals dvs ds) (Y:Kx CX X E) (ha:PA X (e :: es) t)
  (z:aM (e :: es) X.env=(false,aL e X.env) :: aM es X.env:=by rfl) (j:(aU pos (aM es X.env)).any (·.1)=false:=by rfl)
  (Z:aL (.Call (.Attribute o m apos) (e :: es) [] pos) X.env=(do
   let ov <- aL o X.env
   standAt apos.atName
   let (f,first) <- aj [ov] (getMethod ov m pl)
   callWith pos f first (aU pos (aM (e :: es) X.env)) (backToKw pos (keywordEach [] X.env))):=by rfl) :
  PE X (.Call (.Attribute o m apos) (e :: es) [] pos) (Qtz C m sp dvs E ta t):=by
 intro pins s σ H Q I h;refine fj (pl:=pl) (thn (he pins s σ H _ I h) fun u s1 ⟨x,H1,J,rx,a,dx,fs,ex,ea,l,q⟩=>?_) Z
 subst ex;obtain rfl:u=bW a:=rx;refine Q8n J ea c G l ?_;refine dD (first:=[.ref a]) (h₀:=X.base) I.ok.mod.kin G.kp (thn (ha pos pins s1 σ H1 _ J q) fun us s2 ⟨vs,H2,B,r,q2⟩=>⟨B.kIn,?_⟩) z j
 exact Qf5 (us:=.ref a :: us) (vs:=.ref a :: vs) F O U hd Y B (.cons rfl r) q2
theorem Qmn {pl:Sem Bool} (U:PE X o ta) (c:Cls X.K C) (z:Meth X.K C m f) (F:FnOk X.prog X.w X.K X.mg X.base CX k f fd ps sp) (B:Room k X.A) (G:Binds X.K fd ps ds) (hd:Vals dvs ds) (J:Kx CX X E)
  (O:aL (.Call (.Attribute o m apos) [] [] pos) X.env=(do
   let ov <- aL o X.env
   standAt apos.atName
   let (f,first) <- aj [ov] (getMethod ov m pl)
   callWith pos f first (aU pos (aM [] X.env)) (backToKw pos (keywordEach [] X.env))):=by rfl) :
  PE X (.Call (.Attribute o m apos) [] [] pos) (Qtz C m sp dvs E ta Qye):=by
 intro pins s σ H Q I h;refine fj (pl:=pl) (thn (U pins s σ H _ I h) fun u s1 ⟨x,H1,j,Y,a,dx,fs,ex,Z,l,q⟩=>?_) O
 subst ex;obtain rfl:u=bW a:=Y;refine Q8n j Z c z l ?_;exact PySem.W.callWith_K0 (first:=[.ref a]) j.kIn z.kp (Qf5 (us:=[.ref a]) (vs:=[.ref a]) F B G hd J j (.cons rfl .nil) q)
structure Mk (K:bU) (C f:aA):Prop where
 makes:eN K C=true
 init:bZ K (.ref C) "__init__" = some (some (.ref f))
 fn:dC K (.ref f)=true
 kp:bi K (.ref C)=true
theorem Qm2 {pins:List (aA × Obj)} {σ:St} {H:Hp} {s:aC} {Q:VK} {us:List aB} {vs:List V} (M:Mk X.K C f) (F:FnOk X.prog X.w X.K X.mg X.base CX k f fd ps sp) (G:Room (k + 1) X.A) (J:Binds X.K fd ps ds) (hd:Vals dvs ds)
  (O:Kx CX X E) (I:Inv X pins σ H s) (r:Vals vs us)
  (h:∀ x dx,H x=none->H dx=none->dx≠x->sp (.ref x :: (vs ++ dvs)) (upd (upd H dx (.own x)) x (.ins C dx [])) (fun v H2=>v=.non/\Q (.ref x) H2) E) :
  aI (aJ X.prog X.w) X.A (call (.ref C) us) (EP X pins σ Q) X.xe s:=by
 have B:=h (s.heap.objs.size + 1) s.heap.objs.size (I.hok.fresh (cP _)) (I.hok.fresh (O7 _)) (E8 (cO _));have q:=Inv.made (C:=C) I;have z:Vals (V.ref (s.heap.objs.size + 1) :: (vs ++ dvs)) (bW (s.heap.objs.size + 1) :: (us ++ ds)):=.cons rfl (r.append hd);have Y:(bW (s.heap.objs.size + 1) :: us ++ ds).length=ps.length:=by
  have e:=z.length;rw [F.len _ _ _ _ B] at e;exact e.symm
 refine wpAny_call (Qnc (f:=f) I.kIn M.makes M.init (beq_iff_eq.mp M.fn) (bH (F.run _ X.stack _ _ ⟨bW (s.heap.objs.size + 1) :: us,[]⟩ (bW (s.heap.objs.size + 1) :: (us ++ ds)) _ _ E (G.make C us [])
  (q.env0.make C us []) (J _ (bW (s.heap.objs.size + 1) :: us) q.kIn Y) z B) fun r s' j=>?_))
 cases r with
 | error e=>exact O pins σ _ _ e s' q j
 | ok fl=>
  cases fl with
  | ret u=>
   obtain ⟨v,H',U,Z,ev,q3⟩:=q.after j;subst ev;exact ⟨Z,⟨V.ref (s.heap.objs.size + 1),H',U,rfl,q3⟩⟩
  | next=>exact False.elim j
  | brk=>exact False.elim j
  | cont=>exact False.elim j
theorem Qrw (M:Mk X.K C f) (F:FnOk X.prog X.w X.K X.mg X.base CX k f fd ps sp) (G:Room (k + 1) X.A) (J:Gl X x) (hm:X.mg x=some (.ref C)) (O:Binds X.K fd ps ds) (hd:Vals dvs ds) (U:Kx CX X E)
  (Y:PA X (e :: es) t) (j:(x == ("__debug__" : Str))=false:=by decide) (Z:aM (e :: es) X.env=(false,aL e X.env) :: aM es X.env:=by rfl) (z:(aU pos (aM es X.env)).any (·.1)=false:=by rfl) :
  PE X (.Call (.Name x p) (e :: es) [] pos) (Qyg C sp dvs E t):=by
 intro pins s σ H Q I h;refine wpAny_Call_Name_kw (qw I J hm ?_ j);refine dD (h₀:=X.base) I.ok.mod.kin M.kp (thn (Y pos pins s σ H _ I h) fun us s1 ⟨vs,H1,B,r,q⟩=>⟨B.kIn,?_⟩) Z z
 exact Qm2 M F G O hd U B r q
end
def PK (X:Cx) (kws:List Keyword) (t:TA):Prop:=
 ∀ (pos:Pos) (pins:List (aA × Obj)) (s:aC) (σ:St) (H:Hp) (Q:List V->Hp->Prop),Inv X pins σ H s->t σ H Q->aI (aJ X.prog X.w) X.A (evalAll ((backToKw pos (keywordEach kws X.env)).map (·.2))) (AP X pins σ Q) X.xe s
structure FnScope (N P:List Str) (sc:Scope):Prop where
 kind:sc.kind=.function
 co:sc.isCoroutine=false
 gen:sc.isGenerator=false
 nd:N.Nodup
 pre:N.take P.length=P
 par:∀ x∈P,sc.names.lookup x=some .local\/sc.names.lookup x=some .cell
 nofree:∀ y∈sc.names,y.2≠.free
theorem Qaw {kindOf:Str->Option ao} {x:Str}:∀ {binds:List (Str × aB)} {m:Str->Option aB},(∀ v,(x,v)∉binds)->bindL kindOf binds m x=m x
 | [],_,_=>rfl
 | (n,v) :: r,m,h=>by
  unfold bindL;rw [Qaw fun w j=>h w (D1 _ j)]
  split
  ·have:x≠n:=by rintro rfl; exact h v D6
   simp [this]
  ·rfl
theorem Qay {kindOf:Str->Option ao} {x:Str}:∀ {binds:List (Str × aB)} {m:Str->Option aB},(∀ v,(x,v)∉binds)->bindC kindOf binds m x=m x
 | [],_,_=>rfl
 | (n,v) :: r,m,h=>by
  unfold bindC;rw [Qay fun w j=>h w (D1 _ j)]
  split
  ·rfl
  ·have:x≠n:=by rintro rfl; exact h v D6
   simp [this]
theorem Qax {kindOf:Str->Option ao} {x:Str} {v:aB}:∀ {P:List Str} {vs:List aB} {i:Nat} {m:Str->Option aB},P.Nodup->P[i]?=some x->vs[i]?=some v->kindOf x=some .local ->
  bindL kindOf (P.zip vs) m x=some v
 | [],_,_,_,_,h,_,_=>by simp at h
 | _ :: _,[],_,_,_,_,h,_=>by simp at h
 | p :: P,w :: vs,0,m,nd,h1,h2,j=>by
  simp at h1 h2; subst h1; subst h2;show bindL kindOf ((p,w) :: P.zip vs) m p=_;unfold bindL;rw [Qaw fun v q=>(dY.mp nd).1 (cQ q).1,bO j]
  simp
 | p :: P,w :: vs,i + 1,m,nd,h1,h2,j=>by
  show bindL kindOf ((p,w) :: P.zip vs) m x=_;unfold bindL;exact Qax (i:=i) (dY.mp nd).2 (by simpa using h1) (by simpa using h2) j
theorem Qaz {kindOf:Str->Option ao} {x:Str} {v:aB}:∀ {P:List Str} {vs:List aB} {i:Nat} {m:Str->Option aB},P.Nodup->P[i]?=some x->vs[i]?=some v->kindOf x≠some .local ->
  bindC kindOf (P.zip vs) m x=some v
 | [],_,_,_,_,h,_,_=>by simp at h
 | _ :: _,[],_,_,_,_,h,_=>by simp at h
 | p :: P,w :: vs,0,m,nd,h1,h2,j=>by
  simp at h1 h2; subst h1; subst h2;show bindC kindOf ((p,w) :: P.zip vs) m p=_;unfold bindC;rw [Qay fun v q=>(dY.mp nd).1 (cQ q).1,bP j]
  simp
 | p :: P,w :: vs,i + 1,m,nd,h1,h2,j=>by
  show bindC kindOf ((p,w) :: P.zip vs) m x=_;unfold bindC;exact Qaz (i:=i) (dY.mp nd).2 (by simpa using h1) (by simpa using h2) j
def start (N:List Str) (vs:List V):St:=vs.map some ++ bV (N.length - vs.length) none
def Qg6 (CX:CXT) (P:aP) (w:aO) (K:bU) (mg:Str->Option aB) (base:Heap) (N:List Str) (qual:Str) (scope:Scope) (f:aA) (cd:aB) (A:aR) (outer:List Env) (s:aC) (H:Hp) (E:XK):Cx where
 prog:=P
 w:=w
 K:=K
 mg:=mg
 base:=base
 A:=A.deeper (envOfC qual scope s.heap.objs.size f cd)
 N:=N
 s₀:=s
 H₀:=H
 env:=envOfC qual scope s.heap.objs.size f cd
 outer:=outer
 stack:=envOfC qual scope s.heap.objs.size f cd :: outer
 ex:=[]
 calm:=true
 fn:=fun _=>true
 pn:=[]
 xe:=fun e s'=>aI (aJ P w) (A.deeper (envOfC qual scope s.heap.objs.size f cd)) (leaving (envOfC qual scope s.heap.objs.size f cd) e) (fun _ s''=>CX outer H s E e s'') (fun e' s''=>CX outer H s E e' s'') s'
theorem Qeb {sc:Scope} {n:Nat} {x:Str} (h:sc.names.lookup x=some .cell):∃ c,(ag n sc.names []).lookup x=some c:=by
 have q:=eU sc.names n [] (.inl h);exact fk.mp q
theorem Qj6 {CX:CXT} {P:aP} {w:aO} {K:bU} {mg:Str->Option aB} {base:Heap} {N ps:List Str} {qual:Str} {scope:Scope} {f:aA} {cd:aB} {A:aR} {outer:List Env} {s s1:aC} {H:Hp} {E:XK} {us:List aB} {vs:List V}
  (S:FnScope N ps scope) (hd:A.handled=none) (j:Env0 P w K mg base A outer s H) (hl:vs.length=ps.length) (r:Vals vs us)
  (x:InCallC s s.heap.objs.size (bindL (envOfC qual scope s.heap.objs.size f cd).kindOf (ps.zip us) fun _=>none) (ag (s.heap.objs.size + 1) scope.names []) (bindC (envOfC qual scope s.heap.objs.size f cd).kindOf (ps.zip us) fun _=>none) s1) :
  Inv (Qg6 CX P w K mg base N qual scope f cd A outer s H E) [] (start N vs) H s1:=by
 have Y:ps.length<=N.length:=by have:=congrArg dZ S.pre; rw [cF] at this; omega
 obtain ⟨h1,tk,rfl,J⟩:=x.done;have G:∀ b:aA,b∉(Qg6 CX P w K mg base N qual scope f cd A outer s H E).ex:=fun b z=>absurd (show b∈([]:List aA) from z) (by simp)
 refine ⟨⟨j.mod,S.kind,rfl,rfl,O7 _,fun y z c h1 h2=>?_,fun y B=>?_,fun y c _ h=>?_,fun _=>hd,Around.frames_deeper j.frames,.inr ⟨rfl,rfl⟩,fun b z=>absurd z (G b),j.bs,j.bsz,fun b _ _=>G b,fun b z=>absurd z (G b),j.funs,j.frf⟩,
  rfl,j.bare,Un.kept J,⟨_,x.toInCall.ns,fun i y v h1 h2 h3=>?_⟩,fun y c h=>⟨_,x.cell y c h⟩,j.hok.fresh (O7 _),fun y c h=>?_,fun p hp=>absurd (show p∈([]:List (aA × Obj)) from hp) (by simp),j.hok.kept J,?_⟩
 ·exact name_of_addr x.apart (bw h1) (bw h2)
 ·have B:scope.names.lookup y=some .cell\/scope.names.lookup y=some .free:=B;rcases B with B | B
  ·exact Qeb B
  ·exact absurd rfl (S.nofree _ (bw B))
 ·exact E9 (x.above y c (bw h))
 ·have hi:i < vs.length:=by
   unfold start at h2
   by_cases hi:i < vs.length
   ·exact hi
   ·rw [D2 (by simpa using hi)] at h2;rw [G9] at h2
    split at h2 <;> cases h2
  have Z:vs[i]?=some v:=by
   unfold start at h2;rw [O4 (by simpa using hi),E2] at h2;cases e:vs[i]? with
   | none=>rw [e] at h2; cases h2
   | some a=>rw [e] at h2; cases h2; rfl
  obtain ⟨u,O,U⟩:=r.get Z;have hp:ps[i]?=some y:=by
   rw [<- S.pre,List.getElem?_take_of_lt (by omega)]; exact h1
  have I:ps.Nodup:=by rw [<- S.pre]; exact S.nd.sublist (List.take_sublist _ _)
  refine ⟨u,U,?_⟩;rcases S.par y (D4 hp) with k | k
  ·exact .inl ⟨k,Qax I hp O k⟩
  ·obtain ⟨c,e⟩:=Qeb (n:=s.heap.objs.size + 1) k;refine .inr ⟨.inl k,c,e,?_⟩;have q:=x.cell y c e;rw [Qaz I hp O (by show scope.names.lookup y≠_; rw [k]; decide)] at q;exact q
 ·exact j.hok.fresh (E9 (x.above y c (bw h)))
 ·unfold start;show _=N.length;rw [O6,O2,da];omega
theorem Qud {CX:CXT} {P:aP} {w:aO} {K:bU} {mg:Str->Option aB} {base:Heap} {k:Nat} {f:aA} {name qual:Str} {z:Arguments} {body:List aK} {scope:Scope} {dV kV U pm j ct oc:aB} {an od:Option aA}
  {a3:Array (Option aB)} {N ps:List Str} {sp:Sp} (lk:K.lookup f=some ⟨oc,od,.func (bg name qual z body scope dV kV U pm an j ct),a3⟩) (a2:bx K j qual=true) (S:FnScope N ps scope)
  (len:∀ vs H Q E,sp vs H Q E->vs.length=ps.length)
  (G:∀ (A:aR) (outer:List Env) (s:aC) (H:Hp) (vs:List V) (Q:VK) (E:XK),Room k (A.deeper (envOfC qual scope s.heap.objs.size f j))->sp vs H Q E ->
   ∃ t,PSs (Qg6 CX P w K mg base N qual scope f j A outer s H E) body t/\t { nx:=fun _ H'=>Q .non H',rt:=Q } (start N vs) H) :
  FnOk P w K mg base CX (k + 1) f (bg name qual z body scope dV kV U pm an j ct) ps sp:=by
 refine ⟨len,fun A outer s H args us vs Q E hr Z hb r Y=>?_⟩;have hl:=len _ _ _ _ Y;have KX:K.In s.heap:=Z.mod.kin.keeps fun b o e=>(Z.bs b o e).1
 have lim:s.heap.NoLimit:=Z.mod.nolimit.keeps fun b o e=>(Z.bs b o e).1
 have O:∀ y∈ps.zip us,scope.names.lookup y.1=some .local\/(scope.names.lookup y.1=some .cell/\((ag (s.heap.objs.size + 1) scope.names []).lookup y.1).isSome=true):=fun ⟨n,v⟩ hy=>by
  rcases S.par n (cQ hy).1 with q | q
  ·exact .inl q
  ·exact .inr ⟨q,eU _ _ _ (.inl q)⟩
 refine codeAny_call_function hr.depth (KX _ _ lk) rfl S.co S.gen rfl (PySem.W.codeRec_of KX a2) (hb _ _ _ _ ?_);refine wpAny_newFunctionEnv_cells S.kind O fun env he s1 x=>?_
 subst he;refine ⟨lim.keeps x.toInCall.keep,codeAny_func ?_⟩;obtain ⟨t,ht,hq⟩:=G A outer s H vs Q E (hr.deeper _) Y;have I:Inv (Qg6 CX P w K mg base N qual scope f j A outer s H E) [] (start N vs) H s1:=Qj6 S hr.hd Z hl r x;refine af (ht [] s1 (start N vs) H _ I hq) (fun fl s' hs=>?_) fun e s' hs=>hs
 have fin:∀ {B:St} {H':Hp} {v:V} {u:aB},Inv (Qg6 CX P w K mg base N qual scope f j A outer s H E) [] B H' s'->RelV v u->Q v H'->CE outer P w H s Q u s':=
  fun {B H' v u} J rv q=>⟨v,H',J.os,J.bare,J.base,J.hok,rv,q⟩
 cases fl with
 | ret u=>
  obtain ⟨v,B,H',J,rv,q⟩:=hs;exact fin J rv q
 | next=>
  obtain ⟨B,H',J,q⟩:=hs;exact fin (v:=V.non) (u:=bb) J rfl q
 | brk=>
  obtain ⟨_,_,_,q⟩:=hs;exact False.elim q
 | cont=>
  obtain ⟨_,_,_,q⟩:=hs;exact False.elim q
section
variable {X:Cx} {x:Str} {p pos:Pos} {e:aD} {es:List aD} {t:TA} {id T:String} {r:List V->Hp->VK->Prop}
def tCB (r:List V->Hp->VK->Prop) (t:TA):TE:=fun σ H Q=>t σ H fun vs H1=>r vs H1 Q
theorem Qd4 (z:Kh X (.builtin id) r) (B:Gl X x) (O:X.mg x=none) (U:aZ x=some (.builtin id)) (G:PA X (e :: es) t) (Y:x≠"__name__" := by decide) (j:(x == ("__debug__" : Str))=false:=by decide)
  (J:aM (e :: es) X.env=(false,aL e X.env) :: aM es X.env:=by rfl) (q:(aU pos (aM es X.env)).any (·.1)=false:=by rfl):PE X (.Call (.Name x p) (e :: es) [] pos) (tCB r t):=by
 intro pins s σ H Q I h;refine wpAny_Call_Name_kw (Q1w I B O U ?_ Y j);exact hJ (thn (G pos pins s σ H _ I h) fun us s1 ⟨vs,H1,Z,r1,q1⟩=>z pins s1 σ H1 vs us Q Z r1 q1) J q
theorem Qif (z:Kh X (.type T) r) (B:Gl X x) (O:X.mg x=none) (U:aZ x=some (.type T)) (G:PA X (e :: es) t) (Y:x≠"__name__" := by decide) (j:(x == ("__debug__" : Str))=false:=by decide)
  (J:aM (e :: es) X.env=(false,aL e X.env) :: aM es X.env:=by rfl) (q:(aU pos (aM es X.env)).any (·.1)=false:=by rfl):PE X (.Call (.Name x p) (e :: es) [] pos) (tCB r t):=by
 intro pins s σ H Q I h;refine wpAny_Call_Name_kw (Q1w I B O U ?_ Y j);exact ce (thn (G pos pins s σ H _ I h) fun us s1 ⟨vs,H1,Z,r1,q1⟩=>z pins s1 σ H1 vs us Q Z r1 q1) J q
end
end L2
namespace HT
open PySem PyProof.Rows
def lexLt:List Int->List Int->Bool
 | [],[]=>false
 | [],_ :: _=>true
 | _ :: _,[]=>false
 | x :: xs,y :: ys=>if x=y then lexLt xs ys else decide (x < y)
theorem Qfy (x y:Int) (xs ys:List Int):lexLt (x :: xs) (y :: ys)=if x=y then lexLt xs ys else decide (x < y):=rfl
theorem Q9s:lexLt [] []=false:=rfl
theorem Q8c (y:Int) (ys:List Int):lexLt [] (y :: ys)=true:=rfl
theorem Q8d (x:Int) (xs:List Int):lexLt (x :: xs) []=false:=rfl
theorem Qp3 (A:aR) (s:aC) (a:Int) (t:Tok) (c:Int) (u:Tok):∃ e,SeqAt.EqAt A s (.int a t) (.int c u) e/\(e=true <-> a=c):=
 ⟨(a == c),SeqAt.EqAt.int_int a t c u,by simp⟩
theorem Qm5 (A:aR) (s:aC) (a:Int) (t:Tok) (c:Int) (u:Tok) (prog:aP) (w:aO) (E:aB->aC->Prop) (Q:aB->aC->Prop) (h:Q (.bool (decide (a < c))) s) :
  aI (aJ prog w) A (richCompare .Lt (.int a t) (.int c u)) Q E s:=
 (hU h:aI (aJ prog w) A (aV .Lt (.int a t) (.int c u)) Q E s)
section
open PySem.SeqAt
open PySem.AutoSeq1 (wpAny_loadPart')
open PySem.MeetsSeq PySem.MeetsSeq2 PySem.MeetsSeq3
theorem Q94 (l b:aA) (z j:Array aB) (n n2:Nat) (dd a5:Option aA) (sl a6:Array (Option aB)) (ns ms:List Int) (hi:IntsAre z.toList ns) (hj:IntsAre j.toList ms) :
  Meets (Builtin.«tuple.__lt__» ⟨[.ref l,.ref b],[]⟩)
   (fun _ R s=>s.heap.get? l=some { cls:=.type "tuple",dict:=dd,data:=.seq z n,slots:=sl }/\s.heap.get? b=some { cls:=.type "tuple",dict:=a5,data:=.seq j n2,slots:=a6 } /\
    R (.ok (.ret (.bool (lexLt ns ms)))) s):=
 .of_wp fun prog w A R s h=>by
  obtain ⟨hp,g,d,tk,os⟩:=s; obtain ⟨hl,hb,h⟩:=h;have f2:=AutoSeq1.sub_tuple_tuple;have z1:z.size=ns.length:=by rw [<- hi.length]; simp
  have z2:j.size=ms.length:=by rw [<- hj.length]; simp
  wp_walk using wpAny_loadPart' hl,wpAny_loadPart' hb,wpAny_forIn_list _ (fun rest b s'=>b.1=none/\s'=⟨hp,g,d,tk,os⟩/\∃ (vs ws:List aB) (I G:List Int),rest=vs.zip ws /\
   IntsAre vs I/\IntsAre ws G/\I.length + j.size=G.length + z.size/\R (.ok (.ret (.bool (lexLt I G)))) ⟨hp,g,d,tk,os⟩) _
  case turn=>
   rintro ⟨y,x⟩ rest b s' ⟨Z,rfl,vs,ws,I,G,hz,Y,J,B,U⟩;cases Y with
   | nil=>rw [List.zip_nil_left] at hz; cases hz
   | cons a t a4=>
    cases J with
    | nil=>rw [List.zip_nil_right] at hz; cases hz
    | cons c u a3=>
     rw [eV] at hz;injection hz with a8 a2
     injection a8 with hy hx
     subst hy hx;rw [Qfy] at U;simp only [D8] at B;obtain ⟨e,he,O⟩:=Qp3 A.in1 ⟨hp,g,d,tk,os⟩ a t c u;refine aF (he prog w _ _ ?_);cases e with
     | true=>
      rw [bO (O.mp rfl)] at U
      wp_walk
      exact ⟨rfl,rfl,_,_,_,_,a2,a4,a3,by omega,U⟩
     | false=>
      rw [bP (fun q=>absurd (O.mpr q) E5)] at U
      have a7:=Qm5 A.in1 ⟨hp,g,d,tk,os⟩ a t c u prog w
      wp_walk using a7
      exact ⟨_,rfl,by simpa using U⟩
  case fin=>
   rintro ⟨b1,b2⟩ s' ⟨Z,rfl,vs,ws,I,G,hz,Y,J,B,U⟩;simp only at Z;subst Z;have hv:lexLt I G=decide (z.size < j.size):=by
    cases Y with
    | nil=>
     cases J with
     | nil=>
      simp only [cG] at B;rw [Q9s];exact (bQ (by omega)).symm
     | cons c u hw=>
      simp only [cG,D8] at B;rw [Q8c];exact (bR (by omega)).symm
    | cons a t hv=>
     cases J with
     | nil=>
      simp only [cG,D8] at B;rw [Q8d];exact (bQ (by omega)).symm
     | cons c u hw=>
      rw [eV] at hz;cases hz
   rw [hv] at U
   wp_walk
   exact ⟨_,rfl,by simpa [Builtin.Tuple.tupleCompareSizes] using U⟩
  case h=>
   exact ⟨rfl,rfl,z.toList,j.toList,ns,ms,rfl,hi,hj,by omega,h⟩
end
section
variable {prog:aP} {w:aO} {A:aR} {E:aB->aC->Prop} {s:aC}
theorem lt_tupInts {l b:aA} {q j:Array aB} {ns ms:List Int} {Q:aB->aC->Prop} (U:IsTup s.heap l q) (I:IsTup s.heap b j) (hi:IntsAre q.toList ns) (O:IntsAre j.toList ms)
  (J:A.units < ae) (h:Q (.bool (lexLt ns ms)) s):aI (aJ prog w) A (aV .Lt (.ref l) (.ref b)) Q E s:=by
 obtain ⟨⟨cls,dd,data,sl⟩,ho,hc,n,hd⟩:=id U;obtain ⟨⟨G,B,data2,z⟩,ho2,hc2,n2,hd2⟩:=id I;simp only at hc hd hc2 hd2;subst hc hd hc2 hd2;exact richCompare_meets_room (op:=.Lt) ⟨_,ho,rfl⟩ ⟨_,ho2,rfl⟩ PySem.F.slot_tuple_lt PySem.F.entry_tuple_lt (PySem.F.args_tuple_lt_2 _ _) (Q94 l b q j n n2 dd B sl z ns ms hi O)
  ⟨ho,ho2,show cC (lexLt ns ms)≠fm/\Q (.bool (lexLt ns ms)) s from ⟨(fun x=>nomatch x),h⟩⟩ J
theorem cat_tup {t b:aA} {vs j:List aB} {Q:aB->aC->Prop} (U:IsTup s.heap t vs.toArray) (O:IsTup s.heap b j.toArray) (I:vs≠[])
  (h1:j=[]->Q (.ref t) s) (h2:j≠[]->Q (.ref s.heap.objs.size) { s with heap:=s.heap.push { cls:=.type "tuple",data:=.seq (vs ++ j).toArray } })
  (G:vs.length + j.length<=sizeLine):aI (aJ prog w) A (aW .Add (.ref t) (.ref b)) Q E s:=by
 obtain ⟨⟨cls,dd,data,sl⟩,ho,hc,n,hd⟩:=id U;obtain ⟨⟨J,z,data2,q⟩,ho2,hc2,n2,hd2⟩:=id O;simp only at hc hd hc2 hd2;subst hc hd hc2 hd2;have e:vs.toArray ++ j.toArray=(vs ++ j).toArray:=by simp
 by_cases B:j=[]
 ·exact concat_meets ⟨_,ho,rfl⟩ ⟨_,ho2,rfl⟩ noFill_tuple_add seq_tuple_add eX eY (eZ _ _)
   (tuple_addW1 t b vs.toArray j.toArray n n2 dd z sl q (by simpa using I) (by simp [B])) ⟨ho,ho2,h1 B⟩
 ·refine concat_meets ⟨_,ho,rfl⟩ ⟨_,ho2,rfl⟩ noFill_tuple_add seq_tuple_add eX eY (eZ _ _)
   (tuple_addW2 t b vs.toArray j.toArray n n2 dd z sl q (by simpa using I) (by simpa using B) (by rw [O3,O3]; exact G)) ⟨ho,ho2,?_⟩
  rw [e];exact h2 B
def sIx (n d:Nat):Option Int->Nat
 | none=>d
 | some v=>if v < 0 then (v + (n:Int)).toNat else min v.toNat n
theorem sIx_none (n d:Nat):sIx n d none=d:=rfl
theorem sIx_nat (n d k:Nat):sIx n d (some (k:Int))=min k n:=by
 show (if (k:Int) < 0 then ((k:Int) + (n:Int)).toNat else min (k:Int).toNat n)=min k n;rw [bP (by omega),cA]
theorem Qvc (n d:Nat) (hd:d<=n) (o:Option Int):sIx n d o<=n:=by
 cases o with
 | none=>exact hd
 | some v=>
  show (if v < 0 then (v + (n:Int)).toNat else min v.toNat n)<=n
  by_cases j:v < 0
  ·rw [bO j]; omega
  ·rw [bP j]; exact fo _ _
theorem Qhg (v:Int) (n d:Nat):(if v < 0 then max (v + (n:Int)) 0 else min v (n:Int))=((sIx n d (some v):Nat):Int):=by
 show (if v < 0 then max (v + (n:Int)) 0 else min v (n:Int))=(((if v < 0 then (v + (n:Int)).toNat else min v.toNat n):Nat):Int)
 by_cases j:v < 0
 ·simp only [bO j]; omega
 ·simp only [bP j]; omega
theorem Qge (lo hi:Option Int) (n:Nat):Builtin.Slice.sliceAdjust lo hi 1 (n:Int)=(((sIx n 0 lo:Nat):Int),((sIx n n hi:Nat):Int)):=by
 have h1:¬ ((1:Int) < 0):=by omega
 unfold Builtin.Slice.sliceAdjust;simp only [h1,if_false];refine Prod.ext ?_ ?_
 ·cases lo with
  | none=>rfl
  | some v=>exact Qhg v n 0
 ·cases hi with
  | none=>rfl
  | some v=>exact Qhg v n n
theorem Qfa (i j:Nat):Builtin.Slice.slicePlaces (i:Int) (j:Int) 1=j - i:=by
 unfold Builtin.Slice.slicePlaces;have h1:(1:Int) > 0:=by omega
 simp only [h1,if_true,Int.ediv_one]
 split <;> omega
theorem Q74 {v:aB} {o:Option Int} {Q:Option Int->aC->Prop} (p:IsPart v o) (h:Q o s):aI (aJ prog w) A (Builtin.Slice.slicePartIndex v) Q E s:=by
 cases p with
 | none=>exact slicePart_none h
 | int i t=>exact slicePart_int h
theorem yf {sl:aA} {z B:aB} {lo hi:Option Int} {n:Nat} {Q:Int × Int × Nat->aC->Prop} (hs:s.heap.IsSliceOf sl z B .none) (pl:IsPart z lo) (I:IsPart B hi)
  (h:Q (((sIx n 0 lo:Nat):Int),1,sIx n n hi - sIx n 0 lo) s):aI (aJ prog w) A (Builtin.Slice.sliceApplied (.ref sl) (pure (n:Int))) Q E s:=by
 obtain ⟨os,j,G,q⟩:=id hs;unfold Builtin.Slice.sliceApplied Builtin.Slice.sliceFields;refine aF (aF (aX j q (x:=z) rfl (aF (aX j q (x:=B) rfl (aF (aX j q (x:=.none) rfl (aQ ?_)))))));refine aF (slicePart_none ?_);show aI _ _ (if ((1:Int) == 0)=true then _ else _) _ _ s;rw [bP (by decide)];refine aF (Q74 pl (aF (Q74 I (aF (aQ ?_)))));show aI _ _ (match Builtin.Slice.sliceAdjust lo hi 1 (n:Int) with | (lo,hi)=>pure (lo,(1:Int),Builtin.Slice.slicePlaces lo hi 1)) _ _ s
 rw [Qge lo hi n];show aI _ _ (pure (((sIx n 0 lo:Nat):Int),(1:Int),Builtin.Slice.slicePlaces ((sIx n 0 lo:Nat):Int) ((sIx n n hi:Nat):Int) 1)) _ _ s;rw [Qfa];exact aQ h
theorem Qmh (xs:Array aB) (i k:Nat):((bS k).filterMap fun (m:Nat)=>xs[((i:Int) + (m:Int) * 1).toNat]?).toArray=((xs.toList.drop i).take k).toArray:=by
 have e:(fun (m:Nat)=>xs[((i:Int) + (m:Int) * 1).toNat]?)=fun m=>xs[i + m]?:=by
  funext m;have:((i:Int) + (m:Int) * 1).toNat=i + m:=by omega
  rw [this]
 rw [e];have:=pick_run xs i k;rw [List.filterMap_map] at this;have e2:((fun x=>xs[x]?) ∘ fun x=>i + x)=fun m=>xs[i + m]?:=rfl
 rw [e2] at this;rw [this]
theorem getItem_tuple_cut {t sl:aA} {j:Array aB} {U Y:aB} {lo hi:Option Int} {Q:aB->aC->Prop} (B:IsTup s.heap t j) (hs:s.heap.IsSliceOf sl U Y .none) (pl:IsPart U lo) (pu:IsPart Y hi)
  (Z:¬ (sIx j.size 0 lo=0/\sIx j.size j.size hi=j.size))
  (h:Q (.ref s.heap.objs.size) { s with heap:=s.heap.push { cls:=.type "tuple",data:=.seq ((j.toList.drop (sIx j.size 0 lo)).take (sIx j.size j.size hi - sIx j.size 0 lo)).toArray } })
  (a3:j.size<=sizeLine):aI (aJ prog w) A (getItem (.ref t) (.ref sl)) Q E s:=by
 have z:sizeOk (.seq ((j.toList.drop (sIx j.size 0 lo)).take (sIx j.size j.size hi - sIx j.size 0 lo)).toArray):=by
  show ((j.toList.drop (sIx j.size 0 lo)).take (sIx j.size j.size hi - sIx j.size 0 lo)).toArray.size<=sizeLine;rw [O3,cF,cR,eG];omega
 have hj:sIx j.size j.size hi<=j.size:=Qvc _ _ (O7 _) hi;obtain ⟨os,G,I,a2⟩:=id hs;have O:s.TypeIs (.ref sl) "slice" := ⟨os,G,I⟩;unfold getItem
 try with_reducible refine bB ?_
 first | refine aF (aQ ?_) | skip
 refine aF (wpAny_sequenceKey B.typeIs (by decide) ?_);refine aF (wpAny_callSpecial?_slot (name:=bT "__getitem__") B.typeIs db
  (bD db B.typeIs entry_tuple_getitem ?_ (args_tuple_getitem _ _)))
 show aI _ _ (Builtin.Tuple.tupleItemsOf (.ref t) >>= _) _ _ s;refine aF (tupleItemsOf_ B ?_);refine aF (bK O ?_);rw [bO (by decide)];refine aF (yf hs pl pu ?_);have J:¬ ((((sIx j.size 0 lo:Nat):Int) == 0 && (1:Int) == 1 && (sIx j.size j.size hi - sIx j.size 0 lo) == j.size)=true):=by
  intro q;rw [G7,G7] at q;have q1:((sIx j.size 0 lo:Nat):Int)=0:=eq_of_beq q.1.1;have q2:sIx j.size j.size hi - sIx j.size 0 lo=j.size:=eq_of_beq q.2;exact Z ⟨by omega,by omega⟩
 show aI _ _ (if (((sIx j.size 0 lo:Nat):Int) == 0 && (1:Int) == 1 && (sIx j.size j.size hi - sIx j.size 0 lo) == j.size)=true then _ else _) _ _ s;rw [bP J,Qmh]
 first
  | exact aF (m:=Builtin.Tuple.tupleExact _) (av (aQ ⟨_,rfl,aQ h⟩) z)
  | exact aF (m:=Builtin.Tuple.tupleExact _) (av (aF (aQ (aQ ⟨_,rfl,aQ h⟩))) z)
  | exact aF (aF (m:=Builtin.Tuple.tupleExact _) (av (aQ (aQ ⟨_,rfl,aQ h⟩)) z))
  | exact aF (aF (m:=Builtin.Tuple.tupleExact _) (av (aQ ⟨_,rfl,aQ h⟩) z))
end
end HT
namespace L2
open PySem PySem.Spec PyProof.Rows
abbrev TO:=St->Hp->(Option Int->Hp->Prop)->Prop
def PO (X:Cx) (e:Option aD) (t:TO):Prop:=
 ∀ (pins:List (aA × Obj)) (s:aC) (σ:St) (H:Hp) (Q:Option Int->Hp->Prop),Inv X pins σ H s->t σ H Q ->
  aI (aJ X.prog X.w) X.A (evalPart e X.env) (fun u s'=>∃ o H',Inv X pins σ H' s'/\IsPart u o/\Q o H') X.xe s
def Qqj:TO:=fun _ H Q=>Q none H
def Qyc (t:TE):TO:=fun σ H Q=>t σ H fun x H1=>∃ i,x=.int i/\Q (some i) H1
theorem Q8k {ns:List Int}:∀ {us:List aB},Vals (ns.map V.int) us->IntsAre us ns:=by
 induction ns with
 | nil=>intro us r; rw [cj] at r; cases r; exact .nil
 | cons n ns z=>
  intro us r;rw [F7] at r;cases r with
  | cons j q=>
   obtain ⟨t,e⟩:=j;subst e;exact .cons n t (z q)
section
variable {X:Cx} {e:aD} {te:TE} {lo hi:Option aD} {tl th:TO} {pos p2:Pos}
theorem Qrn:PO X none Qqj:=by
 intro pins s σ H Q I h;rw [evalPart_none];exact aQ ⟨none,H,I,.none,h⟩
theorem Qrm (h:PE X e te):PO X (some e) (Qyc te):=by
 intro pins s σ H Q I j;rw [evalPart_some];refine thn (h pins s σ H _ I j) fun u s1 ⟨x,H1,z,B,q1⟩=>?_
 obtain ⟨i,rfl,q⟩:=q1;obtain ⟨t,rfl⟩:=B;exact ⟨some i,H1,z,.int i t,q⟩
def SlR (X:Cx) (r:V->Option Int->Option Int->Hp->VK->Prop):Prop:=
 ∀ (pins:List (aA × Obj)) (s:aC) (σ:St) (H:Hp) (x:V) (v vl vu:aB) (lo hi:Option Int) (sl:aA) (Q:VK),Inv X pins σ H s->RelV x v->s.heap.IsSliceOf sl vl vu .none->IsPart vl lo->IsPart vu hi->r x lo hi H Q ->
  ∃ T id,typeLookup (.type T) "__getitem__" = pure (some (.builtin id))/\s.TypeIs v T/\aI (aJ X.prog X.w) X.A (getItem v (.ref sl)) (EP X pins σ Q) X.xe s
theorem SlR.or {r J:V->Option Int->Option Int->Hp->VK->Prop} (h:SlR X r) (h':SlR X J):SlR X (fun x lo hi H Q=>r x lo hi H Q\/J x lo hi H Q):=by
 intro pins s σ H x v z G lo hi sl Q I B hs pl j q;rcases q with q | q
 ·exact h pins s σ H x v z G lo hi sl Q I B hs pl j q
 ·exact h' pins s σ H x v z G lo hi sl Q I B hs pl j q
def tSl (r:V->Option Int->Option Int->Hp->VK->Prop) (te:TE) (tl th:TO):TE:=fun σ H Q=>te σ H fun x H1=>tl σ H1 fun l H2=>th σ H2 fun u H3=>r x l u H3 Q
theorem Qmm {r:V->Option Int->Option Int->Hp->VK->Prop} (J:SlR X r) (he:PE X e te) (hl:PO X lo tl) (Y:PO X hi th):PE X (.Subscript e (.Slice lo hi none p2) pos) (tSl r te tl th):=by
 intro pins s σ H Q I h;refine Subscript_ (thn (he pins s σ H _ I h) fun v s1 ⟨x,H1,I1,r1,q1⟩=>?_)
 refine wpAny_Slice (thn (hl pins s1 σ H1 _ I1 q1) fun j s2 ⟨l,H2,I2,pl,q2⟩=>thn (Y pins s2 σ H2 _ I2 q2) fun z s3 ⟨u,B,Z,pu,q3⟩=>?_)
 rw [evalPart_none];refine aQ ?_;have G:Inv X pins σ B { s3 with heap:=s3.heap.push { cls:=.type "slice",data:=.fields #[j,z,.none] } }:=Z.kept (t':=s3.toks) fun b ob q=>O1 _ q
 obtain ⟨T,id,hT,U,O⟩:=J pins { s3 with heap:=s3.heap.push { cls:=.type "slice",data:=.fields #[j,z,.none] } } σ B x v j z l u s3.heap.objs.size Q G r1 (Heap.IsSliceOf.new ..) pl pu q3;show aI (aJ X.prog X.w) X.A (subscriptTail e (.Slice lo hi none p2) v (.ref s3.heap.objs.size)) (EP X pins σ Q) X.xe { s3 with heap:=s3.heap.push { cls:=.type "slice",data:=.fields #[j,z,.none] } };exact tail_any (ops:=[.ref s3.heap.objs.size,v]) U hT O (by with_unfolding_all rfl)
def Qe8 (xs:List V) (lo hi:Option Int):List V:=(xs.drop (HT.sIx xs.length 0 lo)).take (HT.sIx xs.length xs.length hi - HT.sIx xs.length 0 lo)
theorem Q5v (xs:List V) (lo hi:Option Int):(Qe8 xs lo hi).length<=xs.length:=by
 unfold Qe8;rw [cF,cR];omega
def J25 (K:bU):V->Option Int->Option Int->Hp->VK->Prop:=fun x lo hi H Q=>∃ a xs,x=.ref a/\SqT K H a xs /\
 ¬ (HT.sIx xs.length 0 lo=0/\HT.sIx xs.length xs.length hi=xs.length)/\∀ p,H p=none->Q (.ref p) (upd H p (.tup (Qe8 xs lo hi)))
theorem sl_tup:SlR X (J25 X.K):=by
 intro pins s σ H x v U Y lo hi sl Q I O hs pl J h;obtain ⟨a,xs,rfl,B,G,q⟩:=h;cases O;obtain ⟨its,r,z,hz⟩:=I.tuple B;have j:its.toArray.size=xs.length:=by rw [O3]; exact r.length.symm
 refine ⟨"tuple",_,PyProof.Rows.slot_tuple_getitem.lookup,z.typeIs,?_⟩;refine HT.getItem_tuple_cut z hs pl J (by rw [j]; exact G) ?_ (by rw [j]; exact hz);rw [j];refine ⟨.ref s.heap.objs.size,_,I.laid (t':=s.toks) (o:=.tup (Qe8 xs lo hi)) (fun b ob q=>O1 _ q) (O7 _) ?_,rfl,q _ (I.hok.fresh (O7 _))⟩;exact ⟨F1 (Q5v xs lo hi) hz,_,(r.drop (HT.sIx xs.length 0 lo)).take (HT.sIx xs.length xs.length hi - HT.sIx xs.length 0 lo),IsTup.new _ _⟩
def J28 (K:bU):R2:=fun x y H Q=>∃ a b ns ms,x=.ref a/\y=.ref b/\SqT K H a (ns.map V.int)/\SqT K H b (ms.map V.int)/\Q (.bl (HT.lexLt ns ms)) H
theorem Qw9 (J:X.A.units < ae):OpR X (aV .Lt) (J28 X.K):=by
 intro pins s σ H x y v u Q I Z ry h;obtain ⟨a,b,ns,ms,rfl,rfl,U,B,q⟩:=h;cases Z;cases ry;obtain ⟨its,Y,p1,_⟩:=I.tuple U;obtain ⟨j,O,p2,_⟩:=I.tuple B;have G:IntsAre its.toArray.toList ns:=Q8k Y;have z:IntsAre j.toArray.toList ms:=Q8k O;exact HT.lt_tupInts p1 p2 G z J ⟨.bl (HT.lexLt ns ms),H,I,rfl,q⟩
def Qu3 (K:bU):R2:=fun x y H Q=>∃ a b xs ys,x=.ref a/\y=.ref b/\SqT K H a xs/\SqT K H b ys/\xs≠[]/\xs.length + ys.length<=sizeLine /\
 (ys=[]->Q (.ref a) H)/\(ys≠[]->∀ p,H p=none->Q (.ref p) (upd H p (.tup (xs ++ ys))))
theorem Vals.nil_iff {xs:List V} {us:List aB} (r:Vals xs us):us=[] <-> xs=[]:=by
 cases r with
 | nil=>simp
 | cons _ _=>simp
theorem op_catT:OpR X (aW .Add) (Qu3 X.K):=by
 intro pins s σ H x y v u Q I Y Z h;obtain ⟨a,b,xs,ys,rfl,rfl,U,J,O,hz,q1,q2⟩:=h;cases Y;cases Z;obtain ⟨its,B,p1,_⟩:=I.tuple U;obtain ⟨G,j,p2,_⟩:=I.tuple J;refine HT.cat_tup p1 p2 (fun z=>O (B.nil_iff.mp z)) (fun z=>⟨.ref a,H,I,rfl,q1 (j.nil_iff.mp z)⟩) (fun z=>?_) (by rw [<- B.length,<- j.length]; exact hz)
 refine ⟨.ref s.heap.objs.size,_,I.laid (t':=s.toks) (o:=.tup (xs ++ ys)) (fun b ob q=>O1 _ q) (O7 _) ?_,rfl,q2 (fun w=>z (j.nil_iff.mpr w)) _ (I.hok.fresh (O7 _))⟩;exact ⟨by rw [O6]; exact hz,_,B.append j,IsTup.new _ _⟩
end
def ixN (n:Nat) (i:Int):Option Nat:=if 0<=i then (if i < n then some i.toNat else none) else if -(n:Int)<=i then some (i + n).toNat else none
def atI {α:Type} (xs:List α) (i:Int):Option α:=(ixN xs.length i).bind fun j=>xs[j]?
theorem Qh7 {n:Nat} {i:Int} {j:Nat} (h:ixN n i=some j):seqIndex? i n=some j/\j < n/\-(n:Int)<=i/\i < n:=by
 unfold ixN at h
 by_cases h0:0<=i
 ·rw [bO h0] at h
  by_cases h1:i < n
  ·rw [bO h1] at h;have e:i.toNat=j:=bf h;exact ⟨by rw [seqIndex_of h0 h1,e],by omega,by omega,h1⟩
  ·rw [bP h1] at h; cases h
 ·rw [bP h0] at h
  by_cases h1:-(n:Int)<=i
  ·rw [bO h1] at h;have e:(i + n).toNat=j:=bf h;exact ⟨by rw [seqIndex_neg (by omega) h1,e],by omega,h1,by omega⟩
  ·rw [bP h1] at h; cases h
theorem atI_get {α:Type} {xs:List α} {i:Int} {v:α} (h:atI xs i=some v):∃ j,seqIndex? i xs.length=some j/\xs[j]?=some v/\j < xs.length/\-(xs.length:Int)<=i/\i < xs.length:=by
 unfold atI at h;cases e:ixN xs.length i with
 | none=>rw [e] at h; cases h
 | some j=>
  rw [e] at h;obtain ⟨h1,h2,z,q⟩:=Qh7 e;exact ⟨j,h1,h,h2,z,q⟩
theorem Qej {α:Type} (xs:List α) (v:α):atI (xs ++ [v]) (-1)=some v:=by
 have j:(xs ++ [v]).length=xs.length + 1:=by simp
 have e:ixN (xs ++ [v]).length (-1)=some xs.length:=by
  unfold ixN;rw [j,bP (by decide),bO (by omega)];congr 1;omega
 unfold atI;rw [e];show (xs ++ [v])[xs.length]?=some v;simp
def Qhn (b:aD):Prop:=∀ o i,subscripted b false o i=operate [o,i] (getItem o i)
def IxR (X:Cx) (r:R2):Prop:=
 ∀ (value slice:aD) (pins:List (aA × Obj)) (s:aC) (σ:St) (H:Hp) (x y:V) (v u:aB) (Q:VK),Inv X pins σ H s->RelV x v->RelV y u->r x y H Q ->
  subscripted slice false v u=operate [v,u] (getItem v u)->aI (aJ X.prog X.w) X.A (subscriptTail value slice v u) (EP X pins σ Q) X.xe s
def MtR (X:Cx) (id:String) (r:V->List V->Hp->VK->Prop):Prop:=
 ∀ (pins:List (aA × Obj)) (s:aC) (σ:St) (H:Hp) (x:V) (xs:List V) (v:aB) (us:List aB) (Q:VK),Inv X pins σ H s->RelV x v->Vals xs us->r x xs H Q ->
  aI (aJ X.prog X.w) X.A (call (.builtin id) (v :: us)) (EP X pins σ Q) X.xe s
section
variable {X:Cx} {a b:aD} {ta tb:TE} {pos:Pos}
theorem IxR.or {r G:R2} (h:IxR X r) (h':IxR X G):IxR X (fun x y H Q=>r x y H Q\/G x y H Q):=by
 intro value j pins s σ H x y v u Q I z B q hs;rcases q with q | q
 ·exact h value j pins s σ H x y v u Q I z B q hs
 ·exact h' value j pins s σ H x y v u Q I z B q hs
theorem Qz8 {r:R2} (j:IxR X r) (G:PE X a ta) (z:PE X b tb) (hs:Qhn b):PE X (.Subscript a b pos) (tOp r ta tb):=by
 intro pins s σ H Q I h;exact Subscript_ (Qxe G z I h fun v u s2 x y H2 B J O q=>j a b pins s2 σ H2 x y v u Q B J O q (hs _ _))
def Qyy (K:bU):R2:=fun x y H Q=>∃ p xs i v,x=.ref p/\y=.int i/\SqL K H p xs/\atI xs i=some v/\Q v H
def Qyw (K:bU):R2:=fun x y H Q=>∃ p xs i v,x=.ref p/\y=.int i/\SqT K H p xs/\atI xs i=some v/\Q v H
def Qyx:R2:=fun x y H Q=>∃ z i c,x=.str z/\y=.int i/\z.length<=sizeLine/\atI z.cps.toList i=some c/\Q (.str ⟨#[c]⟩) H
theorem ix_list:IxR X (Qyy X.K):=by
 intro value J pins s σ H x y v u Q I rx U h hs;obtain ⟨p,xs,i,z,rfl,rfl,hq,Z,q⟩:=h;cases rx;obtain ⟨t,rfl⟩:=U;obtain ⟨its,r,pl,hz⟩:=I.list hq;obtain ⟨j,h1,h2,h3,Y,h5⟩:=atI_get Z;obtain ⟨w,O,B⟩:=r.get h2;have hl:=r.length;have hn:=Q5b;have fin:EP X pins σ Q w s:=⟨z,H,I,B,q⟩
 by_cases h0:0<=i
 ·have G:i.toNat=j:=by
   rw [seqIndex_of h0 h5] at h1;exact bf h1
  exact item_listR pl.isList h0 (by omega) (by rw [G]; simpa using O) fin hs
 ·have G:(i + (its.toArray.size:Int)).toNat=j:=by
   rw [seqIndex_neg (by omega) Y] at h1;rw [O3,<- hl];exact bf h1
  exact subscriptTail_builtinR (x:=w) pl.isList.typeIs slot_list_getitem.lookup
   (wpAny_getItem_list_neg (Q:=fun r s'=>r=w/\EP X pins σ Q r s') pl.isList (by omega) (by rw [O3] <;> omega) (by omega) (by rw [G]; simpa using O) ⟨rfl,fin⟩) hs
theorem ix_tup:IxR X (Qyw X.K):=by
 intro value G pins s σ H x y v u Q I U Y h hs;obtain ⟨p,xs,i,z,rfl,rfl,J,O,q⟩:=h;cases U;obtain ⟨t,rfl⟩:=Y;obtain ⟨its,r,pl,hz⟩:=I.tuple J;obtain ⟨j,h1,h2,h3,h4,h5⟩:=atI_get O;obtain ⟨w,Z,B⟩:=r.get h2;have hl:=r.length;have hn:=Q5b;have fin:EP X pins σ Q w s:=⟨z,H,I,B,q⟩;exact subscriptTail_builtinR (x:=w) pl.typeIs slot_tuple_getitem.lookup
  (getItem_tuple (j:=j) (Q:=fun r s'=>r=w/\EP X pins σ Q r s') pl (by omega) (by omega) (by rw [O3,<- hl]; exact h1) (by simpa using Z) ⟨rfl,fin⟩) hs
theorem Qwy:IxR X Qyx:=by
 intro value B pins s σ H x y v u Q I U Z h hs;obtain ⟨z,i,c,rfl,rfl,hz,O,q⟩:=h;obtain ⟨t,rfl⟩:=U;obtain ⟨t',rfl⟩:=Z;obtain ⟨j,h1,h2,h3,J,G⟩:=atI_get O;have Y:z.cps.toList.length=z.length:=by simp [Str.length]
 rw [Y] at h1 J G;have hn:=Q5b;exact tail_any (typeIs_str s z t) slot_str_getitem.lookup (getItem_str (c:=c) (by
  have e1:decide (i < -(2 ^ 63:Int))=false:=bQ (by omega);have e2:decide (i>=2 ^ 63)=false:=bQ (by omega);rw [e1,e2,Bool.or_false]) (by rw [h1]; simpa using h2) ⟨.str ⟨#[c]⟩,H,I.tok _,⟨_,rfl⟩,q⟩) hs
def rIx (K:bU):R2:=fun x y H Q=>Qyy K x y H Q\/Qyw K x y H Q\/Qyx x y H Q
theorem Qwz:IxR X (rIx X.K):=ix_list.or (ix_tup.or Qwy)
theorem Qfq (its:List aB) (n j:Nat) (u:aB):cp (·.setIfInBounds j u) { cls:=.type "list",data:=.seq its.toArray n }={ cls:=.type "list",data:=.seq (its.set j u).toArray n }:=by
 simp [cp]
theorem Inv.lst {pins:List (aA × Obj)} {σ:St} {H:Hp} {s:aC} {p:aA} {xs:List V} (I:Inv X pins σ H s) (h:H p=some (.lst xs)) :
  ∃ (its:List aB) (n:Nat),Vals xs its/\s.heap.get? p=some { cls:=.type "list",data:=.seq its.toArray n }/\xs.length<=sizeLine:=by
 obtain ⟨z,its,n,r,e⟩:=I.hok p _ h;exact ⟨its,n,r,e,z⟩
theorem Inv.lstUpd {pins:List (aA × Obj)} {σ:St} {H:Hp} {s:aC} {p:aA} {xs ys:List V} {its its':List aB} {n j:Nat} {f:Obj->Obj} (I:Inv X pins σ H s) (h:H p=some (.lst xs))
  (B:s.heap.get? p=some { cls:=.type "list",data:=.seq its.toArray n }) (z:f { cls:=.type "list",data:=.seq its.toArray n }={ cls:=.type "list",data:=.seq its'.toArray j }) (r:Vals ys its') (hz:ys.length<=sizeLine) (t:Nat) :
  Inv X pins σ (upd H p (.lst ys)) { s with heap:=s.heap.update p f,toks:=t }:=by
 have e:(s.heap.update p f).get? p=some { cls:=.type "list",data:=.seq its'.toArray j }:=by
  rw [L8 f B (by rw [z] <;> rfl),z]
 refine I.write (x:=p) (e:=p) (by rw [h]; trivial) (.inl rfl) (fun b u G q=>(F5 _ _ (Ne.symm G)).trans q) ⟨_,e⟩ ?_
 exact ⟨hz,its',j,r,e⟩
def Qyu:V->V->V->Hp->(Hp->Prop)->Prop:=fun o i v H Q=>∃ p xs k j,o=.ref p/\i=.int k/\H p=some (.lst xs)/\ixN xs.length k=some j/\Q (upd H p (.lst (xs.set j v)))
theorem Qks:J0v X Qyu:=by
 intro pins s σ H o i v ov iv u Q I ro ri Y h;obtain ⟨p,xs,k,j,rfl,rfl,hp,Z,q⟩:=h;cases ro;obtain ⟨t,rfl⟩:=ri;obtain ⟨its,n,r,B,hz⟩:=I.lst hp;obtain ⟨h1,h2,U,O⟩:=Qh7 Z;have G:=r.length;have hn:=Q5b;have J:Inv X pins σ (upd H p (.lst (xs.set j v))) { s with heap:=s.heap.update p (cp (·.setIfInBounds j u)) }:=
  I.lstUpd hp B (Qfq its n j u) (r.set Y j) (by rw [D9]; exact hz) s.toks
 by_cases h0:0<=k
 ·have z:k.toNat=j:=by
   rw [seqIndex_of h0 O] at h1;exact bf h1
  exact PySem.W.ki_setAt B h0 (by omega) (by rw [O3,<- G]; exact O) (by rw [z]; exact ⟨_,J,q⟩)
 ·have z:(k + (its.toArray.size:Int)).toNat=j:=by
   rw [seqIndex_neg (by omega) U] at h1;rw [O3,<- G];exact bf h1
  exact PySem.W.ki_setBack B (by omega) (by rw [O3,<- G]; exact U) (by omega) (by rw [z]; exact ⟨_,J,q⟩)
theorem Qb6 (lo hi:Option Int) (n:Nat):(bE lo hi none n).1=((HT.sIx n 0 lo:Nat):Int)/\(bE lo hi none n).2.1=((HT.sIx n n hi:Nat):Int)/\(bE lo hi none n).2.2=1:=by
 refine ⟨?_,?_,rfl⟩
 ·cases lo with
  | none=>simp [bE,HT.sIx]
  | some i=>
   simp only [bE,HT.sIx,fq,show (1:Int) > 0 by decide,if_true]
   by_cases h:i < 0
   ·simp only [h,if_true] <;> omega
   ·simp only [h,if_false] <;> omega
 ·cases hi with
  | none=>simp [bE,HT.sIx]
  | some i=>
   simp only [bE,HT.sIx,fq,show (1:Int) > 0 by decide,if_true]
   by_cases h:i < 0
   ·simp only [h,if_true] <;> omega
   ·simp only [h,if_false] <;> omega
theorem Q95 (its:List aB) (lo hi:Option Int):slicePick its.toArray lo hi none=((its.drop (HT.sIx its.length 0 lo)).take (HT.sIx its.length its.length hi - HT.sIx its.length 0 lo)).toArray:=by
 obtain ⟨h1,h2,j⟩:=Qb6 lo hi its.toArray.size;unfold slicePick;rw [h1,h2,j];simp only [sliceRange_one,pick_run,O3] <;> rfl
def J26 (K:bU):V->Option Int->Option Int->Hp->VK->Prop:=fun x lo hi H Q=>∃ a xs,x=.ref a/\SqL K H a xs/\∀ p,H p=none->Q (.ref p) (upd H p (.lst (Qe8 xs lo hi)))
theorem Qqu:SlR X (J26 X.K):=by
 intro pins s σ H x v O U lo hi sl Q I J hs pl G h;obtain ⟨a,xs,rfl,B,q⟩:=h;cases J;obtain ⟨its,r,z,hz⟩:=I.list B;have j:=r.length;refine ⟨"list",_,slot_list_getitem.lookup,z.isList.typeIs,?_⟩;refine wpAny_getItem_list_slice z.isList hs pl G .none (by simp) ?_ (by rw [O3] <;> omega);rw [Q95,<- j];refine ⟨.ref s.heap.objs.size,_,I.laid (t':=s.toks) (o:=.lst (Qe8 xs lo hi)) (fun b ob q=>O1 _ q) (O7 _) ?_,rfl,q _ (I.hok.fresh (O7 _))⟩;exact ⟨F1 (Q5v xs lo hi) hz,_,0,(r.drop (HT.sIx xs.length 0 lo)).take (HT.sIx xs.length xs.length hi - HT.sIx xs.length 0 lo),D7 _ rfl⟩
theorem Qcb:Kh X (.builtin "len") (fun xs H Q=>∃ p ys,xs=[.ref p]/\(SqL X.K H p ys\/SqT X.K H p ys)/\Q (.int ys.length) H):=by
 intro pins s σ H xs us Q I r h;obtain ⟨p,ys,rfl,z,q⟩:=h;obtain ⟨u,rfl,G⟩:=Q1b r;cases G;have J:=Q5b;rcases z with z | z
 ·obtain ⟨its,B,pl,hz⟩:=I.list z;have j:=B.length;exact Calls.call_len_list pl.isList (by simp only [O3] <;> omega) ⟨.int ys.length,H,I.tok _,⟨s.toks + 1,by rw [O3,j]⟩,q⟩
 ·obtain ⟨its,B,pl,hz⟩:=I.tuple z;have j:=B.length;exact len_tuple pl (by simp only [O3] <;> omega) ⟨.int ys.length,H,I.tok _,⟨s.toks + 1,by rw [O3,j]⟩,q⟩
theorem Qca:Kh X (.builtin "len") (fun xs H Q=>∃ z,xs=[.str z]/\z.length<=sizeLine/\Q (.int z.length) H):=by
 intro pins s σ H xs us Q I r h;obtain ⟨z,rfl,hz,q⟩:=h;obtain ⟨u,rfl,t,rfl⟩:=Q1b r;have j:=Q5b;exact len_str (by omega) ⟨.int z.length,H,I.tok _,⟨_,rfl⟩,q⟩
theorem Qc9:Kh X (.type "list") (fun xs H Q=>∃ p ys,xs=[.ref p]/\(SqL X.K H p ys\/SqT X.K H p ys)/\∀ l,H l=none->Q (.ref l) (upd H l (.lst ys))):=by
 intro pins s σ H xs us Q I r h;obtain ⟨p,ys,rfl,G,q⟩:=h;obtain ⟨u,rfl,U⟩:=Q1b r;cases U;have fin:∀ (its:List aB),Vals ys its->ys.length<=sizeLine->∀ (h':Heap) (j:Nat),(∀ b o',s.heap.get? b=some o'->h'.get? b=some o') ->
   h'.get? s.heap.objs.size=some { cls:=.type "list",dict:=none,data:=.seq its.toArray j,slots:=#[] }->EP X pins σ Q (.ref s.heap.objs.size) { s with heap:=h' }:=fun its z hz h' j kp e=>
  ⟨.ref s.heap.objs.size,_,I.laid (t':=s.toks) kp (O7 _) (show ObjOk X.prog X.w _ h' _ (.lst ys) from ⟨hz,its,j,z,e⟩),rfl,q _ (I.hok.fresh (O7 _))⟩
 rcases G with G | G
 ·obtain ⟨its,z,pl,hz⟩:=I.list G;have B:=z.length;obtain ⟨o,J,O,n,hd⟩:=pl.isList;exact call_list_seq p (.inl rfl) J O hd (fun h' j kp e=>fin its z hz h' j kp e) (by simp only [O3] <;> omega)
 ·obtain ⟨its,z,pl,hz⟩:=I.tuple G;have B:=z.length;obtain ⟨o,J,O,n,hd⟩:=pl;exact call_list_seq p (.inr rfl) J O hd (fun h' j kp e=>fin its z hz h' j kp e) (by simp only [O3] <;> omega)
theorem Q33:Kh X (.type "tuple") (fun xs H Q=>∃ p ys,xs=[.ref p]/\((SqL X.K H p ys/\∀ l,H l=none->Q (.ref l) (upd H l (.tup ys)))\/(SqT X.K H p ys/\Q (.ref p) H))):=by
 intro pins s σ H xs us Q I r h;obtain ⟨p,ys,rfl,h⟩:=h;obtain ⟨u,rfl,O⟩:=Q1b r;cases O;rcases h with ⟨j,q⟩ | ⟨j,q⟩
 ·obtain ⟨its,z,pl,hz⟩:=I.list j;have B:=z.length;refine call_tuple_list pl.isList (fun h' kp=>?_) (by simp only [O3] <;> omega);have G:Inv X pins σ H { s with heap:=h' }:=I.kept (t':=s.toks) kp;have J:Inv X pins σ (upd H h'.objs.size (.tup ys)) { s with heap:=h'.push { cls:=.type "tuple",data:=.seq its.toArray } }:=
   G.laid (t':=s.toks) (fun b o e=>O1 _ e) (O7 _) (show ObjOk X.prog X.w _ _ _ (.tup ys) from ⟨hz,its,z,IsTup.new _ _⟩)
  exact ⟨.ref h'.objs.size,_,J,rfl,q _ (G.hok.fresh (O7 _))⟩
 ·obtain ⟨its,z,pl,hz⟩:=I.tuple j;exact call_tuple_same pl ⟨.ref p,H,I,rfl,q⟩
def tyV (K:bU) (T:String) (x:V) (H:Hp):Prop:=match x with
 | .str _=>T = "str"
 | .int _=>T = "int"
 | .ref p=>(T = "list" /\ ∃ xs,SqL K H p xs)\/(T = "tuple" /\ ∃ o,K.lookup p=some o/\o.cls=.type "tuple" /\ o.dict=none) \/
   (T = "dict" /\ ((∃ kvs,H p=some (.dK kvs))\/∃ kvs,H p=some (.dT kvs)))\/(T = "set" /\ ∃ S n,H p=some (.set S n))
 | _=>False
theorem Qum {pins:List (aA × Obj)} {σ:St} {H:Hp} {s:aC} {T:String} {x:V} {v:aB} (I:Inv X pins σ H s) (r:RelV x v) (ty:tyV X.K T x H) :
  s.TypeIs v T/\∀ a,v=.ref a->∃ ob,s.heap.get? a=some ob/\ob.dict=none:=by
 cases x with
 | str z=>
  obtain ⟨t,rfl⟩:=r;cases (show T = "str" from ty);exact ⟨typeIs_str s z t,fun _ e=>nomatch e⟩
 | int i=>
  obtain ⟨t,rfl⟩:=r;cases (show T = "int" from ty);exact ⟨typeIs_int s i t,fun _ e=>nomatch e⟩
 | ref p=>
  cases r;rcases ty with ⟨rfl,xs,B⟩ | ⟨rfl,o,j,q,hd⟩ | ⟨rfl,j⟩ | ⟨rfl,S,n,j⟩
  ·obtain ⟨its,_,pl,_⟩:=I.list B;refine ⟨pl.isList.typeIs,fun a e=>?_⟩;cases e;obtain ⟨o,n,e,c,hd,_⟩:=pl;exact ⟨o,e,hd⟩
  ·refine ⟨⟨o,I.kIn p o j,q⟩,fun a e=>?_⟩
   cases e;exact ⟨o,I.kIn _ o j,hd⟩
  ·have z:∃ o,s.heap.get? p=some o/\o.ExactDict:=by
    rcases j with ⟨kvs,j⟩ | ⟨kvs,j⟩
    ·obtain ⟨_,_,_,_,o,_,_,e,ex,_⟩:=I.hok p _ j;exact ⟨o,e,ex⟩
    ·obtain ⟨_,_,_,_,o,_,_,e,ex,_⟩:=I.hok p _ j;exact ⟨o,e,ex⟩
   obtain ⟨o,e,ex⟩:=z;refine ⟨⟨o,e,ex.1⟩,fun a e2=>?_⟩
   cases e2;exact ⟨o,e,ex.2.1⟩
  ·obtain ⟨o,_,_,_,e,ex,_⟩:=I.hok p _ j;refine ⟨⟨o,e,ex.1⟩,fun a e2=>?_⟩
   cases e2;exact ⟨o,e,ex.2.1⟩
 | _=>exact False.elim ty
def tBM (K:bU) (T:String) (r:V->List V->Hp->VK->Prop) (to:TE) (t:TA):TE:=fun σ H Q=>to σ H fun x H1=>tyV K T x H1/\t σ H1 fun xs H2=>r x xs H2 Q
variable {o e:aD} {es:List aD} {to:TE} {t:TA} {name:Str} {apos cpos:Pos} {T id:String} {r:V->List V->Hp->VK->Prop}
theorem Qz9 (pa:PlainAttrs T) (slot:Slot T name id) (G:typeOf (.builtin id)=pure (.type "method_descriptor")) (hm:MtR X id r) (Y:PE X o to) (ha:PA X (e :: es) t)
  (q:ak o name X.env (aL o X.env)=aL o X.env:=by rfl)
  (B:((aU cpos (aM (e :: es) X.env)).all (fun x=>!x.1) && (backToKw cpos (keywordEach [] X.env)).all (fun x=>x.1.isSome)
   && decide ((e :: es).length + ([]:List Keyword).length + (if ([]:List Keyword).isEmpty then 0 else 1) < 30))=true:=by rfl)
  (z:(apos.endLine == cpos.line)=true:=by rfl) (hs:aM (e :: es) X.env=(false,aL e X.env) :: aM es X.env:=by rfl) (j:(aU cpos (aM es X.env)).any (·.1)=false:=by rfl) :
  PE X (.Call (.Attribute o name apos) (e :: es) [] cpos) (tBM X.K T r to t):=by
 intro pins s σ H Q I h;refine wpAny_Call_method_late q B z rfl (thn (Y pins s σ H _ I h) fun v s1 ⟨x,H1,O,U,ty,q1⟩=>?_)
 obtain ⟨h1,h2⟩:=Qum O U ty;refine ⟨T,id,pa,slot,G,h1,h2,?_⟩;have J:=ha cpos pins s1 σ H1 _ O q1;rw [hs] at J ⊢;refine Calls.callWith_builtin (by show (false || (aU cpos (aM es X.env)).any (·.1))=false; rw [j] <;> rfl) (Calls.evalArgs_plain ?_);exact thn J fun us s2 ⟨vs,H2,Z,r2,q2⟩=>hm pins s2 σ H2 x vs v us Q Z U r2 q2
end
def MtM (X:Cx) (id:String) (r:V->List V->Hp->VK->Prop):Prop:=
 ∀ (pins:List (aA × Obj)) (s:aC) (σ:St) (H:Hp) (x:V) (xs:List V) (v:aB) (us:List aB) (Q:VK),Inv X pins σ H s->RelV x v->Vals xs us->r x xs H Q ->
  aI (aJ X.prog X.w) X.A (call (.builtin id) (v :: us)) (EP X pins σ Q) X.xe s
theorem Vals.one:∀ {x:V} {us:List aB},Vals [x] us->∃ u,us=[u]/\RelV x u
 | _,_,.cons r .nil=>⟨_,rfl,r⟩
theorem Vals.rep {xs:List V} {us:List aB} (h:Vals xs us):∀ k:Nat,Vals (bV k xs).flatten (bV k us).flatten
 | 0=>.nil
 | k + 1=>by
  rw [cH,cH,cS,cS];exact Vals.append h (Vals.rep h k)
theorem Q5h (its:List aB):∀ (k:Nat) (j:List aB),
  df (fun q z=>q ++ z) j.toArray (bV k its.toArray)=(j ++ (bV k its).flatten).toArray
 | 0,j=>by simp
 | k + 1,j=>by
  have e:j.toArray ++ its.toArray=(j ++ its).toArray:=by simp
  have e2:(j ++ its) ++ (bV k its).flatten=j ++ (bV (k + 1) its).flatten:=by
   rw [cH,cS,L5]
  rw [<- e2,<- Q5h its k (j ++ its),<- e,cH,cU]
section
variable {X:Cx} {pins:List (aA × Obj)} {σ:St} {H:Hp} {s:aC} {l b:aA} {xs ys zs:List V}
theorem Inv.lset {its its':List aB} {n:Nat} {f:Array aB->Array aB} {t':Nat} (I:Inv X pins σ H s) (J:H l=some (.lst xs))
  (e:s.heap.get? l=some { cls:=.type "list",data:=.seq its.toArray n }) (z:f its.toArray=its'.toArray) (G:Vals ys its') (hz:ys.length<=sizeLine) :
  Inv X pins σ (upd H l (.lst ys)) { s with heap:=s.heap.update l (cp f),toks:=t' }:=by
 have q:=PySem.IsL.update e f;rw [z] at q;refine I.write (x:=l) (e:=l) (by rw [J]; exact trivial) (.inl rfl) (fun O u j B=>(F5 s.heap (cp f) (Ne.symm j)).trans B) ⟨_,q⟩ ?_
 exact ⟨hz,its',_,G,q⟩
theorem Inv.lnew {its:List aB} {t':Nat} (I:Inv X pins σ H s) (j:Vals ys its) (hz:ys.length<=sizeLine) :
  Inv X pins σ (upd H s.heap.objs.size (.lst ys)) { s with heap:=s.heap.push { cls:=.type "list",data:=.seq its.toArray },toks:=t' }:=
 I.laid (fun _ _ q=>O1 _ q) (O7 _) ⟨hz,its,0,j,D7 _ rfl⟩
theorem Inv.fresh (I:Inv X pins σ H s):H s.heap.objs.size=none:=I.hok.fresh (O7 _)
theorem Inv.lstM (I:Inv X pins σ H s) (j:H l=some (.lst xs)):xs.length<=sizeLine/\∃ (its:List aB) (n:Nat),Vals xs its/\xs.length=its.length/\s.heap.get? l=some { cls:=.type "list",data:=.seq its.toArray n }:=by
 obtain ⟨z,its,n,r,e⟩:=I.hok l _ j;exact ⟨z,its,n,r,r.length,e⟩
theorem Qdh {n:Nat} (h:n<=sizeLine):Builtin.List.listTooLong n=false:=by
 unfold Builtin.List.listTooLong;exact bQ (by omega)
end
section
variable {X:Cx}
def Qrd:V->List V->Hp->VK->Prop:=fun x vs H Q=>∃ l xs y,x=.ref l/\vs=[y]/\H l=some (.lst xs)/\xs.length < sizeLine/\Q .non (upd H l (.lst (xs ++ [y])))
theorem Qir:MtM X "list.append" Qrd:=by
 intro pins s σ H x vs v us Q I G J h;obtain ⟨l,xs,y,rfl,rfl,j,hz,q⟩:=h;cases G;obtain ⟨u,rfl,B⟩:=J.one;obtain ⟨z,its,n,r,O,e⟩:=I.lstM j;refine az F.slot_list_append ⟨_,e,rfl⟩ F.entry_list_append (F.args_list_append_2 _ _) (ft l its.toArray n u (by rw [O3]; omega)) ⟨e,?_⟩;refine ⟨.non,_,I.lset (its':=its ++ [u]) j e (by simp) (r.append (.cons B .nil)) ?_,rfl,q⟩;rw [O6,ec];omega
def Qrc:V->List V->Hp->VK->Prop:=fun x vs H Q=>∃ l b xs zs,x=.ref l/\vs=[.ref b]/\H l=some (.lst xs)/\H b=some (.lst zs)/\xs.length + zs.length<=sizeLine/\Q .non (upd H l (.lst (xs ++ zs)))
theorem Qiq:MtM X "list.extend" Qrc:=by
 intro pins s σ H x vs v us Q I rx rv h;obtain ⟨l,b,xs,zs,rfl,rfl,J,hB,hz,q⟩:=h;cases rx;obtain ⟨u,rfl,U⟩:=rv.one;cases U;obtain ⟨z,its,n,r,hl,e⟩:=I.lstM J;obtain ⟨z2,j,Y,Z,O,e2⟩:=I.lstM hB;have G:its.toArray.size + j.toArray.size<=sizeLine:=by rw [O3,O3]; omega
 have B:¬ (!its.toArray.isEmpty && Builtin.List.listTooLong (its.toArray.size + j.toArray.size))=true:=by
  rw [Qdh G,dg];exact E5
 refine az F.slot_list_extend ⟨_,e,rfl⟩ F.entry_list_extend (F.args_list_extend_2 _ _)
  (AutoSeq1.list_extend_list_list_0 l its.toArray n b j.toArray Y B (by rw [O3]; omega) (by omega)) ⟨e,e2,?_⟩
 refine ⟨.non,_,I.lset (its':=its ++ j) J e (by simp) (r.append Z) ?_,rfl,q⟩;rw [O6];omega
def J29:R2:=fun x y H Q=>∃ l b xs zs,x=.ref l/\y=.ref b/\H l=some (.lst xs)/\H b=some (.lst zs)/\xs.length + zs.length<=sizeLine/\∀ p,H p=none->Q (.ref p) (upd H p (.lst (xs ++ zs)))
theorem Qn0:OpR X (aW .Add) J29:=by
 intro pins s σ H x y v u Q I U Z h;obtain ⟨l,b,xs,zs,rfl,rfl,J,Y,hz,q⟩:=h;cases U;cases Z;obtain ⟨z,its,n,r,hl,e⟩:=I.lstM J;obtain ⟨z2,j,n2,G,B,e2⟩:=I.lstM Y;refine PySem.P.add_list e e2 ?_ (by rw [O3,O3]; omega);have O:its.toArray ++ j.toArray=(its ++ j).toArray:=by simp
 rw [O];exact ⟨.ref _,_,I.lnew (t':=s.toks) (r.append G) (by rw [O6]; omega),rfl,q _ I.fresh⟩
def J27:R2:=fun x y H Q=>∃ l k xs,x=.ref l/\y=.int k/\H l=some (.lst xs)/\-(2 ^ 63)<=k/\k < 2 ^ 63/\xs.length * k.toNat<=sizeLine /\
 ∀ p,H p=none->Q (.ref p) (upd H p (.lst (bV k.toNat xs).flatten))
theorem Qbw {α:Type} (xs:List α) (k:Nat):(bV k xs).flatten.length=k * xs.length:=by
 induction k with
 | zero=>simp
 | succ k j=>rw [cH,cS,O6,j,Nat.succ_mul,Nat.add_comm]
theorem Qw5:OpR X (aW .Mult) J27:=by
 intro pins s σ H x y v u Q I rx ry h;obtain ⟨l,k,xs,rfl,rfl,hH,h1,h2,hz,q⟩:=h;cases rx;obtain ⟨t,rfl⟩:=ry;obtain ⟨z,its,n,r,hl,e⟩:=I.lstM hH;have B:its.toArray.size * k.toNat<=sizeLine:=by rw [O3,<- hl]; exact hz
 have J:¬ its.toArray.size * k.toNat > (2 ^ 63 - 1) / 8:=by
  have:(sizeLine:Nat)<=(2 ^ 63 - 1) / 8:=by decide
  omega
 have G:¬ (!Builtin.List.listFitsIndex k)=true:=by
  rw [fitsIndex_both h1 h2];exact E5
 have j:¬ Builtin.List.listTooLong (its.toArray.size * k.toNat)=true:=by
  rw [Qdh B];exact E5
 have O:df (fun Z Y=>Z ++ Y) #[] (bV (if its.toArray.isEmpty=true then 0 else k.toNat) its.toArray)=(bV k.toNat its).flatten.toArray:=by
  have f0:∀ m:Nat,df (fun Z Y=>Z ++ Y) #[] (bV m its.toArray)=(bV m its).flatten.toArray:=fun m=>by
   have:=Q5h its m [];rw [fu] at this;exact this
  rw [f0];cases its with
  | nil=>simp
  | cons a r'=>rw [bP (by simp)]
 refine wpAny_binaryOp_repeat_ref (T := "list") (U := "int") (by decide) ⟨_,e,rfl⟩ (fun s'=>typeIs_int s' k t) noFill_list_mul F.fills_int_mul F.slot_int_rmul repeat_list F.slot_int_index.lookup
  (az F.slot_int_rmul (typeIs_int s k t) F.entry_int_rmul (F.args_int_rmul_2 _ _) (int___rmul___int_list k t l its.toArray n)
   ⟨e,rfl,⟨_,e,rfl⟩,az F.slot_list_mul ⟨_,e,rfl⟩ F.entry_list_mul (F.args_list_mul_2 _ _) (AutoListH.list___mul___list_int_3 l its.toArray n k t G J j) ⟨e,?_⟩⟩)
 rw [O];exact ⟨.ref _,_,I.lnew (t':=s.toks) (r.rep k.toNat) (by rw [Qbw,ee]; exact hz),rfl,q _ I.fresh⟩
end
end L2
namespace Att
open PySem PySem.W PySem.Calls PyProof.Rows
theorem Q6a {P:Params} {h:Heap}:∀ (ns:List Int) (vs:List aB),WellAll P h vs (ns.map WData.int)->IntsAre vs ns:=by
 intro ns
 induction ns with
 | nil=>
  intro vs w;rw [cj] at w;cases w;exact .nil
 | cons n ns j=>
  intro vs w;rw [F7] at w;cases w with
  | cons a b=>
   cases a;exact .cons _ _ (j _ b)
theorem Qi4 {l:OpenLaw} {n:Nat} (hn:l.most=some n) {P:Params} {h:Heap} {args:List WData} {j:List aB}
  (z:l.row.toRowW.claim.pre args=true) (U:WellAll P h j args) :
  ∃ a vs ns,j=[bW a]/\args=[WData.list (ns.map WData.int)]/\h.get? a=some { cls:=.type "list",data:=.seq vs.toArray }/\IntsAre vs ns/\ns.length<=n:=by
 have O:WShape.hasAll [] args [.list .int]=true:=(pre_splitW z).1;have Y:l.pre.holds [] { args:=args }=true:=(pre_splitW z).2;obtain ⟨d,r,rfl,h1,h2⟩:=hasAllW_cons O;obtain rfl:=hasAllW_nil h2;obtain ⟨xs,rfl,h3⟩:=hasW_list h1;obtain ⟨ns,rfl⟩:=items_int h3;have B:ns.length<=n:=by
  unfold OpenLaw.pre at Y;have J:(WTm.not (.lt (.lit (.int (n:Int))) (.len (.arg 0)))).holds [] { args:=[.list (ns.map .int)] }=true:=by
   have J:=(holds_andW Y).1;rw [hn] at J;exact J
  have I:=condW_of J (w_not (w_lt w_lit (w_len_list (w_arg rfl))));rw [O2] at I;refine Nat.le_of_not_lt fun q=>?_
  have Z:(n:Int) < ((ns.length:Nat):Int):=by omega
  first
   | (rw [bR Z] at I; exact absurd I (by decide))
   | (simp at I; omega)
 cases U with
 | cons w1 w2=>
  cases w2;cases w1 with
  | list ho G=>exact ⟨_,_,ns,rfl,rfl,ho,Q6a ns _ G,B⟩
theorem Qib (l:OpenLaw) (args:List WData):l.row.toRowW.claim.post args (.bool true) args=true:=
 postW_of (r:=l.row.toRowW) (X:=(true == true))
  (show WShape.has [] (.bool true) .bool=true by first | rfl | decide | simp [WShape.has,WShape.arms,WShape.armsAll])
  (show (WTm.eq .res (.lit (.bool true))).value [] { args:=args,res:=some (.bool true),after:=args }=some (.bool (true == true)) from w_eq_bool (w_res rfl) w_lit) rfl
theorem attach_call {l:OpenLaw} {n:Nat} {q:aP} {z:List Str} {XP:(Str->Option aB)->Heap->Prop} {YP:aO->Heap->Prop} {d:DefRec}
  (hn:l.most=some n) (a5:d.params.defaults=[])
  (call:∀ (w:aO) (s₀ j:aC) (mg mb:Str->Option aB) (Z:aA) (o:Obj) (pm cd B:aB) (a:aA) (vs:List aB) (ns:List Int),
   Ground q z [] XP w s₀ mg mb j.heap->YP w j.heap ->
   j.heap.get? Z=some o->o.data=.func (docDef d.name d.params d.body d.scope pm cd B)->j.heap.CodeRec cd d.name->mg d.name=some (.ref Z) ->
   j.heap.get? a=some { cls:=.type "list",data:=.seq vs.toArray }->IntsAre vs ns->ns.length<=n->j.gens=#[] ->
   codeAny (aJ l.prog w) callerA (.call (.ref Z) ⟨[.ref a],[]⟩) (fun r s'=>r=.ok (.ret (.bool true))/\OldK j.heap s'.heap/\s'.os=j.os/\AllBare s'.gens) j) :
  WalkO q z XP YP l.row.toRowW d [] (fun f vs=>ek f vs):=by
 intro w s₀ j mg mb G Y Z o pm cd B dV kV ho hd a2 hD a4 hg args a7 as J a6 a9 a3 a8;obtain rfl:dV=.none:=Dflts.none hD a5;obtain rfl:kV=.none:=Dflts.noKw hD;obtain ⟨a,vs,ns,rfl,rfl,U,I,O⟩:=Qi4 hn J a3;refine enter_call (bH (call w s₀ j mg mb Z o pm cd B a vs ns G Y ho (fd_plain hd) a2 a4 U I O hg) fun r s' hq=>?_)
 obtain ⟨rfl,h2,h3,h4⟩:=hq;exact ⟨.inl ⟨.bool true,.bool true,[],rfl,fun _=>rfl,.bool true,Qib l _,fun _=>⟨List.Pairwise.nil,fun _ hm=>(nomatch hm)⟩⟩,h2,h3,h4⟩
end Att
namespace L2
open PySem PySem.Spec PyProof.Rows
theorem Q9w:∀ {vs:List aB} {ns:List Int},IntsAre vs ns->Vals (ns.map V.int) vs
 | _,_,.nil=>.nil
 | _,_,.cons n t h=>.cons ⟨t,rfl⟩ (Q9w h)
def Qxm (H:Hp):Prop:=∀ b,H b=none\/∃ o xs,H b=some (.frz o (.lst xs))
theorem Qnq {P:aP} {w:aO} {K:bU} {mg mb:Str->Option aB} {CX:CXT} {k:Nat} {fa a:aA} {fd:aN} {x:Str} {sp:Sp} {j:aC} {vs:List aB} {ns:List Int}
  (KX:K.In j.heap) (a2:j.heap.Ns aS mg) (G:j.heap.Ns builtinsNs mb) (a6:∀ x:Str,x≠"__name__" -> mb x=aZ x) (a3:j.heap.NoLimit) (hg:j.gens=#[])
  (ha:j.heap.get? a=some { cls:=.type "list",data:=.seq vs.toArray }) (hi:IntsAre vs ns) (hl:ns.length<=sizeLine) (hr:Room k callerA)
  (F:∀ base:Heap,K.In base->base.Ns aS mg->FnOk P w K mg base CX k fa fd [x] sp) (O:∀ (s:aC) (u:aB),BindsTo s fd ⟨[u],[]⟩ [(x,u)])
  (a7:∀ H:Hp,Qxm H->SqL K H a (ns.map V.int)->sp [.ref a] H (fun v _=>v=.bl true) fun _ _ _=>False)
  (a9:∀ H e s',CX [] H j (fun _ _ _=>False) e s'->False) :
  codeAny (aJ P w) callerA (.call (.ref fa) ⟨[.ref a],[]⟩) (fun r s'=>r=.ok (.ret (.bool true))/\OldK j.heap s'.heap/\s'.os=j.os/\AllBare s'.gens) j:=by
 have rv:=Q9w hi;have a4:=hi.length;have J:∀ H:Hp,Qxm H->SqL K H a (ns.map V.int)->HOk P w H j.heap->(∀ b,H b≠none->b=a)->(H a≠none->K.lookup a=none) ->
   codeAny (aJ P w) callerA (.call (.ref fa) ⟨[.ref a],[]⟩) (fun r s'=>r=.ok (.ret (.bool true))/\OldK j.heap s'.heap/\s'.os=j.os/\AllBare s'.gens) j:=by
  intro H hO hS hok hA hK;have B:∀ {b:aA} {o:Obj},j.heap.get? b=some o->H b=none->(Qc1 j.heap H).get? b=some o:=fun e n=>Qnv e n
  have a8:∀ {b:aA} {o:Obj} {es:Array DictEntry} {U:Nat},j.heap.get? b=some o->o.data=.dict es U->H b=none:=fun {b o es U} e d=>by
   cases q:H b with
   | none=>rfl
   | some u=>
    have e':b=a:=hA b (by rw [q]; simp);subst e';rw [ha] at e; cases e;have d':Data.seq vs.toArray _=Data.dict es U:=d;cases d'
  have I:∀ {b:aA} {m:Str->Option aB},j.heap.Ns b m->(Qc1 j.heap H).Ns b m:=fun {b m} ⟨o,es,U,e,d,r⟩=>⟨o,es,U,B e (a8 e d),d,r⟩
  have a5:K.In (Qc1 j.heap H):=fun b o e=>B (KX b o e) (by
   cases q:H b with
   | none=>rfl
   | some u=>
    have e':b=a:=hA b (by rw [q]; simp);subst e';rw [hK (by rw [q]; simp)] at e; cases e)
  have hM:Mod K mg (Qc1 j.heap H):=⟨a5,I a2,⟨mb,I G,a6⟩,let ⟨mc,h1,h2⟩:=a3; ⟨mc,I h1,h2⟩⟩;have e0:Env0 P w K mg (Qc1 j.heap H) callerA [] j H:=⟨rfl,hM,fun b o e=>Qsc e,eO (Qj8 _ _),trivial,fun b G=>absurd (show b∈([]:List aA) from G) (by simp),hok,.of_eq hg⟩;refine bH ((F _ a5 (I a2)).run callerA [] j H ⟨[.ref a],[]⟩ [.ref a] [.ref a] _ _ hr e0 (O j (.ref a)) (.cons rfl .nil) (a7 H hO hS)) fun r s' h=>?_
  cases r with
  | error e=>exact (a9 H e s' h).elim
  | ok fl=>
   cases fl with
   | next=>exact False.elim h
   | brk=>exact False.elim h
   | cont=>exact False.elim h
   | ret u=>
    obtain ⟨v,H',os,bare,un,Z,r',q⟩:=h;have q':v=.bl true:=q;subst q';obtain rfl:u=cC true:=r';refine ⟨rfl,OldK.of_keep fun b o e=>?_,os,bare⟩;cases q:H b with
    | none=>exact un.keep b o e q (by intro z; exact absurd (show b∈([]:List aA) from z) (by simp)) (by simp)
    | some u=>
     rcases hO b with z | ⟨ob,xs,z⟩
     ·rw [q] at z; cases z
     ·have z2:=un.frzs b ob _ z;obtain ⟨e1,_⟩:=hok b _ z;obtain ⟨e2,_⟩:=Z b _ z2;rw [e] at e1; cases e1;exact e2
 cases hk:K.lookup a with
 | some o=>
  have e:=KX a o hk;rw [ha] at e;cases e;refine J (fun _=>none) (fun _=>.inl rfl) (.inr ⟨_,vs.toArray,_,hk,rfl,rfl,rfl,by rw [O3,a4]; exact hl,by simpa using rv⟩) (fun b u z=>by have Y:(none:Option HO)=some u:=z; cases Y) (fun b z=>absurd rfl z) fun z=>absurd rfl z
 | none=>
  refine J (fun b=>if b=a then some (.frz { cls:=.type "list",data:=.seq vs.toArray } (.lst (ns.map V.int))) else none) (fun b=>?_) (.inl (.inr ⟨{ cls:=.type "list",data:=.seq vs.toArray },bO rfl⟩)) (fun b u z=>?_) (fun b z=>?_) fun _=>hk
  ·by_cases G:b=a
   ·exact .inr ⟨_,_,bO G⟩
   ·exact .inl (bP G)
  ·by_cases G:b=a
   ·have Y:=(bO G).symm.trans z;cases Y;subst G;exact ⟨ha,by rw [O2]; exact hl,vs,_,rv,ha⟩
   ·have Y:=(bP G).symm.trans z;cases Y
  ·by_cases G:b=a
   ·exact G
   ·exact absurd (bP G) z
theorem walk_of {l:eu} {n k:Nat} {q:aP} {z:List Str} {XP:(Str->Option aB)->Heap->Prop} {YP:aO->Heap->Prop} {d:DefRec} {K:Params->bU} {CX:aO->CXT} {sp:aO->Sp} {x:Str}
  (hn:l.most=some n) (U:n<=sizeLine) (a4:d.params.defaults=[]) (hr:Room k callerA)
  (hY:∀ (w:aO) (h:Heap),YP w h->(K w.params).In h)
  (F:∀ (w:aO) (mg:Str->Option aB) (O:aA) (h:Heap),(K w.params).In h->h.Ns aS mg->mg d.name=some (.ref O) ->
   ∃ fd:aN,(∀ (s:aC) (u:aB),BindsTo s fd ⟨[u],[]⟩ [(x,u)]) /\
    ∀ base:Heap,(K w.params).In base->base.Ns aS mg->FnOk l.prog w (K w.params) mg base (CX w) k O fd [x] (sp w))
  (a2:∀ (w:aO) (H:Hp) (a:aA) (ns:List Int),ns.length<=n->Qxm H->SqL (K w.params) H a (ns.map V.int)->sp w [.ref a] H (fun v _=>v=.bl true) fun _ _ _=>False)
  (a3:∀ (w:aO) (H:Hp) (s:aC) (e:aB) (s':aC),CX w [] H s (fun _ _ _=>False) e s'->False) :
  fw q z XP YP l.row.toRowW d [] (fun f vs=>ek f vs):=by
 refine Att.attach_call hn a4 fun w s₀ J mg mb O o pm cd a6 a vs ns G Y ho hd a5 Z I B j hg=>?_
 have KX:=hY w _ Y;obtain ⟨fd,hb,hF⟩:=F w mg O _ KX G.T.g Z;exact Qnq KX G.T.g G.T.b G.T.builtins G.T.nolimit hg I B (F1 j U) hr hF hb (fun H hO hS=>a2 w H a ns j hO hS) fun H e s'=>a3 w H J e s'
def Xi (s:aK) (j:Nat):aK:=match s with
 | .ClassDef _ _ _ body _ _ _ _ _ _ _=>body.getD j (.Pass ⟨0,0,0,0⟩)
 | _=>.Pass ⟨0,0,0,0⟩
def Wn (s:aK):Arguments:=match s with
 | .FunctionDef _ a _ _ _ _ _ _ _ _=>a
 | _=>{ posonlyargs:=[],args:=[],vararg:=none,kwonlyargs:=[],kw_defaults:=[],kwarg:=none,defaults:=[] }
def Yd (s:aK):List aK:=match s with
 | .FunctionDef _ _ b _ _ _ _ _ _ _=>b
 | _=>[]
def Q6 (s:aK):Scope:=match s with
 | .FunctionDef _ _ _ _ _ _ sc _ _ _=>sc
 | _=>{ kind:=.function,names:=[],isGenerator:=false,isCoroutine:=false }
abbrev CX0:CXT:=fun _ _ _ _ _ _=>False
abbrev E0:XK:=fun _ _ _=>False
structure Fun (K:bU) (x qual:Str) (st:aK) (f:aA) (fd:aN):Prop where
 ex:∃ (oc:aB) (od:Option aA) (kV doc pm:aB) (an:Option aA) (cdv ct:aB) (osl:Array (Option aB)),
  fd=bg x qual (Wn st) (Yd st) (Q6 st) .none kV doc pm an cdv ct/\K.lookup f=some ⟨oc,od,.func fd,osl⟩/\bx K cdv qual=true
 kp:bi K (.ref f)=true
section
variable {P:aP} {w:aO} {K:bU} {mg:Str->Option aB} {base:Heap}
theorem Fun.ok {x qual:Str} {st:aK} {f:aA} {fd:aN} {N ps:List Str} {k:Nat} {sp:Sp} (F:Fun K x qual st f fd) (S:FnScope N ps (Q6 st)) (len:∀ vs H Q E,sp vs H Q E->vs.length=ps.length)
  (z:∀ (j:aB) (A:aR) (outer:List Env) (s:aC) (H:Hp) (vs:List V) (Q:VK) (E:XK),Room k (A.deeper (envOfC qual (Q6 st) s.heap.objs.size f j))->sp vs H Q E ->
   ∃ t,PSs (Qg6 CX0 P w K mg base N qual (Q6 st) f j A outer s H E).nox (Yd st) t/\t { nx:=fun _ H'=>Q .non H',rt:=Q } (start N vs) H):FnOk P w K mg base CX0 (k + 1) f fd ps sp:=by
 obtain ⟨U,Z,kV,O,Y,an,j,ct,I,rfl,lk,B⟩:=F.ex;refine Qud lk B S len fun A outer s H vs Q E J G=>?_
 obtain ⟨t,h,q⟩:=z j A outer s H vs Q E J G;exact ⟨t,h.nox,q⟩
theorem Fun.binds {x qual:Str} {st:aK} {f:aA} {fd:aN} {ps:List Str} (F:Fun K x qual st f fd)
  (h:∀ (kV q z:aB) (an:Option aA) (j ct:aB) (us:List aB),us.length=ps.length->bindArgs (bg x qual (Wn st) (Yd st) (Q6 st) .none kV q z an j ct) ⟨us,[]⟩=pure (ps.zip us)):Binds K fd ps []:=by
 obtain ⟨I,J,kV,q,z,an,j,ct,B,rfl,lk,G⟩:=F.ex;exact .all (h kV q z an j ct)
theorem Qg1 {x qual:Str} {st:aK} {f:aA} {G:aB} {I an:Option aA} {z:Array (Option aB)} {kV q B j ct:aB} (l:K.lookup f=some ⟨G,I,.func (bg x qual (Wn st) (Yd st) (Q6 st) .none kV q B an j ct),z⟩)
  (c:bx K j qual=true) (k:bi K (.ref f)=true):Fun K x qual st f (bg x qual (Wn st) (Yd st) (Q6 st) .none kV q B an j ct):=⟨⟨G,I,kV,q,B,an,j,ct,z,rfl,l,c⟩,k⟩
end
section
variable {X:Cx}
theorem pv (i:Nat) {x:Str} {pos:Pos} (z:X.N[i]?=some x:=by rfl) (q:Vis X.env.scope x:=by first | exact Or.inl rfl | exact Or.inr (Or.inl rfl) | exact Or.inr (Or.inr rfl)) (hd:(x == ("__debug__" : Str))=false:=by decide)
  (j:(x == ("__classdict__" : Str))=false:=by decide):PE X (.Name x pos) (Qus i):=Qmk z q hd j
end
def Same (H H':Hp):Prop:=∀ b o,H b=some o->H' b=some o
theorem Same.refl (H:Hp):Same H H:=fun _ _ h=>h
def Qtx (lo c:Int) (n:Nat):It:=⟨fun i _=>i < n,fun i H x H'=>H'=H/\x=.int (lo + i * c),fun i _=>n<=i⟩
theorem Qcm {P:aP} {w:aO} {K:bU} {tg:aD} (j:aA) (lo c:Int) (n:Nat):Turn P w K tg (Qtx lo c n) [j] j (fun i h=>IsRangeIter h j (lo + (i:Nat) * c) ((n:Int) - (i:Nat)) c) where
 mem:=by simp
 obj:=fun i h st b q=>by
  have e:b=j:=by simpa using q
  subst e;exact ⟨_,st,fun v z=>by
   have z':Data.fields _=Data.cell v:=z;cases z'⟩
 keep:=fun i h h' st k=>k j (by simp) _ st
 item:=by
  intro X Y U Z hc i pins s σ H E I B st G;subst Y U Z;obtain ⟨O,J,f2,f3,f4,f5⟩:=B j (by simp);have W:=Walks.range (prog:=X.prog) (w:=X.w) (I.ok.hd hc) j lo c n;refine W.item i s _ _ G st fun v h' tk hv st' kk=>?_
  obtain ⟨t,rfl⟩:=hv;have I1:Inv X pins σ H { s with heap:=h',toks:=tk }:=I.turned (fun b o q e=>kk b o (by simpa using q) e) O J f3 f4 f5
  exact ⟨_,rfl,Qhc (s:={ s with heap:=h',toks:=tk }) (n := "range_iterator") st' rfl rfl (by decide) ⟨.int (lo + i * c),H,I1,⟨t,rfl⟩,⟨rfl,rfl⟩,st',fun b q=>(B b q).1⟩⟩
 done:=by
  intro X Y U Z hc i pins s σ H E I B st G;subst Y U Z;obtain ⟨O,J,f2,f3,f4,f5⟩:=B j (by simp);exact wpAny_pyNext_range_end (I.ok.hd hc) st (by have:n<=i:=G; omega) fun h' eb=>⟨rfl,I.turned (t':=s.toks) (fun b o q e=>eb b o q e) O J f3 f4 f5⟩
 self:=fun _ _ _ _ _ st h=>wpAny_pyIter_rangeiter st h
section
variable {X:Cx} {tg:aD}
def rsz (a b c:Int):Nat:=(Builtin.Range.rangeSize a b c).toNat
theorem Qf6 (a b c:Int):0<=Builtin.Range.rangeSize a b c:=by
 unfold Builtin.Range.rangeSize
 split
 ·split
  ·rename_i h1 h2;have:=fx (show 0<=b - a - 1 by omega) (show 0<=c by omega);omega
  ·omega
 ·split
  ·rename_i h1 h2;have:=fx (show 0<=a - b - 1 by omega) (show 0<=-c by omega);omega
  ·omega
theorem Qm3 {a b c:Int} (j:c≠0) {M:Int} (h0:0<=M) (h1:b - a<=M) (h2:a - b<=M):Builtin.Range.rangeSize a b c<=M:=by
 unfold Builtin.Range.rangeSize
 split
 ·split
  ·rename_i p q;have:=fy c (show 0<=b - a - 1 by omega);omega
  ·exact h0
 ·split
  ·rename_i p q;have:=fy (-c) (show 0<=a - b - 1 by omega);omega
  ·exact h0
theorem Qi5 {pins:List (aA × Obj)} {σ:St} {H:Hp} {s:aC} {R:It->Hp->Prop} {E:aB->aC->Prop} {lo hi c:Int} {t u v:Tok} {tk:Nat} (I:Inv X pins σ H s) (hs:Builtin.Range.small lo hi c=true)
  (q:R (Qtx lo c (rsz lo hi c)) H):aI (aJ X.prog X.w) X.A (pyIter (.ref s.heap.objs.size)) (PIE X pins σ tg R) E { s with heap:=s.heap.push { cls:=.type "range",data:=.fields #[.int lo t,.int hi u,.int c v] },toks:=tk }:=by
 refine wpAny_pyIter_range (IsRange.new ..) hs ?_;have j:Inv X pins σ H { s with heap:=s.heap.push { cls:=.type "range",data:=.fields #[.int lo t,.int hi u,.int c v] },toks:=tk }:=I.kept fun b o e=>O1 _ e
 refine ⟨(s.heap.push { cls:=.type "range",data:=.fields #[.int lo t,.int hi u,.int c v] }).objs.size,[(s.heap.push { cls:=.type "range",data:=.fields #[.int lo t,.int hi u,.int c v] }).objs.size],_,_,H,rfl,
  j.kept (t':=tk) fun b o e=>O1 _ e,Qcm _ lo c (rsz lo hi c),?_,fun b z=>?_,q⟩
 ·have e1:lo + ((0:Nat):Int) * c=lo:=by simp
  have e2:(((rsz lo hi c:Nat):Int)) - ((0:Nat):Int)=Builtin.Range.rangeSize lo hi c:=by unfold rsz; have:=Qf6 lo hi c; omega
  show IsRangeIter _ _ (lo + ((0:Nat):Int) * c) ((rsz lo hi c:Int) - ((0:Nat):Int)) c;rw [e1,e2];exact D7 _ rfl
 ·have e:b=(s.heap.push { cls:=.type "range",data:=.fields #[.int lo t,.int hi u,.int c v] }).objs.size:=by simpa using z
  subst e;exact j.fpOk (O7 _) (j.hok.fresh (O7 _))
def J03 (ta:TA):TI:=fun σ H R=>ta σ H fun vs H1=>∃ i j c:Int,vs=[.int i,.int j,.int c]/\(c≠0/\-1000000<=i/\i<=1000000/\-1000000<=j/\j<=1000000/\-1000000<=c/\c<=1000000)/\R (Qtx i c (rsz i j c)) H1
theorem Qan {a:Int} (h1:-(2 ^ 62)<=a) (h2:a < 2 ^ 62):Builtin.Range.rangeFitsLong a=true:=by
 unfold Builtin.Range.rangeFitsLong;simp only [G7,decide_eq_true_eq];omega
theorem Qv3 {a b c:Int} (j:c≠0) (h1:-1000000<=a) (h2:a<=1000000) (G:-1000000<=b) (z:b<=1000000) (q:-1000000<=c) (J:c<=1000000):Builtin.Range.small a b c=true:=by
 have I:=Qf6 a b c;have B:=Qm3 (a:=a) (b:=b) j (M:=2000000) (by omega) (by omega) (by omega);unfold Builtin.Range.small;rw [Qan (a:=a) (by omega) (by omega),Qan (a:=b) (by omega) (by omega),Qan (a:=c) (by omega) (by omega),Qan (by omega) (by omega)]
 split
 ·rw [Qan (by omega) (by omega)]; simp
 ·rw [Qan (by omega) (by omega)]; simp
theorem Qic {a b c:aD} {ta:TA} {p pos:Pos} (Y:Gl X "range") (hm:X.mg "range" = none) (ha:PA X [a,b,c] ta) (hs:aM [a,b,c] X.env=[(false,aL a X.env),(false,aL b X.env),(false,aL c X.env)]:=by rfl) (z:aM [b,c] X.env=[(false,aL b X.env),(false,aL c X.env)]:=by rfl) :
  PI X tg (.Call (.Name "range" p) [a,b,c] [] pos) (J03 ta):=by
 intro pins s σ H R I h;refine Call_ (Q1w I Y hm boot_range (ce (thn (ha pos pins s σ H _ I h) fun us s1 ⟨vs,H1,I1,r1,q1⟩=>?_) (by rw [hs,z]) (by rw [z]; rfl)))
 obtain ⟨i,j,c,e,⟨J,q1,q2,q3,O,q5,U⟩,q⟩:=q1;subst e;cases r1 with
 | cons r B=>
  cases B with
  | cons Z B=>
   cases B with
   | cons G B=>
    cases B;obtain ⟨t,rfl⟩:=r;obtain ⟨t',rfl⟩:=Z;obtain ⟨a2,rfl⟩:=G;refine call_range_3 J (Qi5 I1 (Qv3 J q1 q2 q3 O q5 U) q) (.inl ?_);exact PyProof.noPylong_small (by omega)
end
theorem Qg7 {scope:Scope} {env:Env} (h:∀ x∈scope.names,x.2=.free->∃ c,env.cells.lookup x.1=some c) :
  ∃ cl,closureFor scope env=pure cl/\(∀ x c,cl.lookup x=some c->env.cells.lookup x=some c)/\(∀ x∈scope.names,x.2=.free->∃ c,cl.lookup x.1=some c):=by
 have a2:∀ (l:List (Str × ao)) (j:List (Str × aA)),(∀ x∈l,x.2=.free->∃ c,env.cells.lookup x.1=some c)->(∀ x c,j.lookup x=some c->env.cells.lookup x=some c) ->
   ∃ cl,(forIn l j fun (x:Str × ao) (r:List (Str × aA))=>(match x with
    | (name,kind)=>if (kind == NameKind.free)=true then (do let c <- cellOf env name; pure (ForInStep.yield ((name,c) :: r))) else (do pure PUnit.unit; pure (ForInStep.yield r)):Sem (ForInStep (List (Str × aA)))))=pure cl /\
    (∀ x c,cl.lookup x=some c->env.cells.lookup x=some c)/\(∀ x∈l,x.2=.free->∃ c,cl.lookup x.1=some c)/\(∀ x c,j.lookup x=some c->∃ B,cl.lookup x=some B):=by
  intro l
  induction l with
  | nil=>intro j _ U; exact ⟨j,rfl,U,fun x J=>(by simp at J),fun x c e=>⟨c,e⟩⟩
  | cons x r ih=>
   intro j Z U;obtain ⟨n,k⟩:=x
   by_cases Y:k=.free
   ·subst Y;obtain ⟨c,hc⟩:=Z (n,.free) D6 rfl;have a3:∀ x B,((n,c) :: j).lookup x=some B->env.cells.lookup x=some B:=fun x B e=>by
     rw [E6] at e
     by_cases J:x=n
     ·subst J; simp at e; rw [<- e]; exact hc
     ·have:(x == n)=false:=by simpa using J
      rw [this] at e; exact U x B e
    obtain ⟨cl,e1,e2,e3,I⟩:=ih ((n,c) :: j) (fun y q=>Z y (D1 _ q)) a3
    refine ⟨cl,?_,e2,fun y q O=>?_,fun y B e=>?_⟩
    ·rw [dh];have G:cellOf env n=pure c:=by unfold cellOf; rw [hc]
     simp only [beq_self_eq_true,if_true,G];exact e1
    ·rcases E3.mp q with e | q
     ·subst e;exact I n c (by simp)
     ·exact e3 y q O
    ·by_cases q:y=n
     ·subst q; exact I y c (by simp)
     ·have:(y == n)=false:=by simpa using q
      exact I y B (by rw [E6,this]; exact e)
   ·obtain ⟨cl,e1,e2,e3,I⟩:=ih j (fun y q=>Z y (D1 _ q)) U
    refine ⟨cl,?_,e2,fun y q O=>?_,I⟩
    ·rw [dh];have:(k == NameKind.free)=false:=by simpa using Y
     simp only [this,gB,if_false];exact e1
    ·rcases E3.mp q with e | q
     ·subst e; exact absurd O Y
     ·exact e3 y q O
 obtain ⟨cl,e1,e2,e3,_⟩:=a2 scope.names [] h (fun x c e=>by simp at e);refine ⟨cl,?_,e2,e3⟩;unfold closureFor;exact (congrArg (fun z=>z >>= pure) e1).trans rfl
theorem Q4b (f:Str->ao->ao) (x:Str):∀ l:List (Str × ao),(l.map fun y=>(y.1,f y.1 y.2)).lookup x=(l.lookup x).map (f x)
 | []=>rfl
 | (n,k) :: r=>by
  have z:=Q4b f x r;rw [F7,E6,E6]
  by_cases j:x=n
  ·subst j; simp
  ·have q:(x == n)=false:=by simpa using j
   rw [q]; exact z
theorem Q1j {scope:Scope} {env:Env} {x:Str}:(relabel scope env).names.lookup x =
  (scope.names.lookup x).map fun k=>if (k == .free && env.scope.kind == .function && env.kindOf x == some .cell) then .cell else k:=by
 rw [<- Q4b (fun n k=>if (k == .free && env.scope.kind == .function && env.kindOf n == some .cell) then .cell else k)]
 unfold relabel;refine congrArg (bv x) (dE fun y _=>?_);obtain ⟨n,k⟩:=y;show (if (k == NameKind.free && env.scope.kind == .function && env.kindOf n == some .cell)=true then (n,NameKind.cell) else (n,k))=_
 split <;> rfl
def Q4i (cap:List (Option Nat)) (σ:St):St:=cap.map fun c=>c.bind fun j=>(σ[j]?).join
section
variable {X:Cx}
theorem HOk.same {P:aP} {w:aO} {H:Hp} {h h':Heap} {a:aA} (ok:HOk P w H h) (z:H a=none) (hs:Heap.SameBut a h h'):HOk P w H h':=fun b ob e=>by
 refine (ok b ob e).stay (fun c B j q=>(hs.2 c ?_).trans q) (fun _ q=>q) fun _ _ q=>q
 rintro rfl;rcases j with rfl | j
 ·rw [z] at e; cases e
 ·rw [z] at j; cases j
end
def HasItems (t:Bool) (h:Heap) (a:aA) (items:Array aB):Prop:=if t=true then h.IsTuple a items else h.IsList a items
def IterAt (t:Bool) (h:Heap) (it a:aA) (i:Nat):Prop:=if t=true then h.IsTupleIter it a i else h.IsListIter it a i
theorem HasItems.at {t:Bool} {h h':Heap} {a:aA} {j:Array aB} (x:HasItems t h a j) (k:∀ o,h.get? a=some o->h'.get? a=some o):HasItems t h' a j:=by
 cases t
 ·exact Heap.IsList.at x k
 ·obtain ⟨o,e,r⟩:=x;exact ⟨o,k o e,r⟩
theorem HasItems.there {t:Bool} {h:Heap} {a:aA} {j:Array aB} (x:HasItems t h a j):∃ o,h.get? a=some o:=by
 cases t
 ·obtain ⟨o,e,_⟩:=x; exact ⟨o,e⟩
 ·obtain ⟨o,e,_⟩:=x; exact ⟨o,e⟩
theorem IterAt.at {t:Bool} {h h':Heap} {j a:aA} {i:Nat} (x:IterAt t h j a i) (k:∀ o,h.get? j=some o->h'.get? j=some o):IterAt t h' j a i:=by
 cases t
 ·exact Heap.IsListIter.at x k
 ·obtain ⟨o,e,r⟩:=x;exact ⟨o,k o e,r⟩
theorem IterAt.there {t:Bool} {h:Heap} {j a:aA} {i:Nat} (x:IterAt t h j a i):∃ o,h.get? j=some o/\∀ v,o.data≠.cell v:=by
 cases t
 ·obtain ⟨o,e,_,d⟩:=x; exact ⟨o,e,fun v z=>by rw [d] at z; cases z⟩
 ·obtain ⟨o,e,_,d⟩:=x; exact ⟨o,e,fun v z=>by rw [d] at z; cases z⟩
section
variable {prog:aP} {w:aO} {A:aR} {E:aB->aC->Prop} {s:aC}
theorem Q44 {q l:aA} {i:Nat} {items} {x:aB} {Q:aB->aC->Prop} (j:s.heap.IsTupleIter q l i)
  (U:s.heap.IsTuple l items) (O:items[i]?=some x)
  (I:∀ h',h'.IsTupleIter q l (i + 1)->Heap.SameBut q s.heap h'->Q x { s with heap:=h' }) :
  aI (aJ prog w) A (Builtin.SmallTypes.nextOf (.ref q)) Q E s:=by
 obtain ⟨o,z,J,hd⟩:=id j;obtain ⟨Y,B,_,nl,G⟩:=U;unfold Builtin.SmallTypes.nextOf;refine aF (wpAny_callSpecial?_slot (name:=bT "__next__") j.typeIs F.slot_tuple_iterator_next
  (bD F.slot_tuple_iterator_next j.typeIs F.entry_tuple_iterator_next ?_ (F.args_tuple_iterator_next_1 _)))
 show aI _ _ (field (.ref q) 0 >>= _) _ _ s;refine aF (aX z hd (x:=.ref l) rfl ?_);show aI _ _ (if (bW l == bb)=true then _ else _) _ _ s;rw [bP (show ¬ ((bW l == bb)=true) from E5)];show aI _ _ (field (.ref q) 1 >>= _) _ _ s;refine aF (aX z hd (x:=.int i 0) rfl ?_);show aI _ _ (seqItems? (.ref l) >>= _) _ _ s;refine aF (bA B G ?_);simp only [cA,O];refine aF (wpAny_setField z hd (by simp) (aQ ⟨x,rfl,aQ (I _ ?_ (Heap.SameBut.update ..))⟩));exact ⟨_,L8 _ z (dF (cB hd _)),(ez ..).trans J,by
  rw [cB hd]; simp [aa]⟩
theorem Q57 {q l:aA} {i:Nat} {items} {Q:aB->aC->Prop} (I:A.handled=none)
  (j:s.heap.IsTupleIter q l i) (U:s.heap.IsTuple l items) (J:items[i]?=none)
  (O:∀ h' e,Heap.ExtBut q s.heap h'->(∃ o,h'.get? e=some o/\o.cls=.type "StopIteration")->E (.ref e) { s with heap:=h' }) :
  aI (aJ prog w) A (Builtin.SmallTypes.nextOf (.ref q)) Q E s:=by
 obtain ⟨o,z,Y,hd⟩:=id j;obtain ⟨Z,B,_,nl,G⟩:=U;unfold Builtin.SmallTypes.nextOf;refine aF (wpAny_callSpecial?_slot (name:=bT "__next__") j.typeIs F.slot_tuple_iterator_next
  (bD F.slot_tuple_iterator_next j.typeIs F.entry_tuple_iterator_next ?_ (F.args_tuple_iterator_next_1 _)))
 show aI _ _ (field (.ref q) 0 >>= _) _ _ s;refine aF (aX z hd (x:=.ref l) rfl ?_);show aI _ _ (if (bW l == bb)=true then _ else _) _ _ s;rw [bP (show ¬ ((bW l == bb)=true) from E5)];show aI _ _ (field (.ref q) 1 >>= _) _ _ s;refine aF (aX z hd (x:=.int i 0) rfl ?_);show aI _ _ (seqItems? (.ref l) >>= _) _ _ s;refine aF (bA B G ?_);simp only [cA,J];refine aF (bL (aF (wpAny_setField z hd (by simp) ?_)));show aI _ _ (newExc (.type "StopIteration") [] >>= _) _ _ _;refine aF ?_;simp only [newExc,newTuple];refine aF (av ?_ (by size_fits));refine aF (m:=firstArgMember _ _) (wpAny_of_eq (a:=bb) (by first | rfl | (simp only [firstArgMember]; rfl)) ?_);refine av ?_ (by size_fits);simp only [raiseNew]
 refine aF (wpAny_handled ?_)
 first | rw [show A.in1.handled=none from I] | rw [I]
 refine aF (aQ (wpAny_throw ?_));exact O _ _ (((Heap.SameBut.update ..).extBut.push _).push _) ⟨_,D7 _ rfl,rfl⟩
theorem jy {t:Bool} {z l:aA} {i:Nat} {j:Array aB} {x:aB} {Q:aB->aC->Prop} (q:IterAt t s.heap z l i)
  (I:HasItems t s.heap l j) (G:j[i]?=some x)
  (B:∀ h',IterAt t h' z l (i + 1)->Heap.SameBut z s.heap h'->Q x { s with heap:=h' }) :
  aI (aJ prog w) A (Builtin.SmallTypes.nextOf (.ref z)) Q E s:=by
 cases t
 ·exact wpAny_nextOf_list_item q I G B
 ·exact Q44 q I G B
theorem Q09 {t:Bool} {z l:aA} {i:Nat} {j:Array aB} {Q:aB->aC->Prop} (G:A.handled=none)
  (q:IterAt t s.heap z l i) (J:HasItems t s.heap l j) (B:j[i]?=none)
  (I:∀ h' e,Heap.ExtBut z s.heap h'->(∃ o,h'.get? e=some o/\o.cls=.type "StopIteration")->E (.ref e) { s with heap:=h' }) :
  aI (aJ prog w) A (Builtin.SmallTypes.nextOf (.ref z)) Q E s:=by
 cases t
 ·exact wpAny_nextOf_list_end G q J B I
 ·exact Q57 G q J B I
def Xh (t:Bool) (l:aA):Obj:=if t=true then { cls:=.type "tuple_iterator",data:=.fields #[.ref l,.int 0 0] } else { cls:=.type "list_iterator",data:=.fields #[.ref l,.int 0 0] }
theorem Uy {t:Bool} {l:aA} {j:Array aB} {Q:aB->aC->Prop} (z:HasItems t s.heap l j)
  (q:Q (.ref s.heap.objs.size) { s with heap:=s.heap.push (Xh t l) }):aI (aJ prog w) A (pyIter (.ref l)) Q E s:=by
 cases t
 ·exact wpAny_pyIter_list z q
 ·exact bJ z q
theorem Q3r {t:Bool} {h:Heap} {j l:aA} (e:h.get? j=some (Xh t l)):IterAt t h j l 0:=by
 cases t
 ·exact ⟨_,e,rfl,rfl⟩
 ·exact ⟨_,e,rfl,rfl⟩
theorem Q0j (t:Bool) (l:aA):(Xh t l).isFreed=false:=by cases t <;> rfl
theorem Qhq {t1 t2:Bool} {z TI TO i1 i2 l1 l2:aA} {k1 k2:Nat} {xs ys:Array aB} {x y a b:aB} {Q:aB->aC->Prop} (D:ZipApart z TI TO i1 i2 l1 l2)
  (hz:IsZip s.heap z TI TO .none) (d0:aY s.heap TI (.ref i1) (.ref i2)) (c8:aY s.heap TO a b)
  (h1:IterAt t1 s.heap i1 l1 k1) (h2:IterAt t2 s.heap i2 l2 k2) (d1:HasItems t1 s.heap l1 xs) (c9:HasItems t2 s.heap l2 ys) (hx:xs[k1]?=some x) (hy:ys[k2]?=some y)
  (hQ:∀ h',IsZip h' z TI TO (aa s.heap.objs.size)->aY h' TO x y->IterAt t1 h' i1 l1 (k1 + 1)->IterAt t2 h' i2 l2 (k2 + 1)->aY h' s.heap.objs.size x y->h'.objs.size=s.heap.objs.size + 1 ->
   (∀ c o,c≠z->c≠TO->c≠i1->c≠i2->s.heap.get? c=some o->h'.get? c=some o)->Q (.ref s.heap.objs.size) { s with heap:=h' }) :
  aI (aJ prog w) A (Builtin.«zip.__next__» ⟨[.ref z],[]⟩) (fun fin s'=>∃ v,fin=.done (.ret v)/\Q v s') E s:=by
 show aI _ _ (field (.ref z) 2 >>= _) _ _ _;refine aF (aX hz rfl (x:=.bool false) rfl ?_);show aI _ _ (field (.ref z) 3 >>= _) _ _ _;refine aF (aX hz rfl (x:=.ref TI) rfl ?_);refine aF (bA d0 rfl ?_);show aI _ _ (Builtin.SmallTypes.ownedTupleIsFree (.ref z) >>= _) _ _ _;refine aF ?_;unfold Builtin.SmallTypes.ownedTupleIsFree;refine aF (aX hz rfl (x:=.none) rfl (aQ ?_));simp only [if_true];refine aF (bL ?_);refine aF (aX hz rfl (x:=.ref TO) rfl ?_);refine aF (bI hz (by simp) fun c0 a3 q=>?_)
 replace a3:IsZip c0 z TI TO .ellipsis:=a3;refine aF ?_;simp only [gC,gD,dh,fA];refine aF (aF (wpAny_onRaise ?_));show aI _ _ (Builtin.SmallTypes.nextOf (.ref i1) >>= _) _ _ _;refine aF (jy (h1.at fun o e=>q.extBut _ _ D.i1z e) (d1.at fun o e=>q.extBut _ _ D.l1z e) hx fun c6 b5 B=>aQ ?_)
 have a7:aY c6 TO a b:=B.extBut _ _ D.TOi1 (q.extBut _ _ D.TOz c8);refine aF (bA a7 rfl ?_);refine aF (wpAny_updateSeq_pair a7 fun c5 Y G=>?_);replace Y:aY c5 TO x b:=Y;refine aF (wpAny_letGo (aQ ?_));refine aF (aF (wpAny_onRaise ?_));show aI _ _ (Builtin.SmallTypes.nextOf (.ref i2) >>= _) _ _ _;refine aF (jy (h2.at fun o e=>G.extBut _ _ D.TOi2.symm (B.extBut _ _ D.i12.symm (q.extBut _ _ D.i2z e)))
  (c9.at fun o e=>G.extBut _ _ D.l2TO (B.extBut _ _ D.l2i1 (q.extBut _ _ D.l2z e))) hy fun b8 b2 J=>aQ ?_)
 have a6:aY b8 TO x b:=J.extBut _ _ D.TOi2 Y;refine aF (bA a6 rfl ?_);refine aF (wpAny_updateSeq_pair a6 fun j I O=>?_);replace I:aY j TO x y:=I;refine aF (wpAny_letGo (aQ (aQ ?_)));refine aF (bA I rfl ?_);refine aF (wpAny_newTuple ?_);have b9:j.objs.size=s.heap.objs.size:=by rw [O.1,J.1,G.1,B.1,q.1]
 have a9:IsZip j z TI TO .ellipsis:=O.extBut _ _ D.TOz.symm (J.extBut _ _ D.i2z.symm (G.extBut _ _ D.TOz.symm (B.extBut _ _ D.i1z.symm a3)));have b1:∀ c o,c≠z->c≠TO->c≠i1->c≠i2->s.heap.get? c=some o->j.get? c=some o:=fun c o c1 c2 c3 c4 e=>
  O.extBut _ _ c2 (J.extBut _ _ c4 (G.extBut _ _ c2 (B.extBut _ _ c3 (q.extBut _ _ c1 e))))
 have b6:IterAt t1 j i1 l1 (k1 + 1):=b5.at fun o e=>O.extBut _ _ D.TOi1.symm (J.extBut _ _ D.i12 (G.extBut _ _ D.TOi1.symm e))
 have b4:IterAt t2 j i2 l2 (k2 + 1):=b2.at fun o e=>O.extBut _ _ D.TOi2.symm e
 have b0:z < j.objs.size:=D0 a9;show aI _ _ (Builtin.SmallTypes.ownedTupleHandOut (.ref z) (.ref j.objs.size) >>= _) _ _ _;refine aF ?_;unfold Builtin.SmallTypes.ownedTupleHandOut;have b3:IsZip (j.push { cls:=.type "tuple",data:=.seq #[x,y] }) z TI TO .ellipsis:=O1 _ a9;refine aF (bI b3 (by simp) fun b7 a5 a4=>?_)
 replace a5:IsZip b7 z TI TO (aa j.objs.size):=a5;refine bI a5 (by simp) fun Z U a2=>?_
 replace U:IsZip Z z TI TO (aa j.objs.size):=U;have up:∀ c o,c≠z->j.get? c=some o->Z.get? c=some o:=fun c o c1 e=>a2.extBut _ _ c1 (a4.extBut _ _ c1 (O1 _ e))
 have a8:aY Z j.objs.size x y:=a2.extBut _ _ (bt b0) (a4.extBut _ _ (bt b0) (D7 _ rfl));have c7:Z.objs.size=j.objs.size + 1:=by rw [a2.1,a4.1,F8]
 rw [b9] at U a8 c7;refine aQ ⟨_,rfl,?_⟩;show Q (.ref j.objs.size) _;rw [b9];exact hQ Z U (up _ _ D.TOz I) (b6.at fun o e=>up _ o D.i1z e) (b4.at fun o e=>up _ o D.i2z e) a8 c7 fun c o c1 c2 c3 c4 e=>up c o c1 (b1 c o c1 c2 c3 c4 e)
theorem Qjz {t1 t2:Bool} {z TI TO i1 i2 l1 l2:aA} {k1 k2:Nat} {xs ys:Array aB} {a b:aB} {Q:Fin->aC->Prop} (hh:A.handled=none) (D:ZipApart z TI TO i1 i2 l1 l2)
  (hz:IsZip s.heap z TI TO .none) (b5:aY s.heap TI (.ref i1) (.ref i2)) (b2:aY s.heap TO a b)
  (h1:IterAt t1 s.heap i1 l1 k1) (h2:IterAt t2 s.heap i2 l2 k2) (b0:HasItems t1 s.heap l1 xs) (b3:HasItems t2 s.heap l2 ys) (a6:xs[k1]?=none\/ys[k2]?=none)
  (hE:∀ h' e,(∀ c o,c≠z->c≠TO->c≠i1->c≠i2->s.heap.get? c=some o->h'.get? c=some o)->(∃ o,h'.get? e=some o/\o.cls=.type "StopIteration")->E (.ref e) { s with heap:=h' }) :
  aI (aJ prog w) A (Builtin.«zip.__next__» ⟨[.ref z],[]⟩) Q E s:=by
 show aI _ _ (field (.ref z) 2 >>= _) _ _ _;refine aF (aX hz rfl (x:=.bool false) rfl ?_);show aI _ _ (field (.ref z) 3 >>= _) _ _ _;refine aF (aX hz rfl (x:=.ref TI) rfl ?_);refine aF (bA b5 rfl ?_);show aI _ _ (Builtin.SmallTypes.ownedTupleIsFree (.ref z) >>= _) _ _ _;refine aF ?_;unfold Builtin.SmallTypes.ownedTupleIsFree;refine aF (aX hz rfl (x:=.none) rfl (aQ ?_));simp only [if_true];refine aF (bL ?_);refine aF (aX hz rfl (x:=.ref TO) rfl ?_);refine aF (bI hz (by simp) fun a8 G j=>?_)
 replace G:IsZip a8 z TI TO .ellipsis:=G;refine aF ?_;simp only [gC,gD,dh,fA];refine aF (aF (wpAny_onRaise ?_));show aI _ _ (Builtin.SmallTypes.nextOf (.ref i1) >>= _) _ _ _;cases hx:xs[k1]? with
 | none=>
  refine aF (Q09 hh (h1.at fun o e=>j.extBut _ _ D.i1z e) (b0.at fun o e=>j.extBut _ _ D.l1z e) hx fun a3 e q he=>?_)
  obtain ⟨oe,I,Z⟩:=he;have a2:IsZip a3 z TI TO .ellipsis:=q _ _ D.i1z.symm G;have a5:e≠z:=fun x=>by subst x; rw [a2] at I; cases I; simp at Z
  refine bI a2 (by simp) fun a4 _ B=>hE a4 e (fun c o c1 _ c3 _ x=>B.extBut _ _ c1 (q _ _ c3 (j.extBut _ _ c1 x))) ⟨oe,B.extBut _ _ a5 I,Z⟩
 | some x=>
  have hy:ys[k2]?=none:=by rcases a6 with h | h; rw [hx] at h; cases h; exact h
  refine aF (jy (h1.at fun o e=>j.extBut _ _ D.i1z e) (b0.at fun o e=>j.extBut _ _ D.l1z e) hx fun a3 b4 q=>aQ ?_)
  have J:aY a3 TO a b:=q.extBut _ _ D.TOi1 (j.extBut _ _ D.TOz b2);refine aF (bA J rfl ?_);refine aF (wpAny_updateSeq_pair J fun a4 b1 B=>?_);refine aF (wpAny_letGo (aQ ?_));refine aF (aF (wpAny_onRaise ?_));show aI _ _ (Builtin.SmallTypes.nextOf (.ref i2) >>= _) _ _ _;refine aF (Q09 hh (h2.at fun o e=>B.extBut _ _ D.TOi2.symm (q.extBut _ _ D.i12.symm (j.extBut _ _ D.i2z e)))
   (b3.at fun o e=>B.extBut _ _ D.l2TO (q.extBut _ _ D.l2i1 (j.extBut _ _ D.l2z e))) hy fun a7 e O he=>?_)
  obtain ⟨oe,I,Z⟩:=he;have Y:IsZip a7 z TI TO .ellipsis:=O _ _ D.i2z.symm (B.extBut _ _ D.TOz.symm (q.extBut _ _ D.i1z.symm G));have a5:e≠z:=fun x=>by subst x; rw [Y] at I; cases I; simp at Z
  refine bI Y (by simp) fun a9 _ U=>hE a9 e (fun c o c1 c2 c3 c4 x=>U.extBut _ _ c1 (O _ _ c4 (B.extBut _ _ c2 (q.extBut _ _ c3 (j.extBut _ _ c1 x))))) ⟨oe,U.extBut _ _ a5 I,Z⟩
theorem Q7y {t1 t2:Bool} {z TI TO j q G B:aA} {k1 k2:Nat} {xs ys:Array aB} {x y a b:aB} {Q:Option aB->aC->Prop} (D:ZipApart z TI TO j q G B)
  (hz:IsZip s.heap z TI TO .none) (O:aY s.heap TI (.ref j) (.ref q)) (I:aY s.heap TO a b)
  (h1:IterAt t1 s.heap j G k1) (h2:IterAt t2 s.heap q B k2) (U:HasItems t1 s.heap G xs) (J:HasItems t2 s.heap B ys) (hx:xs[k1]?=some x) (hy:ys[k2]?=some y)
  (hQ:∀ h',IsZip h' z TI TO (aa s.heap.objs.size)->aY h' TO x y->IterAt t1 h' j G (k1 + 1)->IterAt t2 h' q B (k2 + 1)->aY h' s.heap.objs.size x y->h'.objs.size=s.heap.objs.size + 1 ->
   (∀ c o,c≠z->c≠TO->c≠j->c≠q->s.heap.get? c=some o->h'.get? c=some o)->Q (some (.ref s.heap.objs.size)) { s with heap:=h' }) :
  aI (aJ prog w) A (ay (.ref z)) Q E s:=by
 have Y:s.TypeIs (.ref z) "zip" := ⟨_,hz,rfl⟩;unfold ay;exact aF (wpAny_attempt (wpAny_callSpecial?_slot (name:=bT "__next__") Y F.slot_zip_next
  (bD F.slot_zip_next Y F.entry_zip_next
   (Qhq D hz O I h1 h2 U J hx hy fun h' a1 a2 a3 a4 a5 Z a7=>aQ (hQ h' a1 a2 a3 a4 a5 Z a7)) (F.args_zip_next_1 _))))
theorem Q9p {t1 t2:Bool} {z TI TO q B Y J:aA} {k1 k2:Nat} {xs ys:Array aB} {a b:aB} {Q:Option aB->aC->Prop} (hh:A.handled=none) (D:ZipApart z TI TO q B Y J)
  (hz:IsZip s.heap z TI TO .none) (O:aY s.heap TI (.ref q) (.ref B)) (G:aY s.heap TO a b)
  (h1:IterAt t1 s.heap q Y k1) (h2:IterAt t2 s.heap B J k2) (U:HasItems t1 s.heap Y xs) (I:HasItems t2 s.heap J ys) (j:xs[k1]?=none\/ys[k2]?=none)
  (hQ:∀ h',(∀ c o,c≠z->c≠TO->c≠q->c≠B->s.heap.get? c=some o->h'.get? c=some o)->Q none { s with heap:=h' }):aI (aJ prog w) A (ay (.ref z)) Q E s:=by
 have Z:s.TypeIs (.ref z) "zip" := ⟨_,hz,rfl⟩;unfold ay;refine aF (wpAny_attempt (wpAny_callSpecial?_slot (name:=bT "__next__") Z F.slot_zip_next
  (bD F.slot_zip_next Z F.entry_zip_next (Qjz hh D hz O G h1 h2 U I j fun h' e hk he=>?_) (F.args_zip_next_1 _))))
 obtain ⟨o,ho,hc⟩:=he;refine aF (bN (T := "StopIteration") (b:=true) ⟨o,ho,hc⟩ isSubtype_stop ?_);exact aQ (hQ _ hk)
end
def zH1 (t1:Bool) (h:Heap) (l1:aA):Heap:=h.push (Xh t1 l1)
def zH2 (t1 t2:Bool) (h:Heap) (l1 l2:aA):Heap:=(zH1 t1 h l1).push (Xh t2 l2)
def zH3 (t1 t2:Bool) (h:Heap) (l1 l2:aA):Heap:=(zH2 t1 t2 h l1 l2).push { cls:=.type "tuple",data:=.seq #[.ref h.objs.size,.ref (zH1 t1 h l1).objs.size] }
def zH4 (t1 t2:Bool) (h:Heap) (l1 l2:aA):Heap:=(zH3 t1 t2 h l1 l2).push { cls:=.type "tuple",data:=.seq #[.none,.none] }
def zH5 (t1 t2:Bool) (h:Heap) (l1 l2:aA):Heap:=(zH4 t1 t2 h l1 l2).push { cls:=.type "zip",data:=.fields #[.none,.bool false,.bool false,.ref (zH2 t1 t2 h l1 l2).objs.size,.ref (zH3 t1 t2 h l1 l2).objs.size] }
theorem Q7z (t1 t2:Bool) (j q:aA) (xs ys:Array aB) :
  Meets (Builtin.«zip.__new__» ⟨[.type "zip",.ref j,.ref q],[]⟩) (fun _ R s=>HasItems t1 s.heap j xs/\HasItems t2 s.heap q ys /\
   R (.ok (.ret (.ref (zH4 t1 t2 s.heap j q).objs.size))) { s with heap:=zH5 t1 t2 s.heap j q }):=
 .of_wp fun prog w A R s h=>by
  obtain ⟨hp,g,d,tk,os⟩:=s; obtain ⟨I,z,h⟩:=h;have J:=sub_zip;have G:HasItems t1 (Shared.heap ⟨hp,g,d,tk,os⟩) j xs:=I;have B:HasItems t2 (Shared.heap ⟨hp.push (Xh t1 j),g,d,tk,os⟩) q ys:=z.at fun o e=>O1 _ e
  wp_walk using Uy G,Uy B
  exact ⟨_,rfl,h⟩
section
variable {prog:aP} {w:aO} {A:aR} {E:aB->aC->Prop} {s:aC}
theorem Qjg {t1 t2:Bool} {j q:aA} {xs ys:Array aB} {Q:aB->aC->Prop} (I:HasItems t1 s.heap j xs) (z:HasItems t2 s.heap q ys)
  (h:∀ h',IsZip h' (s.heap.objs.size + 4) (s.heap.objs.size + 2) (s.heap.objs.size + 3) .none->aY h' (s.heap.objs.size + 2) (.ref s.heap.objs.size) (.ref (s.heap.objs.size + 1)) ->
   aY h' (s.heap.objs.size + 3) .none .none->IterAt t1 h' s.heap.objs.size j 0->IterAt t2 h' (s.heap.objs.size + 1) q 0->h'.objs.size=s.heap.objs.size + 5 ->
   (∀ c o,s.heap.get? c=some o->h'.get? c=some o)->Q (.ref (s.heap.objs.size + 4)) { s with heap:=h' }) :
  aI (aJ prog w) A (call (.type "zip") [.ref j,.ref q]) Q E s:=by
 refine callType_new F.called_zip (by decide) (F.typeCall_zip_2 _ _) (F.newCall_zip_2 _ _) (fun obj=>F.args_object_init_3 obj _ _) F.entry_zip_new
  (Q7z t1 t2 j q xs ys) ⟨I,z,?_⟩
 have J:(zH1 t1 s.heap j).objs.size=s.heap.objs.size + 1:=F8 ..;have G:(zH2 t1 t2 s.heap j q).objs.size=s.heap.objs.size + 2:=by unfold zH2; rw [F8,J]
 have O:(zH3 t1 t2 s.heap j q).objs.size=s.heap.objs.size + 3:=by unfold zH3; rw [F8,G]
 have U:(zH4 t1 t2 s.heap j q).objs.size=s.heap.objs.size + 4:=by unfold zH4; rw [F8,O]
 have z5:(zH5 t1 t2 s.heap j q).objs.size=s.heap.objs.size + 5:=by unfold zH5; rw [F8,U]
 have B:(zH5 t1 t2 s.heap j q).get? (zH4 t1 t2 s.heap j q).objs.size=some { cls:=.type "zip",data:=.fields #[.none,.bool false,.bool false,.ref (zH2 t1 t2 s.heap j q).objs.size,.ref (zH3 t1 t2 s.heap j q).objs.size] }:=D7 _ rfl;have Y:(zH5 t1 t2 s.heap j q).get? (zH3 t1 t2 s.heap j q).objs.size=some { cls:=.type "tuple",data:=.seq #[.none,.none] }:=O1 _ (D7 _ rfl);have Z:(zH5 t1 t2 s.heap j q).get? (zH2 t1 t2 s.heap j q).objs.size=some { cls:=.type "tuple",data:=.seq #[.ref s.heap.objs.size,.ref (zH1 t1 s.heap j).objs.size] }:=O1 _ (O1 _ (D7 _ rfl));have g2:(zH5 t1 t2 s.heap j q).get? (zH1 t1 s.heap j).objs.size=some (Xh t2 q):=O1 _ (O1 _ (O1 _ (D7 _ (Q0j _ _))));have g1:(zH5 t1 t2 s.heap j q).get? s.heap.objs.size=some (Xh t1 j):=O1 _ (O1 _ (O1 _ (O1 _ (D7 _ (Q0j _ _)))));show _/\_;rw [G,O,U] at B;rw [J,G] at Z;rw [O] at Y;rw [J] at g2;rw [U];exact ⟨⟨_,B,rfl⟩,h _ B Z Y (Q3r g1) (Q3r g2) z5 fun c o x=>
  O1 _ (O1 _ (O1 _ (O1 _ (O1 _ x))))⟩
end
def SqK (K:bU) (t:Bool) (H:Hp) (a:aA) (xs:List V):Prop:=if t=true then SqT K H a xs else SqL K H a xs
section
variable {X:Cx} {pins:List (aA × Obj)} {σ:St} {H:Hp} {s:aC}
theorem Inv.seqK {t:Bool} {a:aA} {xs:List V} (I:Inv X pins σ H s) (h:SqK X.K t H a xs):∃ its:List aB,Vals xs its/\HasItems t s.heap a its.toArray/\xs.length<=sizeLine:=by
 cases t
 ·obtain ⟨its,r,p,z⟩:=I.list h;exact ⟨its,r,p.isList,z⟩
 ·obtain ⟨its,r,p,z⟩:=I.tuple h;exact ⟨its,r,p,z⟩
theorem Inv.seqK_inj {t:Bool} {a:aA} {xs ys:List V} (I:Inv X pins σ H s) (h:SqK X.K t H a xs) (h':SqK X.K t H a ys):xs=ys:=by
 cases t
 ·exact I.list_inj h h'
 ·exact I.tuple_inj h h'
theorem Inv.turnedL {t':Nat} {its:List aA} {h':Heap} (I:Inv X pins σ H s) (k:∀ b o,b∉its->s.heap.get? b=some o->h'.get? b=some o) (G:∀ b∈its,Q92 X pins H b):Inv X pins σ H { s with heap:=h',toks:=t' }:=by
 have B:∀ b u,H b=some u->b∉its:=fun b u e z=>by rw [(G b z).1] at e; cases e
 refine I.step (g':=s.gens) (d':=s.drawn) (ch:=its) (fun b Y=>?_) (fun b o _ _ j e _=>k b o j e) (fun b o _ _ j e _=>⟨o.slots,k b o j e⟩) (fun _ _ _ _ n=>n)
  (fun b o j e=>⟨o,k b o j e⟩) (fun _ _ e=>e) (fun _ _ _ e=>e) (fun b ps e=>⟨#[],by rw [e]; simp⟩) (fun m hm=>?_) (fun b u e=>?_) I.bare
 ·obtain ⟨f0,Z,f2,J,f4,f5⟩:=G b Y;exact ⟨J,Z,f4,f5⟩
 ·obtain ⟨o,es,U,O,r⟩:=hm;exact ⟨o,es,U,k _ o (fun z=>(G _ z).2.1 rfl) O,r⟩
 ·refine (I.hok b u e).stay (fun c v j q=>k c v ?_ q) (fun _ q=>q) fun _ _ q=>q
  rcases j with z | z
  ·rw [z]; exact B b u e
  ·exact B c _ z
end
def Itz (K:bU) (t1 t2:Bool) (a b:aA):It:=
 ⟨fun i H=>∃ xs ys x y,SqK K t1 H a xs/\SqK K t2 H b ys/\xs[i]?=some x/\ys[i]?=some y,
  fun i H v H'=>∃ p x y,H p=none/\v=.ref p/\H'=upd H p (.tup [x,y])/\∀ xs ys,SqK K t1 H a xs->SqK K t2 H b ys->xs[i]?=some x/\ys[i]?=some y,
  fun i H=>∃ xs ys,SqK K t1 H a xs/\SqK K t2 H b ys/\(xs.length<=i\/ys.length<=i)⟩
def Qy4 (t1 t2:Bool) (z TI TO i1 i2 a b:aA) (i:Nat) (h:Heap):Prop:=
 IsZip h z TI TO .none/\aY h TI (.ref i1) (.ref i2)/\(∃ u v,aY h TO u v)/\IterAt t1 h i1 a i/\IterAt t2 h i2 b i
theorem Qa9 {a b:aB}:∀ v,({ cls:=.type "tuple",data:=.seq #[a,b] }:Obj).data≠.cell v:=fun v z=>by cases z
theorem Qk9 {P:aP} {w:aO} {K:bU} {b6:List aD} {k:Nat} {pos:Pos} {t1 t2:Bool} {z TI TO i1 i2 a b:aA} (D:ZipApart z TI TO i1 i2 a b) :
  Turn P w K (.Tuple b6 k pos) (Itz K t1 t2 a b) [z,TI,TO,i1,i2] z (Qy4 t1 t2 z TI TO i1 i2 a b) where
 mem:=by simp
 obj:=fun i h st c j=>by
  obtain ⟨hz,B,⟨u,v,G⟩,h1,h2⟩:=st;simp at j;rcases j with rfl | rfl | rfl | rfl | rfl
  ·exact ⟨_,hz,fun v q=>by cases q⟩
  ·exact ⟨_,B,Qa9⟩
  ·exact ⟨_,G,Qa9⟩
  ·exact h1.there
  ·exact h2.there
 keep:=fun i h h' st Z=>by
  obtain ⟨hz,B,⟨u,v,G⟩,h1,h2⟩:=st;exact ⟨Z z (by simp) _ hz,Z TI (by simp) _ B,⟨u,v,Z TO (by simp) _ G⟩,h1.at fun o e=>Z i1 (by simp) o e,h2.at fun o e=>Z i2 (by simp) o e⟩
 item:=by
  intro X hP hw hK j i pins s σ H E I hf st hg;subst hP hw hK;obtain ⟨xs,ys,x,y,O,U,hx,hy⟩:=hg;obtain ⟨hz,B,⟨u,v,G⟩,h1,h2⟩:=st;obtain ⟨its,rv,p,_⟩:=I.seqK O;obtain ⟨b5,a9,p2,_⟩:=I.seqK U;obtain ⟨ux,c1,c0⟩:=rv.get hx;obtain ⟨uy,c4,c3⟩:=a9.get hy;refine Q7y D hz B G h1 h2 p p2 (x:=ux) (y:=uy) (by simpa using c1) (by simpa using c4) fun h' a1 a2 a3 a4 a5 a6 a7=>⟨_,rfl,?_⟩
  refine wpAny_letOwnedTupleGo_zip (s:={ s with heap:=h' }) a1 fun b0 b1 b2=>?_
  have c2:H s.heap.objs.size=none:=I.fresh;have b9:z < s.heap.objs.size:=D0 hz;have c6:TI < s.heap.objs.size:=D0 B;have c5:TO < s.heap.objs.size:=D0 G;have c7:i1 < s.heap.objs.size:=by obtain ⟨o,e,_⟩:=h1.there; exact D0 e
  have c8:i2 < s.heap.objs.size:=by obtain ⟨o,e,_⟩:=h2.there; exact D0 e
  have Y:Inv X pins σ H { s with heap:=b0 }:=I.turnedL (t':=s.toks) (its:=[z,TO,i1,i2]) (fun c o j e=>(b2.2 c (fun q=>j (by simp [q]))).trans (a7 c o (fun q=>j (by simp [q])) (fun q=>j (by simp [q])) (fun q=>j (by simp [q])) (fun q=>j (by simp [q])) e))
   fun c j=>hf c (by simp at j ⊢; rcases j with rfl | rfl | rfl | rfl <;> simp)
  have a8:aY b0 s.heap.objs.size ux uy:=(b2.2 _ (bt b9)).trans a5;have J:H s.heap.objs.size=none:=c2;have I2:Inv X pins σ (upd H s.heap.objs.size (.tup [x,y])) { s with heap:=b0 }:=by
   refine ⟨Y.ok,Y.os,Y.bare,?_,Y.loc,Y.cell,?_,?_,?_,?_,Y.len⟩
   ·have u0:=Y.base;have old:∀ c o,X.s₀.heap.get? c=some o->c≠s.heap.objs.size:=fun c o e=>E8 (D3 (D0 e) I.sz)
    exact ⟨u0.keep,u0.slot,fun c o e n hx=>by rw [Qa (old c o e)]; exact u0.free c o e n hx,u0.there,
     fun c ts e=>by have:=u0.tups c ts e; rw [Qa (Qd this J)]; exact this,
     fun c o ts e=>by have:=u0.frzs c o ts e; rw [Qa (Qd this J)]; exact this,
     fun c ps e=>by obtain ⟨more,q⟩:=u0.tbls c ps e; exact ⟨more,by rw [Qa (Qd q J)]; exact q⟩⟩
   ·rw [Qa (E8 I.lt)]; exact I.free
   ·intro x' c e;obtain ⟨v',q⟩:=I.cell x' c e;rw [Qa (E8 q.lt)]; exact I.freeC x' c e
   ·intro p' b7;obtain ⟨e,n,ne,nf,d⟩:=Y.pin p' b7;have e0:=(I.pin p' b7).1;exact ⟨e,by rw [Qa (E8 (D0 e0))]; exact n,ne,nf,d⟩
   ·intro c o q
    by_cases b4:c=s.heap.objs.size
    ·subst b4;rw [J5] at q; cases q;exact ⟨by simp only [D8,cG]; rw [sizeLine_eq]; decide,[ux,uy],.cons c0 (.cons c3 .nil),⟨_,a8,rfl,0,rfl⟩⟩
    ·rw [Qa b4] at q;exact (Y.hok c o q).stay (fun _ _ _ r=>r) (fun c' r=>by rw [Qa (Qd r J)]; exact r) fun c' ts r=>by rw [Qa (Qd r J)]; exact r
  refine ⟨.ref s.heap.objs.size,_,I2,rfl,⟨s.heap.objs.size,x,y,J,rfl,rfl,fun c9 d0 q1 q2=>?_⟩,?_,fun c j=>?_⟩
  ·rw [I.seqK_inj q1 O,I.seqK_inj q2 U]; exact ⟨hx,hy⟩
  ·exact ⟨b1,b2.extBut _ _ D.TIz (a7 _ _ D.TIz D.TITO D.TIi1 D.TIi2 B),⟨_,_,b2.extBut _ _ D.TOz a2⟩,a3.at fun o e=>b2.extBut _ _ D.i1z e,a4.at fun o e=>b2.extBut _ _ D.i2z e⟩
  ·have:=(hf c j).1;have b8:c < s.heap.objs.size:=by simp at j; rcases j with rfl | rfl | rfl | rfl | rfl <;> assumption
   rw [Qa (E8 b8)]; exact this
 done:=by
  intro X hP hw hK j i pins s σ H E I hf st hg;subst hP hw hK;obtain ⟨xs,ys,O,U,b3⟩:=hg;obtain ⟨hz,B,⟨u,v,G⟩,h1,h2⟩:=st;obtain ⟨its,rv,p,_⟩:=I.seqK O;obtain ⟨b5,a9,p2,_⟩:=I.seqK U;have l1:=rv.length;have l2:=a9.length;refine Q9p (I.ok.hd j) D hz B G h1 h2 p p2 (b3.elim (fun h=>.inl (by simp; omega)) fun h=>.inr (by simp; omega)) fun h' Z=>⟨rfl,?_⟩
  exact I.turnedL (t':=s.toks) (its:=[z,TO,i1,i2]) (fun c o j e=>Z c o (fun q=>j (by simp [q])) (fun q=>j (by simp [q])) (fun q=>j (by simp [q])) (fun q=>j (by simp [q])) e)
   fun c j=>hf c (by simp at j ⊢; rcases j with rfl | rfl | rfl | rfl <;> simp)
 self:=fun _ _ _ _ _ st h=>wpAny_pyIter_zip st.1 h
section
variable {X:Cx}
def J2i (K:bU) (t1 t2:Bool) (ta:TA):TI:=fun σ H R=>ta σ H fun vs H1=>∃ a b xs ys,vs=[.ref a,.ref b]/\SqK K t1 H1 a xs/\SqK K t2 H1 b ys/\R (Itz K t1 t2 a b) H1
theorem Qpu:aZ "zip" = some (.type "zip"):=by decide +kernel
theorem Qvn (t1 t2:Bool) {a b:aD} {ta:TA} {p pos:Pos} {G:List aD} {k:Nat} {tp:Pos} (hg:Gl X "zip") (hm:X.mg "zip" = none) (ha:PA X [a,b] ta) (hs:aM [a,b] X.env=[(false,aL a X.env),(false,aL b X.env)]:=by rfl) (j:aM [b] X.env=[(false,aL b X.env)]:=by rfl) :
  PI X (.Tuple G k tp) (.Call (.Name "zip" p) [a,b] [] pos) (J2i X.K t1 t2 ta):=by
 intro pins s σ H R I h;refine Call_ (Q1w I hg hm Qpu (ce (thn (ha pos pins s σ H _ I h) fun us s1 ⟨vs,H1,J,r1,q1⟩=>?_) (by rw [hs,j]) (by rw [j]; rfl)))
 obtain ⟨a',U,xs,ys,e,q1,q2,q⟩:=q1;subst e;cases r1 with
 | cons r O=>
  cases O with
  | cons r' O=>
   cases O;cases r;cases r';obtain ⟨its,rv,p1,_⟩:=J.seqK q1;obtain ⟨Y,a3,p2,_⟩:=J.seqK q2;refine Qjg p1 p2 fun h' Z z2 z3 z4 z5 z6 z7=>?_
   refine wpAny_pyIter_zip (s:={ s1 with heap:=h' }) Z ?_;have a4:a' < s1.heap.objs.size:=by obtain ⟨o,e⟩:=p1.there; exact D0 e
   have a2:U < s1.heap.objs.size:=by obtain ⟨o,e⟩:=p2.there; exact D0 e
   have D:ZipApart (s1.heap.objs.size + 4) (s1.heap.objs.size + 2) (s1.heap.objs.size + 3) s1.heap.objs.size (s1.heap.objs.size + 1) a' U:=by
    constructor <;> (intro z; unfold aA at *; omega)
   refine ⟨_,[s1.heap.objs.size + 4,s1.heap.objs.size + 2,s1.heap.objs.size + 3,s1.heap.objs.size,s1.heap.objs.size + 1],_,_,H1,rfl,J.kept (t':=s1.toks) z7,Qk9 (t1:=t1) (t2:=t2) D,⟨Z,z2,⟨_,_,z3⟩,z4,z5⟩,fun c hc=>?_,q⟩
   have B:s1.heap.objs.size<=c:=by simp at hc; unfold aA at *; omega
   exact J.fpOk B (J.hok.fresh B)
end
theorem Q6u {prog:aP} {w:aO} {A:aR} (B:A.handled=none) (t:Bool) (I q:aA) (z:q≠I) (j:Array aB) :
  Walks prog w A I [I,q] [I] j.size (fun i v=>j[i]?=some v) (fun i h=>IterAt t h I q i/\HasItems t h q j):=by
 cases t
 ·exact Walks.list B I q z j
 ·exact Walks.tuple B I q z j
theorem Q4c {α:Type} (l:List α) (d:α) {n:Nat} (h:n < l.length):l.getD n d=l[n]:=by simp [ba,h]
theorem Qd2 (ns:List Int):preSum (fun j=>ns.getD j 0) ns.length=ns.sum:=by
 have z:∀ (k:Nat),k<=ns.length->preSum (fun j=>ns.getD j 0) k=(ns.take k).sum:=by
  intro k
  induction k with
  | zero=>intro _; rfl
  | succ k B=>
   intro G;show preSum _ k + ns.getD k 0=_;have q:k < ns.length:=by omega
   rw [B (by omega),List.take_succ,fB,Q4c _ _ q,O5 q];simp
 rw [z ns.length (O7 _),fC]
section
variable {X:Cx} {pins:List (aA × Obj)} {σ:St} {H:Hp} {s:aC}
theorem Inv.movedNew {s':aC} (I:Inv X pins σ H s) {o:Obj} (m:Moved [s.heap.objs.size] (fun a b=>b=a) { s with heap:=s.heap.push o } s'):Inv X pins σ H s':=by
 obtain ⟨m1,m2,m3,j,q⟩:=m;obtain ⟨h',g',d',t',o'⟩:=s';have e1:g'=s.gens:=m2;have e2:d'=s.drawn:=m3;have e3:o'=s.os:=j;subst e1 e2 e3;refine I.kept (t':=t') fun b u e=>m1 b u (fun z=>?_) (O1 _ e)
 have:b=s.heap.objs.size:=by simpa using z
 exact absurd (D0 e) (by rw [this]; exact L7 _)
theorem Q1y {ns:List Int} {its:List aB} (r:Vals (ns.map V.int) its):∀ (i:Nat) (v:aB),its.toArray[i]?=some v->∃ t,v=cc (ns.getD i 0) t:=fun i v e=>by
 have q:its[i]?=some v:=by simpa using e
 have hi:i < its.length:=(O0.mp q).1;have G:=r.length;rw [O2] at G;have B:(ns.map V.int)[i]?=some (V.int (ns.getD i 0)):=by
  have:i < ns.length:=by omega
  simp [ba,this]
 obtain ⟨u,j,t,z⟩:=r.get B;rw [q] at j;cases j;exact ⟨t,z⟩
theorem Qav {bs:List Bool} {its:List aB} (r:Vals (bs.map V.bl) its):∀ (i:Nat) (v:aB),its.toArray[i]?=some v->v=cC (bs.getD i false):=fun i v e=>by
 have q:its[i]?=some v:=by simpa using e
 have hi:i < its.length:=(O0.mp q).1;have G:=r.length;rw [O2] at G;have B:(bs.map V.bl)[i]?=some (V.bl (bs.getD i false)):=by
  have:i < bs.length:=by omega
  simp [ba,this]
 obtain ⟨u,j,z⟩:=r.get B;rw [q] at j;cases j;exact z
theorem Xg {t:Bool} {l:aA} {j:Array aB} (B:HasItems t s.heap l j):l≠s.heap.objs.size /\
  (IterAt t (s.heap.push (Xh t l)) s.heap.objs.size l 0/\HasItems t (s.heap.push (Xh t l)) l j)/\∀ b∈[s.heap.objs.size,l],b < (s.heap.push (Xh t l)).objs.size:=by
 obtain ⟨o,e⟩:=B.there;have q:=D0 e;refine ⟨E8 q,⟨Q3r (D7 _ (Q0j _ _)),B.at fun o e=>O1 _ e⟩,fun b z=>?_⟩
 rw [F8];simp at z;rcases z with rfl | rfl
 ·exact cO _
 ·exact cV q
end
section
variable {X:Cx}
theorem Qpi (t:Bool) (G:X.calm=true):Kh X (.builtin "sum") (fun xs H Q=>∃ (a:aA) (ns:List Int),xs=[.ref a]/\SqK X.K t H a (ns.map V.int)/\Q (.int ns.sum) H):=by
 intro pins s σ H xs us Q I r h;obtain ⟨a,ns,rfl,J,q⟩:=h;obtain ⟨u,rfl,U⟩:=Q1b r;cases U;obtain ⟨its,z,p,_⟩:=I.seqK J;obtain ⟨O,Y,Z⟩:=Xg p;have B:=z.length;rw [O2] at B;refine call_sum_walkAnyS (Uy p ⟨_,_,_,_,_,_,_,fun j=>ns.getD j 0,rfl,(Q6u (A:=X.A.in1) (I.ok.hd G) t _ a O its.toArray).toS,Y,Z,Q1y z,fun s' t' m=>?_⟩);refine ⟨.int ns.sum,H,I.movedNew m,⟨t',?_⟩,q⟩;rw [O3,<- B,Qd2]
theorem Qi7 (bs:List Bool):(bS bs.length).all (fun i=>bs.getD i false)=bs.all id:=by
 induction bs with
 | nil=>rfl
 | cons b r j=>
  rw [D8,fD,cW,dG,cW,<- j];rfl
theorem Qi6 (bs:List Bool):(bS bs.length).any (fun i=>bs.getD i false)=bs.any id:=by
 induction bs with
 | nil=>rfl
 | cons b r j=>
  rw [D8,fD,di,dj,di,<- j];rfl
theorem Qpk (t:Bool) (G:X.calm=true):Kh X (.builtin "all") (fun xs H Q=>∃ (a:aA) (bs:List Bool),xs=[.ref a]/\SqK X.K t H a (bs.map V.bl)/\Q (.bl (bs.all id)) H):=by
 intro pins s σ H xs us Q I r h;obtain ⟨a,bs,rfl,O,q⟩:=h;obtain ⟨u,rfl,Z⟩:=Q1b r;cases Z;obtain ⟨its,z,p,_⟩:=I.seqK O;obtain ⟨Y,w2,w3⟩:=Xg p;have B:=z.length;rw [O2] at B;refine call_all_walkS (Uy p ⟨_,_,_,_,_,_,_,fun j=>bs.getD j false,rfl,(Q6u (A:=X.A.in1) (I.ok.hd G) t _ a Y its.toArray).toS,w2,fun i v s' Q' E' U J=>?_,fun s' m=>?_⟩)
 ·rw [Qav z i v U];exact ar J
 ·refine ⟨.bl (bs.all id),H,I.movedNew m,?_,q⟩;show cC _=_;rw [O3,<- B,Qi7]
theorem Qpj (t:Bool) (G:X.calm=true):Kh X (.builtin "any") (fun xs H Q=>∃ (a:aA) (bs:List Bool),xs=[.ref a]/\SqK X.K t H a (bs.map V.bl)/\Q (.bl (bs.any id)) H):=by
 intro pins s σ H xs us Q I r h;obtain ⟨a,bs,rfl,O,q⟩:=h;obtain ⟨u,rfl,Z⟩:=Q1b r;cases Z;obtain ⟨its,z,p,_⟩:=I.seqK O;obtain ⟨Y,w2,w3⟩:=Xg p;have B:=z.length;rw [O2] at B;refine call_any_walkS (Uy p ⟨_,_,_,_,_,_,_,fun j=>bs.getD j false,rfl,(Q6u (A:=X.A.in1) (I.ok.hd G) t _ a Y its.toArray).toS,w2,fun i v s' Q' E' U J=>?_,fun s' m=>?_⟩)
 ·rw [Qav z i v U];exact ar J
 ·refine ⟨.bl (bs.any id),H,I.movedNew m,?_,q⟩;show cC _=_;rw [O3,<- B,Qi6]
theorem Qjj (t:Bool) (hc:X.calm=true):Kh X (.builtin "max") (fun xs H Q=>∃ (a:aA) (ns:List Int),xs=[.ref a]/\SqK X.K t H a (ns.map V.int)/\ns≠[]/\∀ m,m∈ns->(∀ k,k∈ns->k<=m)->Q (.int m) H):=by
 intro pins s σ H xs us Q I r h;obtain ⟨a,ns,rfl,hq,G,q⟩:=h;obtain ⟨u,rfl,r1⟩:=Q1b r;cases r1;obtain ⟨its,z,p,_⟩:=I.seqK hq;obtain ⟨Y,Z,w3⟩:=Xg p;have hl:=z.length;rw [O2] at hl;have J:0 < ns.length:=dH.mpr G;refine call_max_walkS (Uy p ⟨_,_,_,_,_,_,_,_,rfl,(Q6u (A:=X.A.in1) (I.ok.hd hc) t _ a Y its.toArray).toS,Z,w3,by rw [O3]; omega,CmpOf.ints_gt (fun j=>ns.getD j 0) (fun i v B=>Q1y z i v B),fun v s' B m=>?_⟩);obtain ⟨t',rfl⟩:=Q1y z _ _ B;obtain ⟨h1,h2⟩:=argBest_gt (fun j=>ns.getD j 0) (its.toArray.size - 1);have O:argBest (fun i j=>decide (ns.getD i 0 > ns.getD j 0)) (its.toArray.size - 1) < ns.length:=by
  have e':its.toArray.size=ns.length:=by rw [O3]; omega
  rw [e'] at h1 ⊢;exact gE h1 (by omega)
 refine ⟨.int (ns.getD (argBest (fun i j=>decide (ns.getD i 0 > ns.getD j 0)) (its.toArray.size - 1)) 0),H,I.movedNew m,⟨t',rfl⟩,q _ ?_ fun k U=>?_⟩
 ·rw [Q4c _ _ O];exact dk O
 ·obtain ⟨j,hj,rfl⟩:=cr.mp U;have:=h2 j (by rw [O3]; omega);rw [Q4c _ _ hj] at this;exact this
theorem Qjh (t:Bool) (hc:X.calm=true):Kh X (.builtin "min") (fun xs H Q=>∃ (a:aA) (ns:List Int),xs=[.ref a]/\SqK X.K t H a (ns.map V.int)/\ns≠[]/\∀ m,m∈ns->(∀ k,k∈ns->m<=k)->Q (.int m) H):=by
 intro pins s σ H xs us Q I r h;obtain ⟨a,ns,rfl,hq,G,q⟩:=h;obtain ⟨u,rfl,r1⟩:=Q1b r;cases r1;obtain ⟨its,z,p,_⟩:=I.seqK hq;obtain ⟨Y,Z,w3⟩:=Xg p;have hl:=z.length;rw [O2] at hl;have J:0 < ns.length:=dH.mpr G;refine call_min_walkS (Uy p ⟨_,_,_,_,_,_,_,_,rfl,(Q6u (A:=X.A.in1) (I.ok.hd hc) t _ a Y its.toArray).toS,Z,w3,by rw [O3]; omega,CmpOf.ints_lt (fun j=>ns.getD j 0) (fun i v B=>Q1y z i v B),fun v s' B m=>?_⟩);obtain ⟨t',rfl⟩:=Q1y z _ _ B;obtain ⟨h1,h2⟩:=argBest_lt (fun j=>ns.getD j 0) (its.toArray.size - 1);have O:argBest (fun i j=>decide (ns.getD i 0 < ns.getD j 0)) (its.toArray.size - 1) < ns.length:=by
  have e':its.toArray.size=ns.length:=by rw [O3]; omega
  rw [e'] at h1 ⊢;exact gE h1 (by omega)
 refine ⟨.int (ns.getD (argBest (fun i j=>decide (ns.getD i 0 < ns.getD j 0)) (its.toArray.size - 1)) 0),H,I.movedNew m,⟨t',rfl⟩,q _ ?_ fun k U=>?_⟩
 ·rw [Q4c _ _ O];exact dk O
 ·obtain ⟨j,hj,rfl⟩:=cr.mp U;have:=h2 j (by rw [O3]; omega);rw [Q4c _ _ hj] at this;exact this
end
theorem Qx4 {prog:aP} {w:aO} {A:aR} (O:A.handled=none) (t:Bool) (B l:aA) (G:l≠B) (j:Array aB) :
  Draws prog w A B [B,l] j.size (fun i v=>j[i]?=some v) (fun i h=>IterAt t h B l i/\HasItems t h l j) where
 live:=fun _ _ st=>let ⟨o,e,_⟩:=st.1.there; ⟨o,e⟩
 frame:=fun _ _ _ st I=>⟨st.1.at fun o e=>I B (by simp) o e,st.2.at fun o e=>I l (by simp) o e⟩
 item:=fun i s Q E hi st J=>by
  refine jy st.1 st.2 (x:=j[i]) (by simp [hi]) fun h' q z=>?_
  exact J _ h' s.toks (by simp [hi]) ⟨q,st.2.at fun o e=>z.extBut _ _ G e⟩ z
 done:=fun s Q E st U=>Q09 O st.1 st.2 (by simp) U
theorem Qdm (l:aA) (j:Array aB) (n:Nat) (B:Option aA) (sl:Array (Option aB)) :
  Meets (Builtin.«enumerate.__new__» ⟨[.type "enumerate",.ref l],[]⟩) (fun _ R s=>s.heap.get? l=some { cls:=.type "tuple",dict:=B,data:=.seq j n,slots:=sl } /\
   R (.ok (.ret (.ref (s.heap.push { cls:=.type "tuple_iterator",data:=.fields #[.ref l,.int 0 0] }).objs.size)))
    { s with heap:=(s.heap.push { cls:=.type "tuple_iterator",data:=.fields #[.ref l,.int 0 0] }).push { cls:=.type "enumerate",data:=.fields #[.none,.bool false,.ref s.heap.objs.size,aa 0,.none,.none] } }):=
 .of_wp fun prog w A R s h=>by
  obtain ⟨hp,g,d,tk,os⟩:=s; obtain ⟨q,h⟩:=h;have G:=sub_enumerate;have z:Heap.IsTuple (Shared.heap ⟨hp,g,d,tk,os⟩) l j:=⟨_,q,rfl,n,rfl⟩
  wp_walk using AutoSeq1.wpAny_loadPart' q
  refine wpAny_stack_any fun st=>aQ ?_
  split
  ·rename_i c _ _ _ _ _;cases (c == dQ "enumerate")
   ·wp_walk using AutoSeq1.wpAny_loadPart' q,bJ z
    exact ⟨_,rfl,h⟩
   ·wp_walk using AutoSeq1.wpAny_loadPart' q,bJ z
    exact ⟨_,rfl,h⟩
  ·wp_walk using AutoSeq1.wpAny_loadPart' q,bJ z
   exact ⟨_,rfl,h⟩
section
variable {prog:aP} {w:aO} {A:aR} {E:aB->aC->Prop} {s:aC}
theorem Qg9 {l:aA} {j:Array aB} {Q:aB->aC->Prop} (G:s.heap.IsTuple l j)
  (h:∀ h',IsEnum h' (s.heap.objs.size + 1) s.heap.objs.size 0 .none->h'.IsTupleIter s.heap.objs.size l 0->h'.objs.size=s.heap.objs.size + 2 ->
   (∀ b o,s.heap.get? b=some o->h'.get? b=some o)->Q (.ref (s.heap.objs.size + 1)) { s with heap:=h' }) :
  aI (aJ prog w) A (call (.type "enumerate") [.ref l]) Q E s:=by
 obtain ⟨⟨c,q,B,sl⟩,hl,hc,n,hd⟩:=G;replace hc:c=.type "tuple" := hc;replace hd:B=.seq j n:=hd;subst hc hd;refine callType_new F.called_enumerate (by decide) (F.typeCall_enumerate_1 _) (F.newCall_enumerate_1 _) (fun obj=>F.args_object_init_2 obj _) F.entry_enumerate_new
  (Qdm l j n q sl) ⟨hl,?_⟩
 have hz:(s.heap.push { cls:=.type "tuple_iterator",data:=.fields #[.ref l,.int 0 0] }).objs.size=s.heap.objs.size + 1:=F8 ..;show _/\_;rw [hz];have z:IsEnum ((s.heap.push { cls:=.type "tuple_iterator",data:=.fields #[.ref l,.int 0 0] }).push
   { cls:=.type "enumerate",data:=.fields #[.none,.bool false,.ref s.heap.objs.size,aa 0,.none,.none] }) (s.heap.objs.size + 1) s.heap.objs.size 0 .none:=by
  have:=D7 (s.heap.push { cls:=.type "tuple_iterator",data:=.fields #[.ref l,.int 0 0] })
   (o:={ cls:=.type "enumerate",data:=.fields #[.none,.bool false,.ref s.heap.objs.size,aa 0,.none,.none] }) rfl
  rw [hz] at this; exact this
 refine ⟨⟨_,z,rfl⟩,h _ z ⟨_,O1 _ (D7 _ rfl),rfl,rfl⟩ (by rw [F8,hz]) fun b o x=>O1 _ (O1 _ x)⟩
theorem Qga {t:Bool} {l:aA} {j:Array aB} {Q:aB->aC->Prop} (q:HasItems t s.heap l j)
  (h:∀ h',IsEnum h' (s.heap.objs.size + 1) s.heap.objs.size 0 .none->IterAt t h' s.heap.objs.size l 0->h'.objs.size=s.heap.objs.size + 2 ->
   (∀ b o,s.heap.get? b=some o->h'.get? b=some o)->Q (.ref (s.heap.objs.size + 1)) { s with heap:=h' }) :
  aI (aJ prog w) A (call (.type "enumerate") [.ref l]) Q E s:=by
 cases t
 ·exact call_enumerate_list q h
 ·exact Qg9 q h
end
def Ite (K:bU) (t:Bool) (a:aA):It:=
 ⟨fun i H=>∃ xs x,SqK K t H a xs/\xs[i]?=some x,
  fun i H v H'=>∃ p x,H p=none/\v=.ref p/\H'=upd H p (.tup [.int i,x])/\∀ xs,SqK K t H a xs->xs[i]?=some x,
  fun i H=>∃ xs,SqK K t H a xs/\xs.length<=i⟩
theorem Inv.tracks {X:Cx} {pins:List (aA × Obj)} {σ:St} {H:Hp} {s s1:aC} {p:aA} {xs:List V} {its:List aB} (I:Inv X pins σ H s) (j:Inv X pins σ H s1) (hp:s.heap.objs.size<=p) (G:H p=none) (rv:Vals xs its) (hz:xs.length<=sizeLine)
  (ht:IsTup s1.heap p its.toArray):Inv X pins σ (upd H p (.tup xs)) s1:=by
 refine ⟨j.ok,j.os,j.bare,?_,j.loc,j.cell,?_,?_,?_,?_,j.len⟩
 ·have z:=j.base;have old:∀ c o,X.s₀.heap.get? c=some o->c≠p:=fun c o e=>E8 (D3 (D0 e) (F1 I.sz hp))
  exact ⟨z.keep,z.slot,fun c o e n Z=>by rw [Qa (old c o e)]; exact z.free c o e n Z,z.there,
   fun c O e=>by have:=z.tups c O e; rw [Qa (Qd this G)]; exact this,
   fun c o O e=>by have:=z.frzs c o O e; rw [Qa (Qd this G)]; exact this,
   fun c ps e=>by obtain ⟨more,q⟩:=z.tbls c ps e; exact ⟨more,by rw [Qa (Qd q G)]; exact q⟩⟩
 ·rw [Qa (E8 (D3 I.lt hp))]; exact I.free
 ·intro Y c e;obtain ⟨v',q⟩:=I.cell Y c e;rw [Qa (E8 (D3 q.lt hp))]; exact I.freeC Y c e
 ·intro U J;obtain ⟨e,n,ne,nf,d⟩:=j.pin U J;have e0:=(I.pin U J).1;exact ⟨e,by rw [Qa (E8 (D3 (D0 e0) hp))]; exact n,ne,nf,d⟩
 ·intro c o q
  by_cases B:c=p
  ·subst B;rw [J5] at q; cases q;exact ⟨hz,its,rv,ht⟩
  ·rw [Qa B] at q;exact (j.hok c o q).stay (fun _ _ _ r=>r) (fun c' r=>by rw [Qa (Qd r G)]; exact r) fun c' O r=>by rw [Qa (Qd r G)]; exact r
def Qx3 (t:Bool) (e it a:aA) (i:Nat) (h:Heap):Prop:=(∃ old,IsEnum h e it i old)/\IterAt t h it a i
theorem Qhv {P:aP} {w:aO} {K:bU} {a6:List aD} {k:Nat} {pos:Pos} {t:Bool} {e J a:aA} (Y:e≠J) (a9:a≠e) (b3:a≠J) :
  Turn P w K (.Tuple a6 k pos) (Ite K t a) [e,J] e (Qx3 t e J a) where
 mem:=by simp
 obj:=fun i h st c hc=>by
  obtain ⟨⟨old,G⟩,h1⟩:=st;simp at hc;rcases hc with rfl | rfl
  ·exact ⟨_,G,fun v q=>by cases q⟩
  ·exact h1.there
 keep:=fun i h h' st kk=>by
  obtain ⟨⟨old,G⟩,h1⟩:=st;exact ⟨⟨old,kk e (by simp) _ G⟩,h1.at fun o q=>kk J (by simp) o q⟩
 item:=by
  intro X hP hw hK hc i pins s σ H E I hf st hg;subst hP hw hK;obtain ⟨xs,x,O,hx⟩:=hg;obtain ⟨⟨old,G⟩,h1⟩:=st;obtain ⟨its,rv,p,_⟩:=I.seqK O;obtain ⟨ux,a4,b0⟩:=rv.get hx;have b2:i < its.toArray.size:=by rw [O3]; exact (O0.mp a4).1
  refine wpAny_pyNext_enum_itemD (Qx4 (A:=X.A.in1) (I.ok.hd hc) t J a b3 its.toArray) G ⟨h1,p⟩ b2 Y (by simp; exact ⟨Y,fun z=>a9 z.symm⟩) fun x' h' tk a3 ho b1 hT b5 hk=>⟨_,rfl,?_⟩
  have:x'=ux:=by
   have e1:its[i]?=some x':=by simpa using a3
   rw [a4] at e1; exact (bf e1).symm
  subst this;refine wpAny_letOwnedTupleGo_enum (s:={ s with heap:=h',toks:=tk + 1 }) ho fun a7 Z B=>?_
  have elt:e < s.heap.objs.size:=D0 G;have b7:J < s.heap.objs.size:=by obtain ⟨o,q,_⟩:=h1.there; exact D0 q
  have a5:H s.heap.objs.size=none:=I.fresh;have I1:Inv X pins σ H { s with heap:=a7,toks:=tk + 1 }:=I.turnedL (its:=[e,J]) (fun c o j q=>(B.2 c (fun z=>j (by simp [z]))).trans (hk c o (fun z=>j (by simp [z])) (fun z=>j (by simp [z])) q)) fun c j=>hf c j
  have a2:a7.get? s.heap.objs.size=some { cls:=.type "tuple",data:=.seq #[.int i tk,x'] }:=(B.2 _ (bt elt)).trans hT;have I2:=I.tracks (xs:=[.int i,x]) (its:=[.int i tk,x']) I1 (O7 _) a5 (.cons ⟨tk,rfl⟩ (.cons b0 .nil)) (by simp only [D8,cG]; rw [sizeLine_eq]; decide) ⟨_,a2,rfl,0,rfl⟩;refine ⟨.ref s.heap.objs.size,_,I2,rfl,⟨s.heap.objs.size,x,a5,rfl,rfl,fun b6 q1=>?_⟩,?_,fun c j=>?_⟩
  ·rw [I.seqK_inj q1 O]; exact hx
  ·exact ⟨⟨x',by simpa using Z⟩,b1.1.at fun o q=>B.extBut _ _ (Ne.symm Y) q⟩
  ·have:=(hf c j).1;have a8:c < s.heap.objs.size:=by simp at j; rcases j with rfl | rfl <;> assumption
   rw [Qa (E8 a8)]; exact this
 done:=by
  intro X hP hw hK hc i pins s σ H E I hf st hg;subst hP hw hK;obtain ⟨xs,O,b4⟩:=hg;obtain ⟨⟨old,G⟩,h1⟩:=st;obtain ⟨its,rv,p,_⟩:=I.seqK O;have hl:=rv.length;have hT:s.TypeIs (.ref e) "enumerate" := ⟨_,G,rfl⟩;unfold ay;refine aF (wpAny_attempt (wpAny_callSpecial?_slot (name:=bT "__next__") hT F.slot_enumerate_next
   (bD F.slot_enumerate_next hT F.entry_enumerate_next ?_ (F.args_enumerate_next_1 _))))
  show aI _ _ (field (.ref e) 2 >>= _) _ _ _;refine aF (aX G rfl (x:=.ref J) rfl ?_);refine aF (Q09 (I.ok.hd hc) h1 p (by simp; omega) fun h' x Z a3=>?_)
  obtain ⟨o,ho,j⟩:=a3;refine aF (bN (T := "StopIteration") (b:=true) ⟨o,ho,j⟩ isSubtype_stop ?_);exact aQ ⟨rfl,I.turnedL (t':=s.toks) (its:=[J]) (fun c o U q=>Z c o (fun z=>U (by simp [z])) q) fun c U=>hf c (by simp at U; simp [U])⟩
 self:=fun _ _ _ _ _ st h=>by
  obtain ⟨⟨old,G⟩,_⟩:=st;exact wpAny_pyIter_enum G h
section
variable {X:Cx}
def J07 (K:bU) (t:Bool) (ta:TA):TI:=fun σ H R=>ta σ H fun vs H1=>∃ a xs,vs=[.ref a]/\SqK K t H1 a xs/\R (Ite K t a) H1
theorem Q8y:aZ "enumerate" = some (.type "enumerate"):=by decide +kernel
theorem Qrq (t:Bool) {a:aD} {ta:TA} {p pos:Pos} {z:List aD} {k:Nat} {Y:Pos} (U:Gl X "enumerate") (hm:X.mg "enumerate" = none) (ha:PA X [a] ta) (hs:aM [a] X.env=[(false,aL a X.env)]:=by rfl) :
  PI X (.Tuple z k Y) (.Call (.Name "enumerate" p) [a] [] pos) (J07 X.K t ta):=by
 intro pins s σ H R I h;refine Call_ (Q1w I U hm Q8y (ce (thn (ha pos pins s σ H _ I h) fun us s1 ⟨vs,H1,G,r1,q1⟩=>?_) hs rfl))
 obtain ⟨a',xs,e,q1,q⟩:=q1;subst e;obtain ⟨u,rfl,r⟩:=Q1b r1;cases r;obtain ⟨its,rv,O,_⟩:=G.seqK q1;refine Qga O fun h' J z2 z3 Z=>?_
 refine wpAny_pyIter_enum (s:={ s1 with heap:=h' }) J ?_;have B:a' < s1.heap.objs.size:=by obtain ⟨o,e⟩:=O.there; exact D0 e
 refine ⟨_,[s1.heap.objs.size + 1,s1.heap.objs.size],_,_,H1,rfl,G.kept (t':=s1.toks) Z,Qhv (t:=t) (bt (cO _)) (E8 (cV B)) (E8 B),⟨⟨_,J⟩,z2⟩,fun c hc=>?_,q⟩
 have j:s1.heap.objs.size<=c:=by simp at hc; unfold aA at *; omega
 exact G.fpOk j (G.hok.fresh j)
end
theorem Qcu {H:Hp} {a:aA} {o:HO} (h:H a=none):Same H (upd H a o):=fun b u e=>by rw [Qa (Qd e h)]; exact e
section
variable {K:bU} {cap:List (Option Nat)} {te:TE} {σ:St} {H1:Hp} {Q:VK}
abbrev g2 (K:bU):TG:=J0b K 2 (Qnx (Qe4 0) (Qnx (Qe4 1) J0c))
end
def J0n:V->Option aB
 | .ty n=>some (.type n)
 | .ref a=>some (.ref a)
 | _=>none
theorem Qpf {c:V} {j u:aB} (e:J0n c=some j) (r:RelV c u):u=j:=by
 cases c with
 | ty n=>cases e; exact r
 | ref a=>cases e; exact r
 | _=>cases e
section
variable {X:Cx}
theorem Qec:Kh X (.builtin "isinstance") (fun xs H Q=>∃ x c j t b,xs=[x,c]/\J0n c=some j/\TyOf X.K H x t/\eT X.K t j=some b/\Q (.bl b) H):=by
 intro pins s σ H xs us Q I r h;obtain ⟨x,c,j,t,b,rfl,z,ty,e,q⟩:=h;obtain ⟨u,J,rfl,G,B⟩:=Qk5 r;rw [Qpf z B];exact Qj3 I G ty e fun tk=>⟨.bl b,H,I.tok tk,rfl,q⟩
theorem Q6b:aZ "isinstance" = some (.builtin "isinstance"):=by decide +kernel
theorem Qeg:aZ "sum" = some (.builtin "sum"):=by decide +kernel
theorem Qq0:aZ "all" = some (.builtin "all"):=by decide +kernel
theorem Qpz:aZ "any" = some (.builtin "any"):=by decide +kernel
theorem Qpx:aZ "max" = some (.builtin "max"):=by decide +kernel
theorem Qpw:aZ "min" = some (.builtin "min"):=by decide +kernel
theorem Qgb:aZ "tuple" = some (.type "tuple"):=by decide +kernel
theorem Qjq:aZ "list" = some (.type "list"):=by decide +kernel
theorem Qpy:aZ "int" = some (.type "int"):=by decide +kernel
theorem Qjr:aZ "bool" = some (.type "bool"):=by decide +kernel
theorem Qpv:aZ "str" = some (.type "str"):=by decide +kernel
end
def Tab (H:Hp) (a:aA) (tb:List (List Int)):Prop:=∃ rs:List aA,H a=some (.tup (rs.map V.ref))/\aw (fun r row=>H r=some (.tup (List.map V.int row))) rs tb
def Sz (n:Nat) (tb:List (List Int)):Prop:=tb.length=n/\∀ row∈tb,row.length=n + 1
end L2
namespace L2
open PySem PySem.Spec PyProof.Rows PySem.W PySem.Builtin.Getset_descriptor
structure XCls (K:Frag) (C:aA):Prop where
 cls:(clsIn K C).isSome=true
 ga:findIn K (.ref C) "__getattribute__" = some (some (.builtin "BaseException.__getattribute__"))
 gt:findIn K (.ref C) "__getattr__" = some none
 cl:findIn K (.ref C) "__class__" = some (some (.builtin "object.__class__"))
 gs:specialIn K (.builtin "object.__class__") "__get__" = some (some (.builtin "getset_descriptor.__get__"))
 tk:takesIn K (.builtin "object.__class__")=some true
 ob:mroIn K C (.type "object")=some true
 be:mroIn K C (.type "BaseException")=some true
def IsX (x C:aA) (h:Heap):Prop:=∃ ox,h.get? x=some ox/\ox.cls=.ref C
theorem IsX.type {M:Model} {h:Heap} {x C:aA} (I:IsX x C h):Looks M h (typeOf (.ref x)) (.ref C):=by
 obtain ⟨j,h1,h2⟩:=I;exact h2 ▸ (Looks.ld h1).andThen .now
section
variable {prog:aP} {w:aO} {A:aR} {E:aB->aC->Prop} {h:Heap} {g:Array GenState} {d:Drawn} {t:Nat} {os:OsState} {K:Frag} {x C:aA}
theorem Qk2 {M:Model} {j:aB} {Q:Unit->aC->Prop} (X:K.In h) (F:XCls K C) (I:IsX x C h) (J:Q () ⟨h,g,d,t,os⟩):aI M A (checkBuiltinCall "BaseException.__getattribute__" ⟨[.ref x,j],[]⟩) Q E ⟨h,g,d,t,os⟩:=by
 have z:builtinKind "BaseException.__getattribute__" = some .slot:=by decide +kernel
 have q:splitId "BaseException.__getattribute__" = some ("BaseException", "__getattribute__"):=by decide +kernel
 have G:Looks M h (isInstance (.ref x) (.type "BaseException")) true:=(I.type).andThen (looks_mroIn X F.be);have B:=PySem.F.args_bexc_ga (.ref x) j;simp only [checkBuiltinCall,z,q];refine aF (G.at ?_);simp only [gF,gB,if_false];exact wpAny_of_eq B J
end
end L2
namespace L2
open PySem PySem.Spec PyProof.Rows
theorem ObjOk.there {P:aP} {w:aO} {H:Hp} {h:Heap} {a:aA} {o:HO} (x:ObjOk P w H h a o):∃ u,h.get? a=some u:=by
 cases o with
 | lst xs=>obtain ⟨_,_,_,_,e⟩:=x; exact ⟨_,e⟩
 | tup xs=>obtain ⟨_,_,_,o,e,_⟩:=x; exact ⟨o,e⟩
 | dK kvs=>obtain ⟨_,_,_,_,o,_,_,e,_⟩:=x; exact ⟨o,e⟩
 | dT kvs=>obtain ⟨_,_,_,_,o,_,_,e,_⟩:=x; exact ⟨o,e⟩
 | set S n=>obtain ⟨o,_,_,_,e,_⟩:=x; exact ⟨o,e⟩
 | ins C dx fs=>obtain ⟨_,_,_,e,_⟩:=x; exact ⟨_,e⟩
 | own y=>exact x
 | xd fs=>obtain ⟨_,⟨o,_,_,e,_⟩,_⟩:=x; exact ⟨o,e⟩
 | rng lo hi=>obtain ⟨_,_,_,e⟩:=x; exact ⟨_,e⟩
 | frz ob u=>obtain ⟨e,_⟩:=x; exact ⟨_,e⟩
 | tbl ps=>exact ⟨_,x⟩
 | met f y=>exact ⟨_,x⟩
 | ext j=>exact x.2.1
theorem HOk.none_of {P:aP} {w:aO} {H:Hp} {h:Heap} {a:aA} (x:HOk P w H h) (e:h.get? a=none):H a=none:=by
 cases q:H a with
 | none=>rfl
 | some o=>
  obtain ⟨u,z⟩:=(x a o q).there;rw [e] at z;cases z
structure Fly (P:aP) (w:aO) (outer:List Env) (H H':Hp) (s s':aC) (a:aA) (cls a0:aB) (B:Heap):Prop where
 os:s'.os=s.os
 bare:AllBare s'.gens
 fl:Heap.FlyingW B outer a cls a0 s'.heap
 hokB:HOk P w H' B
 keep:∀ b o,s.heap.get? b=some o->H b=none->b∉frs outer->B.get? b=some o
 there:∀ b o,s.heap.get? b=some o->b∉frs outer->∃ o',B.get? b=some o'
 slot:∀ b o,s.heap.get? b=some o->b∈frs outer->∃ sl,s'.heap.get? b=some { o with slots:=sl }
 free:∀ b o,s.heap.get? b=some o->H b=none->H' b=none
 tups:∀ b xs,H b=some (.tup xs)->H' b=some (.tup xs)
 frzs:∀ b o u,H b=some (.frz o u)->H' b=some (.frz o u)
 tbls:∀ b ps,H b=some (.tbl ps)->∃ more,H' b=some (.tbl (ps ++ more))
@[inline,reducible]def Vw:List aB:=[.type "ValueError",.type "Exception",.type "BaseException",.type "object"]
theorem Qgv {K:bU} {h:Heap} {C:aA} {z:List aB} {j:String} {x:Str} {mg:Str->Option aB} (X:K.In h) (m:mg x=some (.ref C)) (q:bY K C z j=true):OwnCls x C z j mg h:=by
 refine ⟨m,?_⟩;unfold bY at q
 split at q
 ·rename_i dd cd sl J
  split at q
  ·rename_i Y bm k0 k1 k2 k3 n k5 G hs;simp only [G7,beq_iff_eq,Bool.not_eq_true'] at q;obtain ⟨⟨⟨⟨⟨rfl,rfl⟩,hdel⟩,ht⟩,hok⟩,hni⟩:=q;obtain ⟨nm,bs,O,ns,I,hd,sn,sub,ab,col,U⟩:=cd;dsimp only at G hdel hok hni;subst G hdel;have B:sl=#[k0,k1,k2,k3,some (.builtin n),k5]:=by
    obtain ⟨l⟩:=sl;simp only at hs;rw [hs]
   subst B;exact ⟨bm,ns,nm,I,bs,hd,sn,sub,ab,col,dd,k0,k1,k2,k3,k5,_,X _ _ J,.of_isNs (PySem.W.isNs_of_in X hok),PySem.W.nsMap_none_of_in X hok hni,PySem.W.tail_of_in X ht⟩
  ·cases q
 ·cases q
section
variable {X:Cx}
def Qut (C:aA) (E:XK) (t:TA):TS:=fun _ σ H=>t σ H fun vs H1=>vs.length<=sizeLine/\E (.ref C) none H1
end
def xb (X:Cx) (a:aA):Cx:={ X with A:=X.A.mark (some (.ref a)),calm:=false,xe:=fun _ _=>False }
section
variable {X:Cx} {pins:List (aA × Obj)} {σ:St} {H H':Hp} {s s':aC} {a C:aA}
theorem Inv.suite (I:Inv X pins σ H s) (a:aA):Inv (xb X a) pins σ H s:=
 ⟨⟨I.ok.mod,I.ok.kind,I.ok.glob,I.ok.blt,I.ok.above,I.ok.inj,I.ok.has,I.ok.cab,fun h=>(by cases h),I.ok.frames,I.ok.stk,I.ok.exf,I.ok.bs,I.ok.bsz,I.ok.noex,I.ok.exfs,I.ok.funs,I.ok.frf⟩,I.os,I.bare,I.base,I.loc,I.cell,I.free,I.freeC,I.pin,I.hok,I.len⟩
theorem Inv.unsuite (ok:X.Ok) (I:Inv (xb X a) pins σ H s):Inv X pins σ H s:=⟨ok,I.os,I.bare,I.base,I.loc,I.cell,I.free,I.freeC,I.pin,I.hok,I.len⟩
theorem Fly.inv {cls a0:aB} {B G:Heap} (I:Inv X pins σ H s) (F:Fly X.prog X.w X.stack H H' s s' a cls a0 B) (U:B.StaysIn G) (Z:s'.heap.UpToSlots G):Inv X pins σ H' { s' with heap:=G }:=by
 have sl:∀ b o,s.heap.get? b=some o->b∈frs X.stack->∃ sl,G.get? b=some { o with slots:=sl }:=fun b o q j=>by
  obtain ⟨sl,z⟩:=F.slot b o q j;obtain ⟨_,o',J,O⟩:=I.stack.mem j;rw [q] at J;cases J;obtain ⟨Y,z'⟩:=Z b _ z O;exact ⟨Y,z'⟩
 refine I.call' (s':={ s' with heap:=G }) (ch:=[]) F.os ⟨fun b o q n j _=>U _ _ (F.keep b o q n j),fun b o q n j _=>sl b o q j,fun b o q n _=>F.free b o q n,fun b o q _=>?_,F.tups,F.frzs,F.tbls⟩ (F.hokB.kept U) F.bare fun b z=>absurd z (by simp)
 by_cases j:b∈frs X.stack
 ·obtain ⟨sl,z⟩:=sl b o q j;exact ⟨_,z⟩
 ·obtain ⟨o',z⟩:=F.there b o q j;exact ⟨o',U _ _ z⟩
theorem Fly.new {cls a0:aB} {B:Heap} (F:Fly X.prog X.w X.stack H H' s s' a cls a0 B):s.heap.get? a=none/\H' a=none:=by
 have O:B.get? a=none:=F.fl.2.1;refine ⟨?_,F.hokB.none_of O⟩;cases q:s.heap.get? a with
 | none=>rfl
 | some o=>
  by_cases I:a∈frs X.stack
  ·obtain ⟨_,o',G,j⟩:=F.fl.2.2.1.mem I;obtain ⟨U,vs,J,_,hd,_⟩:=F.fl.first;rw [G] at J;cases J;exact absurd hd (j vs)
  ·obtain ⟨o',z⟩:=F.there a o q I;rw [O] at z;cases z
theorem Inv.track {s1:aC} {U:Heap->Prop} (J:Inv X pins σ H s) (Y:∀ b,b∉X.ex) (h0:s.heap.get? a=none) (I:Inv X pins σ H' s1) (G:H' a=none) (o:ObjOk X.prog X.w (upd H' a (.ext U)) s1.heap a (.ext U)):Inv X pins σ (upd H' a (.ext U)) s1:=by
 have j:∀ b u,s.heap.get? b=some u->b≠a:=fun b u e z=>by rw [z,h0] at e; cases e
 have Z:∀ b u,X.s₀.heap.get? b=some u->b≠a:=fun b u e=>by
  obtain ⟨u',e'⟩:=J.base.there b u e (Y b);exact j b u' e'
 refine ⟨I.ok,I.os,I.bare,?_,I.loc,I.cell,?_,?_,?_,?_,I.len⟩
 ·have B:=I.base;exact ⟨B.keep,B.slot,fun c o e n hx=>by rw [Qa (Z c o e)]; exact B.free c o e n hx,B.there,
   fun c O e=>by have:=B.tups c O e; rw [Qa (Qd this G)]; exact this,
   fun c o O e=>by have:=B.frzs c o O e; rw [Qa (Qd this G)]; exact this,
   fun c ps e=>by obtain ⟨more,q⟩:=B.tbls c ps e; exact ⟨more,by rw [Qa (Qd q G)]; exact q⟩⟩
 ·obtain ⟨m,⟨o,_,_,e,_⟩,_⟩:=J.loc;rw [Qa (j _ _ e)]; exact I.free
 ·intro x c e;obtain ⟨v,o,z,_⟩:=J.cell x c e;rw [Qa (j _ _ z)]; exact I.freeC x c e
 ·intro p hp;obtain ⟨e,n,ne,nf,d⟩:=I.pin p hp;exact ⟨e,by rw [Qa (j _ _ (J.pin p hp).1)]; exact n,ne,nf,d⟩
 ·intro c u q
  by_cases hc:c=a
  ·subst hc;rw [J5] at q; cases q;exact o
  ·rw [Qa hc] at q;exact (I.hok c u q).stay (fun _ _ _ r=>r) (fun c' r=>by rw [Qa (Qd r G)]; exact r) fun c' O r=>by rw [Qa (Qd r G)]; exact r
theorem Inv.forget {i:Nat} {n:Str} {m:Str->Option aB} {h':Heap} {v:Option aB} {tk:Nat} (I:Inv X pins σ H s) (hN:X.N.Nodup) (hi:X.N[i]?=some n) (hl:∀ (i:Nat) (x:Str) (v:V),X.N[i]?=some x->σ[i]?=some (some v)->Vis X.env.scope x->∃ u,RelV v u/\J0w X.env s.heap m x u)
  (U:h'.Ns X.env.locals (fun x=>if x=n then v else m x)) (hs:Heap.SameBut X.env.locals s.heap h'):Inv X pins (σ.set i none) H { s with heap:=h',toks:=tk }:=by
 have cne:=I.cne;have B:HOk X.prog X.w H h':=I.hok.same I.free hs;have G:∀ b o,X.s₀.heap.get? b=some o->b≠X.env.locals:=fun b o e=>E8 (D3 (D0 e) I.ok.above)
 refine ⟨I.ok,I.os,I.bare,⟨fun b o e n O J=>(hs.2 b (G b o e)).trans (I.base.keep b o e n O J),fun b o e n O J=>?_,I.base.free,fun b o e J=>?_,I.base.tups,I.base.frzs,I.base.tbls⟩,⟨_,U,fun j y v' e1 e2 e3=>?_⟩,fun y c e=>?_,I.free,I.freeC,fun p hp=>?_,B,by simpa using I.len⟩
 ·obtain ⟨sl,z⟩:=I.base.slot b o e n O J;exact ⟨sl,(hs.2 b (G b o e)).trans z⟩
 ·obtain ⟨o',z⟩:=I.base.there b o e J;exact ⟨o',(hs.2 b (G b o e)).trans z⟩
 ·by_cases Y:j=i
  ·subst Y;rw [hi] at e1; cases e1;have:j < σ.length:=by have:=(O0.mp e2).1; simpa using this
   rw [E7 this] at e2;cases e2
  ·rw [O9 (Ne.symm Y)] at e2;obtain ⟨u,r,q⟩:=hl j y v' e1 e2 e3;refine ⟨u,r,?_⟩;rcases q with ⟨k,e⟩ | ⟨k,c,e,z⟩
   ·refine .inl ⟨k,?_⟩;have:y≠n:=fun e=>Y (Q7x hN e1 (e ▸ hi))
    simp [this,e]
   ·exact .inr ⟨k,c,e,z.sameBut hs (cne y c e)⟩
 ·obtain ⟨w',z⟩:=I.cell y c e;exact ⟨w',z.sameBut hs (cne y c e)⟩
 ·obtain ⟨e,n,ne,Z,d⟩:=I.pin p hp;exact ⟨(hs.2 p.1 ne).trans e,n,ne,Z,d⟩
end
theorem Q6x (l:aA) (j:Array aB) (n:Nat) (dd:Option aA) (sl:Array (Option aB)) (t:Tok) :
  Meets (Builtin.«tuple.__mul__» ⟨[.ref l,.int 1 t],[]⟩) (fun _ R s=>s.heap.get? l=some { cls:=.type "tuple",dict:=dd,data:=.seq j n,slots:=sl }/\R (.ok (.ret (.ref l))) s):=
 .of_wp fun prog w A R s h=>by
  obtain ⟨hp,g,d,tk,os⟩:=s; obtain ⟨q,h⟩:=h
  wp_walk using wpAny_loadPart' q
  exact ⟨_,rfl,h⟩
theorem Q6y (l:aA) (j:Array aB) (n:Nat) (dd:Option aA) (sl:Array (Option aB)) (x:Int) (t:Tok) (h1:¬ (decide (x < -(2 ^ 63)) || decide (x>=2 ^ 63))=true) (h2:¬ (j.isEmpty || x == 1)=true) (O:¬ (decide (x<=0) || j.isEmpty)=true) (I:¬ (j.size:Int) * x > (2 ^ 63 - 1) / 8) (G:¬ Builtin.Tuple.tupleTooMany ((j.size:Int) * x)=true)
  (J:((bV x.toNat j).foldl (fun B q=>B ++ q) #[]).size<=sizeLine) :
  Meets (Builtin.«tuple.__mul__» ⟨[.ref l,.int x t],[]⟩) (fun _ R s=>s.heap.get? l=some { cls:=.type "tuple",dict:=dd,data:=.seq j n,slots:=sl } /\
   R (.ok (.ret (bW s.heap.objs.size))) { s with heap:=s.heap.push { cls:=dQ "tuple",data:=Data.seq ((bV x.toNat j).foldl (fun B q=>B ++ q) #[]) } }):=
 .of_wp fun prog w A R s h=>by
  obtain ⟨hp,g,d,tk,os⟩:=s; obtain ⟨z,h⟩:=h
  wp_walk using wpAny_loadPart' z
  refine wpAny_ite_false (bQ h1) ?_
  wp_walk using wpAny_loadPart' z
  refine wpAny_ite_false (bQ I) ?_
  wp_walk using wpAny_loadPart' z
  all_goals first | exact ⟨_,rfl,h⟩ | (refine wpAny_ite_false (bQ G) ?_; wp_walk) | skip
  all_goals first | exact ⟨_,rfl,h⟩ | (refine wpAny_ite_false (bQ (Nat.not_lt.mpr J)) ?_; wp_walk; exact ⟨_,rfl,h⟩)
theorem Q8m (a:Int) (t:Tok) (l:aA) (j:Array aB) (n:Nat) (dd:Option aA) (sl:Array (Option aB)) :
  Meets (Builtin.«int.__rmul__» ⟨[.int a t,.ref l],[]⟩) (fun _ R s=>s.heap.get? l=some { cls:=.type "tuple",dict:=dd,data:=.seq j n,slots:=sl }/\R (.ok (.ret fm)) s):=
 .of_wp fun prog w A R s h=>by obtain ⟨hp,g,d,tk,os⟩:=s; obtain ⟨q,h⟩:=h; wp_walk using wpAny_loadPart' q; exact ⟨_,rfl,h⟩
theorem Q56:fillsNumberSlot (.type "tuple") "mul" = pure false:=
 PySem.fillsNumberSlot_seq (id := "tuple.__mul__") (r:=some (.builtin "tuple.__rmul__")) F.slot_tuple_mul.lookup (by decide +kernel) F.slot_tuple_rmul.lookup (by decide +kernel)
theorem Qbb:seqRepeat? (.type "tuple")=pure (some (.builtin "tuple.__mul__")):=by
 unfold seqRepeat?;rw [gG (T := "tuple") (name := "__mul__") (id := "tuple.__mul__") F.slot_tuple_mul.lookup (by decide +kernel),gG (T := "tuple") (name := "__rmul__") (id := "tuple.__rmul__") F.slot_tuple_rmul.lookup (by decide +kernel)];rfl
section
variable {X:Cx}
def Qyv (K:bU):R2:=fun x y H Q=>∃ a k xs,x=.ref a/\y=.int k/\SqT K H a xs/\xs≠[]/\1<=k/\xs.length * k.toNat<=4096 /\
 (k=1->Q (.ref a) H)/\(k≠1->∀ p,H p=none->Q (.ref p) (upd H p (.tup (bV k.toNat xs).flatten)))
theorem Qs4:OpR X (aW .Mult) (Qyv X.K):=by
 intro pins s σ H x y v u Q I rx ry h;obtain ⟨a,k,xs,rfl,rfl,ha,J,hk,hz,q1,q2⟩:=h;cases rx;obtain ⟨t,rfl⟩:=ry;obtain ⟨its,r,p1,hs⟩:=I.tuple ha;obtain ⟨⟨cls,dd,data,sl⟩,ho,hc,n,hd⟩:=id p1;simp only at hc hd;subst hc hd;have O:its.length=xs.length:=r.length.symm;have j:0 < its.length:=by rw [O]; exact dH.mpr J
 have a2:k.toNat<=4096:=by
  have:1 * k.toNat<=xs.length * k.toNat:=Nat.mul_le_mul_right _ (by omega);omega
 refine wpAny_binaryOp_repeat_ref (T := "tuple") (U := "int") (by decide) ⟨_,ho,rfl⟩ (fun s'=>typeIs_int s' k t) Q56 F.fills_int_mul F.slot_int_rmul Qbb F.slot_int_index.lookup
  (az F.slot_int_rmul (typeIs_int s k t) F.entry_int_rmul (F.args_int_rmul_2 _ _) (Q8m k t a its.toArray n dd sl)
   ⟨ho,rfl,⟨_,ho,rfl⟩,?_⟩)
 by_cases h1:k=1
 ·subst h1;exact az F.slot_tuple_mul ⟨_,ho,rfl⟩ F.entry_tuple_mul (F.args_tuple_mul_2 _ _) (Q6x a its.toArray n dd sl t) ⟨ho,⟨.ref a,H,I,rfl,q1 rfl⟩⟩
 ·have Y:df (fun Z x2=>Z ++ x2) #[] (bV k.toNat its.toArray)=(bV k.toNat its).flatten.toArray:=by
   have:=Q5h its k.toNat [];rw [fu] at this;exact this
  have B:(its.toArray.size:Int) * k=((its.length * k.toNat:Nat):Int):=by
   rw [O3,Int.natCast_mul,Int.toNat_of_nonneg (by omega)]
  have G:(bV k.toNat its).flatten.length<=4096:=by rw [Qbw,O,ee]; exact hz
  have hb:its.length * k.toNat<=4096:=by rw [O]; exact hz
  refine az F.slot_tuple_mul ⟨_,ho,rfl⟩ F.entry_tuple_mul (F.args_tuple_mul_2 _ _) (Q6y a its.toArray n dd sl k t ?_ ?_ ?_ ?_ ?_ ?_) ⟨ho,?_⟩
  ·rw [bQ (by omega),bQ (by omega)]; exact E5
  ·intro z;rcases gH.mp z with z | z
   ·rw [gJ,gK] at z; rw [z] at j; simp at j
   ·exact h1 (eq_of_beq z)
  ·intro z;rcases gH.mp z with z | z
   ·have:=of_decide_eq_true z; omega
   ·rw [gJ,gK] at z; rw [z] at j; simp at j
  ·rw [B]; omega
  ·rw [B];have:(4096:Int)<=sizeLine:=by decide
   show ¬ decide (((its.length * k.toNat:Nat):Int) > (sizeLine:Int))=true;rw [bQ (by omega)]; exact E5
  ·rw [Y,O3]; exact F1 G (by decide)
  ·rw [Y];refine ⟨.ref s.heap.objs.size,_,I.laid (t':=s.toks) (o:=.tup (bV k.toNat xs).flatten) (fun b ob q=>O1 _ q) (O7 _) ?_,rfl,q2 h1 _ (I.hok.fresh (O7 _))⟩;exact ⟨by rw [Qbw,ee]; exact F1 hz (by decide),_,r.rep k.toNat,IsTup.new _ _⟩
end
section
variable {X:Cx} {pins:List (aA × Obj)} {s:aC} {σ:St} {H:Hp}
open PySem.SeqAt
theorem Qd8:OpR X (aV .IsNot) (fun x y H Q=>∃ b c,x=.bl b/\y=.bl c/\Q (.bl (b != c)) H):=by
 intro pins s σ H x y v u Q I z j h;obtain ⟨b,c,rfl,rfl,q⟩:=h;cases z;cases j;exact hW ⟨.bl _,H,I,rfl,q⟩
end
theorem Xq:∀ (names:List (Str × ao)) (h:Heap) (j:List (Str × aA)) (x:Str) (c:aA),(ag h.objs.size names j).lookup x=some c ->
  j.lookup x=some c\/((x,NameKind.cell)∈names/\h.objs.size<=c/\(pushCells h names).IsCell c none)
 | [],_,_,_,_,e=>.inl e
 | (name,kind) :: r,h,j,x,c,e=>by
  unfold ag at e;unfold pushCells
  by_cases B:(kind == NameKind.cell)=true
  ·rw [bO B] at e ⊢;have q:kind=.cell:=by simpa using B
   have U:=Xq r (h.push { cls:=.type "cell",data:=.cell none }) ((name,h.objs.size) :: j) x c (by rw [F8]; exact e);rw [F8] at U;rcases U with z | ⟨I,O,J⟩
   ·rw [E6] at z;cases G:x == name with
    | true=>
     rw [G] at z; cases z;exact .inr ⟨by rw [beq_iff_eq.mp G,q]; exact D6,O7 _,⟨_,pushCells_keeps _ _ _ _ (D7 _ rfl),rfl⟩⟩
    | false=>rw [G] at z; exact .inl z
   ·exact .inr ⟨D1 _ I,by omega,J⟩
  ·rw [bP B] at e ⊢;rcases Xq r h j x c e with z | ⟨I,O,J⟩
   ·exact .inl z
   ·exact .inr ⟨D1 _ I,O,J⟩
theorem K8 {x:Str}:∀ (names:List (Str × ao)) (n:Nat) (j:List (Str × aA)),(x,NameKind.cell)∉names->(ag n names j).lookup x=j.lookup x
 | [],_,_,_=>rfl
 | (name,kind) :: r,n,j,h=>by
  unfold ag;have B:(x,NameKind.cell)∉r:=fun z=>h (D1 _ z)
  by_cases q:(kind == NameKind.cell)=true
  ·rw [bO q,K8 r _ _ B,E6];cases G:x == name with
   | true=>exact absurd (by rw [beq_iff_eq.mp G,show kind=.cell by simpa using q]; exact D6) h
   | false=>rfl
  ·rw [bP q,K8 r _ _ B]
theorem yd {x:Str} {c:aA}:∀ (names:List (Str × ao)) (n:Nat) (j:List (Str × aA)),(x,NameKind.cell)∈names->(ag n names j).lookup x=some c->n<=c
 | [],_,_,h,_=>by cases h
 | (name,kind) :: r,n,j,h,e=>by
  unfold ag at e
  by_cases z:(x,NameKind.cell)∈r
  ·by_cases B:(kind == NameKind.cell)=true
   ·rw [bO B] at e;exact Nat.le_of_succ_le (yd r _ _ z e)
   ·rw [bP B] at e;exact yd r _ _ z e
  ·rcases E3.mp h with q | q
   ·cases q;rw [bO (by decide),K8 r _ _ z,E6] at e;simp at e;exact eO e
   ·exact absurd q z
theorem ye:∀ (names:List (Str × ao)) (n:Nat) (j:List (Str × aA)),(∀ x c,j.lookup x=some c->c < n)->(∀ x y c,j.lookup x=some c->j.lookup y=some c->x=y) ->
  ∀ x y c,(ag n names j).lookup x=some c->(ag n names j).lookup y=some c->x=y
 | [],_,_,_,h=>h
 | (name,kind) :: r,n,j,h1,h2=>by
  unfold ag
  by_cases G:(kind == NameKind.cell)=true
  ·rw [bO G];refine ye r (n + 1) _ (fun x c e=>?_) (fun x y c e z=>?_)
   ·rw [E6] at e;cases B:x == name with
    | true=>rw [B] at e; cases e; exact cO _
    | false=>rw [B] at e; exact cV (h1 x c e)
   ·rw [E6] at e z;cases B:x == name with
    | true=>
     rw [B] at e; cases e;cases q:y == name with
     | true=>rw [beq_iff_eq.mp B,beq_iff_eq.mp q]
     | false=>rw [q] at z; exact absurd (h1 y _ z) (L7 _)
    | false=>
     rw [B] at e;cases q:y == name with
     | true=>rw [q] at z; cases z; exact absurd (h1 x _ e) (L7 _)
     | false=>rw [q] at z; exact h2 x y c e z
  ·rw [bP G];exact ye r n j h1 h2
theorem Q93 {M:Model} {A:aR} {E:aB->aC->Prop} {s:aC} {scope:Scope} {q:aA} {cl:List (Str × aA)} {qual:Str} {z:Option aA} {code:aB} {env:Env} {j:aA} {Q:Env->aC->Prop}
  (I:Q (newEnv scope s.heap.objs.size q (ag (s.heap.objs.size + 1) scope.names cl) qual z code (some env) j) { s with heap:=pushCells (s.heap.push { cls:=.type "dict",data:=.dict #[] }) scope.names }) :
  aI M A (newFunctionEnv scope q cl [] qual z code (some env) j) Q E s:=by
 simp only [newFunctionEnv,Option.isSome_some,if_true];refine aF (wpAny_alloc ?_);refine aF (wpAny_layCells _ (fun name kind G=>by cases B:kind == NameKind.cell <;> simp [B]) _ _ _ _ ?_);rw [show ({ s with heap:=s.heap.push { cls:=.type "dict",data:=.dict #[] } }:aC).heap.objs.size=s.heap.objs.size + 1 from F8 ..];refine aF ?_;rw [fA];exact aQ (aQ I)
def compOkC (N N':List Str) (sc scE:Scope) (cap:List (Option Nat)):Bool:=
 sc.kind == .function && sc.names.all (fun x=>x.2 != .cell || sc.names.lookup x.1 == some .cell) && sc.names.all (fun x=>x.2 != .local || sc.names.lookup x.1 == some .local) &&
 sc.names.all (fun x=>x.2 != .free || scE.names.lookup x.1 == some .cell || scE.names.lookup x.1 == some .free) && cap.length == N'.length &&
 (bS cap.length).all (fun i=>match cap[i]? with
  | some (some j)=>(match N'[i]?,N[j]? with | some a,some b=>a == b && sc.names.lookup a == some .free | _,_=>false)
  | _=>true)
structure CompOkC (N N':List Str) (sc scE:Scope) (cap:List (Option Nat)):Prop where
 kind:sc.kind=.function
 cel:∀ x∈sc.names,x.2=.cell->sc.names.lookup x.1=some .cell
 loc:∀ x∈sc.names,x.2=.local->sc.names.lookup x.1=some .local
 fre:∀ x∈sc.names,x.2=.free->scE.names.lookup x.1=some .cell\/scE.names.lookup x.1=some .free
 len:cap.length=N'.length
 at_:∀ (i j:Nat),cap[i]?=some (some j)->∃ x,N'[i]?=some x/\N[j]?=some x/\sc.names.lookup x=some .free
theorem compOkC.of {N N':List Str} {sc scE:Scope} {cap:List (Option Nat)} (h:compOkC N N' sc scE cap=true):CompOkC N N' sc scE cap:=by
 unfold compOkC at h;simp only [G7,F9,beq_iff_eq,gL,bne_iff_ne] at h;obtain ⟨⟨⟨⟨⟨h1,h2⟩,h3⟩,h4⟩,h5⟩,h6⟩:=h;refine ⟨h1,fun x q e=>?_,fun x q e=>?_,fun x q e=>?_,h5,fun i j e=>?_⟩
 ·rcases h2 x q with z | z
  ·exact absurd e z
  ·exact z
 ·rcases h3 x q with z | z
  ·exact absurd e z
  ·exact z
 ·rcases h4 x q with (z | z) | z
  ·exact absurd e z
  ·exact .inl z
  ·exact .inr z
 ·have hi:i < cap.length:=(O0.mp e).1;have:=h6 i (O8.mpr hi);rw [e] at this;simp only at this;cases e1:N'[i]? with
  | none=>rw [e1] at this; cases this
  | some a=>
   cases e2:N[j]? with
   | none=>rw [e1,e2] at this; cases this
   | some b=>
    rw [e1,e2] at this;simp only [G7,beq_iff_eq] at this;obtain ⟨rfl,z⟩:=this;exact ⟨a,rfl,rfl,z⟩
def Vi (X:Cx) (N':List Str) (sc:Scope) (cl:List (Str × aA)) (C:aA) (s0:aC) (H0:Hp) (ex:List aA):Cx:=
 { X with N:=N',s₀:=s0,H₀:=H0,env:=compEnvC sc cl C X.env,outer:=X.stack,ex:=ex,fn:=fun x=>sc.names.lookup x == some .cell,pn:=[],xe:=fun _ _=>False }
section
variable {X:Cx}
theorem Qq2 {pins:List (aA × Obj)} {σ:St} {H:Hp} {s:aC} {N N':List Str} {sc scE:Scope} {cap:List (Option Nat)} {cl:List (Str × aA)} {fp:List aA}
  (I:Inv X pins σ H s) (hN:X.N=N) (hE:X.env.scope=scE) (ck:CompOkC N N' sc scE cap) (c1:∀ x c,cl.lookup x=some c->X.env.cells.lookup x=some c) (c2:∀ x∈sc.names,x.2=.free->∃ c,cl.lookup x.1=some c)
  (hf:∀ b∈fp,Q92 X pins H b) (a7:∀ b∈fp,b < s.heap.objs.size) :
  Inv (Vi X N' sc (ag (s.heap.objs.size + 1) sc.names cl) s.heap.objs.size s H fp) [] (Q4i cap σ) H { s with heap:=pushCells (s.heap.push { cls:=.type "dict",data:=.dict #[] }) sc.names }:=by
 obtain ⟨J,O⟩:∃ J,pushCells (s.heap.push { cls:=.type "dict",data:=.dict #[] }) sc.names=J:=⟨_,rfl⟩;obtain ⟨B,G⟩:∃ B,ag (s.heap.objs.size + 1) sc.names cl=B:=⟨_,rfl⟩;rw [O,G];have keep:∀ b o,s.heap.get? b=some o->J.get? b=some o:=fun b o e=>by rw [<- O]; exact pushCells_keeps _ _ b o (O1 _ e)
 have a9:J.Ns s.heap.objs.size (fun _=>none):=by rw [<- O]; exact (Heap.Ns.new s.heap (.type "dict")).keeps (pushCells_keeps _ _)
 have look:∀ x c,B.lookup x=some c->cl.lookup x=some c\/(s.heap.objs.size + 1<=c/\J.IsCell c none):=fun x c e=>by
  rw [<- G] at e;have:=Xq (sc.names) (s.heap.push { cls:=.type "dict",data:=.dict #[] }) cl x c (by rw [F8]; exact e);rw [F8,O] at this;rcases this with z | ⟨_,z,z'⟩
  ·exact .inl z
  ·exact .inr ⟨z,z'⟩
 have Y:∀ x c,cl.lookup x=some c->c < s.heap.objs.size:=fun x c e=>by
  obtain ⟨v,o,ho,_⟩:=I.cell x c (c1 x c e);exact D0 ho
 have inj:∀ x y c,B.lookup x=some c->B.lookup y=some c->x=y:=by
  rw [<- G];exact ye _ _ _ (fun x c e=>cV (Y x c e)) fun x y c a b=>I.ok.inj x y c (c1 x c a) (c1 y c b)
 have a8:∀ x,sc.names.lookup x=some .cell->∃ c,B.lookup x=some c:=fun x e=>by
  rw [<- G];exact fk.mp (eU _ _ _ (.inl e))
 have a4:∀ x,sc.names.lookup x=some .free->B.lookup x=cl.lookup x:=fun x e=>by
  rw [<- G];refine K8 _ _ _ fun z=>?_
  have:=ck.cel _ z rfl;rw [e] at this; cases this
 have kindOf:∀ x k,(compEnvC sc B s.heap.objs.size X.env).kindOf x=some k->k=.cell\/k=.free->sc.names.lookup x=some .free\/sc.names.lookup x=some .cell:=fun x k e hk=>by
  have e':(relabel sc X.env).names.lookup x=some k:=e;rw [Q1j] at e';cases q:sc.names.lookup x with
  | none=>rw [q] at e'; cases e'
  | some k'=>
   rw [q] at e';have a5:(if (k' == NameKind.free && X.env.scope.kind == .function && X.env.kindOf x == some .cell)=true then NameKind.cell else k')=k:=bf e'
   by_cases U:(k' == NameKind.free && X.env.scope.kind == .function && X.env.kindOf x == some .cell)=true
   ·simp only [G7,beq_iff_eq] at U;rw [U.1.1]; exact .inl rfl
   ·rw [bP U] at a5;subst a5;rcases hk with z | z
    ·rw [z]; exact .inr rfl
    ·rw [z]; exact .inl rfl
 have cellAt:∀ x c,X.env.cells.lookup x=some c->∀ v,s.heap.IsCell c v->J.IsCell c v:=fun x c e v ⟨o,ho,hd⟩=>⟨o,keep c o ho,hd⟩
 have a2:∀ c,s.heap.objs.size<=c->H c=none:=fun c U=>I.hok.fresh U
 refine ⟨⟨I.ok.mod,ck.kind,I.ok.glob,I.ok.blt,O7 _,inj,fun x hx=>?_,fun x c h1 h2=>?_,I.ok.hd,I.ok.frames,.inl rfl,fun b hb=>?_,I.bs,
  F1 I.ok.bsz I.sz,fun b o e hb=>?_,fun b hb hz=>?_,I.stack,I.stkFree⟩,rfl,I.bare,Un.kept keep,⟨_,a9,fun i x v e1 e2 e3=>?_⟩,fun x c e=>?_,a2 _ (O7 _),fun x c e=>?_,fun p hp=>(by cases hp),I.hok.kept keep,?_⟩
 ·have hx:(compEnvC sc B s.heap.objs.size X.env).kindOf x=some .cell\/(compEnvC sc B s.heap.objs.size X.env).kindOf x=some .free:=hx;have q:sc.names.lookup x=some .free\/sc.names.lookup x=some .cell:=by
   rcases hx with z | z
   ·exact kindOf x _ z (.inl rfl)
   ·exact kindOf x _ z (.inr rfl)
  rcases q with q | q
  ·obtain ⟨c,U⟩:=c2 _ (bw q) rfl;exact ⟨c,(a4 x q).trans U⟩
  ·exact a8 x q
 ·have h1:sc.names.lookup x=some .cell:=by simpa [Vi] using h1
  have h2:B.lookup x=some c:=h2;rw [<- G] at h2;exact F1 (cP _) (yd _ _ _ (bw h1) h2)
 ·refine ⟨E8 (a7 b hb),fun x c e=>?_⟩;rcases look x c e with z | ⟨z,_⟩
  ·exact (hf b hb).2.2.2.2.1 x c (c1 x c z)
  ·exact fun q=>absurd (D3 (a7 b hb) (F1 (cP _) (q ▸ z))) (L7 _)
 ·rcases (hf b hb).2.2.2.1 with z | z
  ·exact I.ok.noex b o e z
  ·exact absurd (D3 (D0 e) (F1 I.ok.bsz z)) (L7 _)
 ·rcases E3.mp (I.stkSub b hz) with e | z
  ·exact (hf b hb).2.1 e
  ·exact (hf b hb).2.2.1 z
 ·have e1:N'[i]?=some x:=e1;have e2:(Q4i cap σ)[i]?=some (some v):=e2;unfold Q4i at e2;rw [E2] at e2;cases q:cap[i]? with
  | none=>rw [q] at e2; cases e2
  | some oj=>
   rw [q] at e2;cases oj with
   | none=>cases e2
   | some j=>
    obtain ⟨y,z1,z2,z3⟩:=ck.at_ i j q;rw [e1] at z1; cases z1;have ev:σ[j]?=some (some v):=by
     have Z:(σ[j]?).join=some v:=bf e2;cases r:σ[j]? with
     | none=>rw [r] at Z; cases Z
     | some o=>rw [r] at Z; exact congrArg some Z
    obtain ⟨m',b0,hl⟩:=I.loc;have sK:X.env.scope.names.lookup x=some .cell\/X.env.scope.names.lookup x=some .free:=by rw [hE]; exact ck.fre _ (bw z3) rfl
    obtain ⟨u,ru,l⟩:=hl j x v (by rw [hN]; exact z2) ev (sK.elim (fun z=>.inr (.inl z)) fun z=>.inr (.inr z))
    refine ⟨u,ru,?_⟩;obtain ⟨c,U⟩:=c2 _ (bw z3) rfl;rcases l with ⟨k,_⟩ | ⟨k,c',a6,a3⟩
    ·have k:X.env.scope.names.lookup x=some .local:=k;rcases sK with z | z <;> (rw [k] at z; cases z)
    ·have:c=c':=by
      have q1:=c1 x c U;rw [a6] at q1;exact (bf q1).symm
     subst this;refine .inr ⟨?_,c,(a4 x z3).trans U,cellAt x c a6 _ a3⟩;show (relabel sc X.env).names.lookup x=some .cell\/(relabel sc X.env).names.lookup x=some .free;rw [Q1j,z3];show some (if _ then NameKind.cell else NameKind.free)=_\/some (if _ then NameKind.cell else NameKind.free)=_
     split
     ·exact .inl rfl
     ·exact .inr rfl
 ·rcases look x c e with z | ⟨_,z⟩
  ·obtain ⟨v,q⟩:=I.cell x c (c1 x c z);exact ⟨v,cellAt x c (c1 x c z) v q⟩
  ·exact ⟨_,z⟩
 ·rcases look x c e with z | ⟨z,_⟩
  ·exact I.freeC x c (c1 x c z)
  ·exact a2 c (by omega)
 ·unfold Q4i;show _=N'.length;rw [O2];exact ck.len
end
section
variable {X:Cx}
theorem Qun {x y:V} {us:List aB} (r:Vals [x,y] us):∃ u w,us=[u,w]/\RelV x u/\RelV y w:=by
 cases r with
 | cons a r=>
  cases r with
  | cons b r=>
   cases r with
   | nil=>exact ⟨_,_,rfl,a,b⟩
end
end L2
namespace PySem
open Sem (wp)
section
variable {prog:aP} {w:aO} {A:aR} {E:aB->aC->Prop} {hp:Heap} {gs:Array GenState} {dr:Drawn} {tk:Nat} {sy:OsState}
variable {cn cq:Str} {kC kN:aA} {bas tl tB:List aB} {hd:Bool} {sns:List Str} {subs:List aB} {abb:Bool} {coll:Option Bool} {dic:Option aA} {j0 j1 j2 j3 j5:Option aB} {BB Bn newI nI initI inN:String} {tN:List aB}
theorem Q6w (J:ExcBaseFacts Bn newI inN tN) (B:tB.contains (.type Bn)=true) (F:ExcBaseFacts BB nI initI tB) (T:OwnTail hp tB tl) {rest:List aB} {I:aA} {O:Obj} {Q:Fin->aC->Prop}
  (j:hp.get? kC=some (excClassObj cn cq kC kN bas tl hd sns subs abb coll dic j0 j1 j2 j3 j5 newI)) {K:bU} (X:K.In hp) (ei:bZ K (.ref kC) "__init__" = some (some (.ref I))) (of:hp.get? I=some O) (Y:O.cls=.type "function")
  (Z:∀ h',(∀ b o,hp.get? b=some o->h'.get? b=some o)->h'.get? (hp.objs.size + 1)=some { cls:=.ref kC,data:=.fields #[.ref hp.objs.size,.none,.none,.none,.bool false,.none] }->aI (aJ prog w) A (call (.ref I) (.ref (hp.objs.size + 1) :: rest)) (fun r s'=>r=.none/\Q (.done (.ret (.ref (hp.objs.size + 1)))) s') E ⟨h',gs,dr,tk,sy⟩) (hz:rest.length<=sizeLine) :
  aI (aJ prog w) A (Builtin.«type.__call__» ⟨.ref kC :: rest,[]⟩) Q E ⟨hp,gs,dr,tk,sy⟩:=by
 repeat (first | with_reducible refine wpAny_loadPart_at j ?_ | with_reducible refine wpAny_madeBy_exc j ?_ | wp_step)
 refine codeAny_call_builtin_code (Code.quiet_builtin _ J.quiet) (wpAny_check_new_subU J B T j ?_);refine codeAny_exc_new_subU J B F T j ?_ hz;show aI _ _ _ _ _ _;obtain ⟨h2,e2⟩:∃ h2,(hp.push { cls:=.type "tuple",data:=.seq rest.toArray }).push { cls:=.ref kC,data:=.fields #[.ref hp.objs.size,.none,.none,.none,.bool false,.none] }=h2:=⟨_,rfl⟩;have kp:∀ b o,hp.get? b=some o->h2.get? b=some o:=fun b o q=>by rw [<- e2]; exact O1 _ (O1 _ q)
 have U:h2.get? (hp.objs.size + 1)=some { cls:=.ref kC,data:=.fields #[.ref hp.objs.size,.none,.none,.none,.bool false,.none] }:=by rw [<- e2]; heap_get
 have ot:h2.get? hp.objs.size=some { cls:=.type "tuple",data:=.seq rest.toArray }:=by rw [<- e2]; exact O1 _ (Heap.get?_push_at rfl rfl)
 rw [e2];have G:=kp _ _ j;have self:(bW kC :: tl).contains (.ref kC)=true:=by simp
 unfold isInstance
 repeat (first | with_reducible refine wpAny_loadPart_at U ?_ | (with_reducible refine wpAny_isSubtype_exc G ?_; rw [self]) | wp_step)
 show aI _ _ (typeLookup (.ref kC) _) _ _ _;refine (fY (X.keeps kp) ei).at ?_;refine bB (aF ?_);unfold bindSpecial;refine aF (bK (T := "function") ⟨_,kp _ _ of,Y⟩ ?_);rw [bO (by decide)];refine aQ (aF (af (Z h2 kp U) (fun r s' z=>?_) fun _ _ z=>z))
 obtain ⟨rfl,z⟩:=z
 wp_walk
 exact z
theorem Qg8 (O:ExcBaseFacts Bn newI inN tN) (q:tB.contains (.type Bn)=true) (F:ExcBaseFacts BB nI initI tB) (T:OwnTail hp tB tl) {rest:List aB} {z:aA} {B:Obj} {Q:aB->aC->Prop}
  (j:hp.get? kC=some (excClassObj cn cq kC kN bas tl hd sns subs abb coll dic j0 j1 j2 j3 j5 newI)) {K:bU} (X:K.In hp) (I:bZ K (.ref kC) "__init__" = some (some (.ref z))) (of:hp.get? z=some B) (J:B.cls=.type "function")
  (G:∀ h',(∀ b o,hp.get? b=some o->h'.get? b=some o)->h'.get? (hp.objs.size + 1)=some { cls:=.ref kC,data:=.fields #[.ref hp.objs.size,.none,.none,.none,.bool false,.none] }->aI (aJ prog w) (A.under (.builtin "type.__call__" ⟨.ref kC :: rest,[]⟩)) (call (.ref z) (.ref (hp.objs.size + 1) :: rest)) (fun r s'=>r=.none/\Q (.ref (hp.objs.size + 1)) s') E ⟨h',gs,dr,tk,sy⟩) (hz:rest.length<=sizeLine) :
  aI (aJ prog w) A (call (.ref kC) rest) Q E ⟨hp,gs,dr,tk,sy⟩:=by
 have Y:=tc_lookup;have U:=tc_bind (.ref kC);have ty:(⟨hp,gs,dr,tk,sy⟩:aC).TypeIs (.ref kC) "type" := ⟨_,j,rfl⟩;refine wpAny_call (codeAny_of_tree ?_);show aI _ _ (callAny (.ref kC) _) _ _ _
 repeat (any_goals (first | assumption | with_reducible refine wpAny_loadPart_at j ?_ | wp_step))
 refine ⟨rfl,?_⟩;exact codeAny_call_builtin_at (Code.quiet_builtin _ (by decide +kernel)) entry_typeCall (wpAny_check_type_call_sub j (Q6w (hz:=hz) O q F T j X I of J fun h' k m=>G h' k m))
end
section
variable {M:Model} {A:aR} {E:aB->aC->Prop} {env:Env}
variable {cn cq:Str} {kC kN:aA} {bas tl:List aB} {hd:Bool} {sns:List Str} {subs:List aB} {abb:Bool} {coll:Option Bool} {dic:Option aA} {j0 j1 j2 j3 j5:Option aB} {newI:String}
theorem Q96 {s:aC} {x:Sem aB} {Q:Flow->aC->Prop} (B:tl.contains (.type "BaseException")=true) (G:A.handled=none)
  (h:aI M A x (fun v s1=>∃ e t j,v=.ref e/\s1.heap.get? kC=some (excClassObj cn cq kC kN bas tl hd sns subs abb coll dic j0 j1 j2 j3 j5 newI) /\
   s1.heap.get? e=some { cls:=.ref kC,dict:=j,data:=.fields #[.ref t,.none,.none,.none,.bool false,.none] }/\E (.ref e) s1) E s):aI M A (raiseStmt env (some x) none) Q E s:=by
 have I:(bW kC :: tl).contains (.type "BaseException")=true:=by rw [List.contains_cons,B,Bool.or_true]
 unfold raiseStmt;refine aF (af h (fun v s1 z=>?_) fun _ _ z=>z)
 obtain ⟨e,t,j,rfl,q,J,z⟩:=z;obtain ⟨hp,gs,dr,tk,sy⟩:=s1
 repeat (first | with_reducible refine wpAny_loadPart_at J ?_ | with_reducible refine wpAny_loadPart_at q ?_ | (with_reducible refine wpAny_isSubtype_exc q ?_; rw [I]) | wp_step)
 exact wpAny_raiseNew_none G z
end
end PySem
namespace L2
open PySem PySem.Spec PyProof.Rows PySem.W PySem.Builtin.ObjectAttr
structure XSet (K:Frag) (C W:aA) (name:Str):Prop where
 sa:findIn K (.ref C) "__setattr__" = some (some (.builtin "object.__setattr__"))
 ob:mroIn K C (.type "object")=some true
 cls:∃ cd,clsIn K C=some cd/\cd.mro=.ref C :: .ref W :: Vw/\cd.hasDict=true
 no:findIn K (.ref C) name=some none
section
variable {prog:aP} {w:aO} {A:aR} {E:aB->aC->Prop} {s:aC} {K:Frag} {x C W:aA} {name:Str} {v:aB}
theorem Qqf {vs:Array aB} {Q:Unit->aC->Prop} (X:K.In s.heap) (S:XSet K C W name) (z:s.heap.get? x=some { cls:=.ref C,data:=.fields vs })
  (hq:∀ h' tk,h'.get? x=some { cls:=.ref C,dict:=some s.heap.objs.size,data:=.fields vs }->h'.Ns1 s.heap.objs.size (fun y=>if y=name then some v else none) ->
   (∀ b o,b≠x->s.heap.get? b=some o->h'.get? b=some o)->Q () { s with heap:=h',toks:=tk }):aI (aJ prog w) A (setAttr (.ref x) name v) Q E s:=by
 have J:InstAt s.heap x { cls:=.ref C,data:=.fields vs } C none:=⟨z,rfl,rfl,True.intro⟩;obtain ⟨cd,Y,hm,hd⟩:=S.cls;refine set_plain X J S.sa ?_;have j:=PySem.F.store_ValueError;have sub:Looks (aJ prog w) s.heap (isInstance (.ref x) (.type "object")) true:=J.type.andThen (looks_mroIn X S.ob);refine codeAny_call_builtin j.slot.plain j.entry (@check_slot (aJ prog w) _ _ { s with toks:=s.toks + 1 } "object.__setattr__" "object" "__setattr__" (.ref x) [.str name s.toks,v] [] _ j.kind j.split sub (j.args (.ref x) (.str name s.toks) v) ?_);have lm:Looks (aJ prog w) s.heap (mroOf (.ref C)) cd.mro:=(looks_clsIn X Y).andThen .now;rw [osa_eq,refuse_eq];refine aF (aF (Looks.here (s:={ s with toks:=s.toks + 1 }) J.type (aF (Looks.here (s:={ s with toks:=s.toks + 1 }) lm ?_))));rw [hm,refuseLoop_ref,refuseLoop_ref,j.passes];refine aQ (aF (Looks.here (s:={ s with toks:=s.toks + 1 }) J.type (aF (Looks.here (s:={ s with toks:=s.toks + 1 }) (looks_findIn X S.no) (aF (aQ ?_))))))
 dsimp only;unfold storeInOwnDict;refine aF (aQ (aF ?_));unfold ownDictForStores instanceDict;refine aF (wpAny_loadPart z (aF (Looks.here (s:={ s with toks:=s.toks + 1 }) (looks_clsIn X Y) ?_)));rw [hd];have U:(s.heap.push { cls:=.type "dict",data:=.dict #[] }).get? x=some { cls:=.ref C,data:=.fields vs }:=O1 _ z;have xs:x≠s.heap.objs.size:=E8 (D0 z);have th:typeHasDict (.ref C)=true:=rfl;dsimp only;rw [bP (by decide),bP (by rw [th]; decide)];refine aF (wpAny_alloc' ?_);refine aF (wpAny_update' U ?_);refine aQ ?_;obtain ⟨h2,e2⟩:∃ h2,((s.heap.push { cls:=.type "dict",data:=.dict #[] }).update x fun o=>{ cls:=o.cls,dict:=some s.heap.objs.size,data:=o.data,slots:=o.slots })=h2:=⟨_,rfl⟩
 have g2:h2.get? s.heap.objs.size=some { cls:=.type "dict",data:=.dict #[] }:=by rw [<- e2]; exact (Heap.get?_update_ne _ _ _ _ xs.symm).trans (Heap.get?_push_at rfl rfl)
 have x2:h2.get? x=some { cls:=.ref C,dict:=some s.heap.objs.size,data:=.fields vs }:=by rw [<- e2]; exact L8 _ U rfl
 have k2:∀ b o,b≠x->s.heap.get? b=some o->h2.get? b=some o:=fun b o n q=>by rw [<- e2]; exact (Heap.get?_update_ne _ _ _ _ n).trans (O1 _ q)
 have n2:h2.Ns s.heap.objs.size (fun _=>none):=⟨_,#[],_,g2,rfl,fun e he=>absurd he (by simp),fun _=>rfl⟩;show aI _ _ (storeInDict s.heap.objs.size (.str name s.toks) name v) _ _ _;rw [e2];unfold storeInDict newKeyGuard;refine aF (aQ (aF (wpAny_nsSet1 (Heap.Ns1.of_empty n2) fun h' O Z=>?_)))
 obtain ⟨oD,a3,a2,I,G,B⟩:=O.count (Within.cons name v Within.nil);refine aF (wpAny_lookBehind I (by rw [G]; exact pastItsLine_dict (F1 B (by rw [D8,cG,sizeLine_eq]; omega))) ?_);exact aQ (hq h' _ ((Z.2 x xs).trans x2) O fun b o n q=>(Z.2 b (E8 (D0 q))).trans (k2 b o n q))
end
end L2
namespace L2
open PySem PySem.Spec PyProof.Rows PySem.W
def XO (x C:aA) (dv:Option aA) (h:Heap):Prop:=∃ t,h.get? x=some { cls:=.ref C,dict:=dv,data:=.fields #[.ref t,.none,.none,.none,.bool false,.none] }
theorem Qk0 {P:aP} {w:aO} {H:Hp} {h:Heap} {x C:aA} {j:Option aA} (o:XO x C j h):ObjOk P w H h x (.ext (XO x C j)):=
 ⟨o,o.elim fun t e=>⟨_,e⟩,fun h1 h2 ⟨t,e⟩ k=>⟨t,k _ e⟩⟩
structure XMade (K:Frag) (C W f:aA):Prop where
 lk:∃ nm q N bs sn sub ab col dd k0 k1 k2 k3 k5,K.lookup C=some (excClassObj nm q C N bs (.ref W :: Vw) true sn sub ab col dd k0 k1 k2 k3 k5 "ValueError.__new__")
 xw:excIn K W Vw "ValueError.__new__" = true
 fi:findIn K (.ref C) "__init__" = some (some (.ref f))
 ff:∃ o,K.lookup f=some o/\o.cls=.type "function"
 kp:keepIn K (.ref C)=true
theorem XMade.tail {K:Frag} {C W f:aA} {h:Heap} (M:XMade K C W f) (X:K.In h):OwnTail h Vw (.ref W :: Vw):=by
 obtain ⟨tl,N,nm,B,bs,hdct,sn,sub,ab,col,dd,k0,k1,k2,k3,k5,mN,z,q,j,T⟩:=(Qgv (mg:=fun _=>some (.ref W)) (x := "W") X rfl M.xw).obj
 exact .own z q j .base
section
variable {prog:aP} {w:aO} {A:aR} {E:aB->aC->Prop} {s:aC} {K:Frag} {x C W f:aA}
theorem Qug {u:aB} {Q:aB->aC->Prop} (X:K.In s.heap) (M:XMade K C W f) (o:XO x C none s.heap)
  (z:∀ h',(∀ b o,b≠x->s.heap.get? b=some o->h'.get? b=some o)->XO x C none h'->Q .none { s with heap:=h' }):aI (aJ prog w) A (call (.builtin "ValueError.__init__") [.ref x,u]) Q E s:=by
 obtain ⟨t,j⟩:=o;obtain ⟨nm,q,N,bs,sn,sub,ab,col,dd,k0,k1,k2,k3,k5,lk⟩:=M.lk;obtain ⟨hp,gs,dr,tk,sy⟩:=s;refine wpAny_call (codeAny_call_builtin PySem.F.excBase_ValueError.init.plain PySem.F.excBase_ValueError.initEntry (wpAny_check_init_subU dJ (M.tail X) (X _ _ lk) j rfl ?_))
 wp_walk
 refine z _ (fun b o n e=>?_) ⟨hp.objs.size,?_⟩
 ·rw [F5 _ _ (Ne.symm n)];exact O1 _ e
 ·rw [L8 _ (O1 _ j) rfl];rfl
end
section
variable {X:Cx} {x C W f:aA}
structure XCall (K:Frag) (W:aA):Prop where
 ga:specialIn K (.ref W) "__getattribute__" = some (some (.builtin "type.__getattribute__"))
 rd:readsIn K W (.type "type")=true
 fc:findCls K (.ref W) (.type "type") "__init__" = some (.val (.builtin "ValueError.__init__"))
def tXI (K:Frag) (C W f:aA) (t:TA):TE:=fun σ H Q=>t σ H fun vs H1=>∃ x y,vs=[.ref x,y]/\H1 x=some (.ext (XO x C none))/\Q .non H1
theorem Qmj {n:Str} {p apos pos:Pos} {a b:aD} {t:TA} {pl:Sem Bool} (M:XMade X.K C W f) (L:XCall X.K W) (Y:Gl X n) (hm:X.mg n=some (.ref W)) (ha:PA X [a,b] t) (B:(n == ("__debug__" : Str))=false:=by decide)
  (J:aM [a,b] X.env=[(false,aL a X.env),(false,aL b X.env)]:=by rfl)
  (Z:aL (.Call (.Attribute (.Name n p) "__init__" apos) [a,b] [] pos) X.env=(do
   let ov <- aL (.Name n p) X.env
   standAt apos.atName
   let (g,first) <- aj [ov] (getMethod ov "__init__" pl)
   callWith pos g first (aU pos (aM [a,b] X.env)) (backToKw pos (keywordEach [] X.env))):=by rfl) :
  PE X (.Call (.Attribute (.Name n p) "__init__" apos) [a,b] [] pos) (tXI X.K C W f t):=by
 intro pins s σ H Q I h;refine methodCall_KW (pl:=pl) (qw I Y hm ?_ B) Z;refine method_cls I.kIn L.ga (cls_value I.kIn L.rd L.fc (by first | rfl | kernel_rfl) ?_);have I1:Inv X pins σ H { s with toks:=s.toks + 1 }:=I.tok _;have O:=ha pos pins _ σ H _ I1 h;rw [J] at O ⊢;refine Calls.callWith_builtin rfl (Calls.evalArgs_plain ?_);refine thn O fun us s2 ⟨vs,H2,G,r2,x,y,e,j,q⟩=>?_
 subst e;obtain ⟨u1,u2,rfl,r1,r3⟩:=Qun r2;cases r1;refine Qug G.kIn M (G.hok x _ j).1 fun h' U o=>?_
 refine ⟨.non,H2,?_,rfl,q⟩;have:=G.write (x:=x) (e:=x) (o:=.ext (XO x C none)) (t':=s2.toks) (h':=h') (by rw [j]; exact trivial) (.inl rfl) U (o.elim fun t e=>⟨_,e⟩) (Qk0 o);have eq:upd H2 x (.ext (XO x C none))=H2:=by
  funext b
  by_cases z:b=x
  ·subst z; rw [J5,j]
  ·rw [Qa z]
 rw [eq] at this;exact this
theorem Inv.trackO {pins:List (aA × Obj)} {σ:St} {H H':Hp} {s s1:aC} {a:aA} {U:HO} (J:Inv X pins σ H s) (Y:∀ b,b∉X.ex) (h0:s.heap.get? a=none) (I:Inv X pins σ H' s1) (G:H' a=none) (o:ObjOk X.prog X.w (upd H' a U) s1.heap a U):Inv X pins σ (upd H' a U) s1:=by
 have j:∀ b u,s.heap.get? b=some u->b≠a:=fun b u e z=>by rw [z,h0] at e; cases e
 have Z:∀ b u,X.s₀.heap.get? b=some u->b≠a:=fun b u e=>by
  obtain ⟨u',e'⟩:=J.base.there b u e (Y b);exact j b u' e'
 refine ⟨I.ok,I.os,I.bare,?_,I.loc,I.cell,?_,?_,?_,?_,I.len⟩
 ·have B:=I.base;exact ⟨B.keep,B.slot,fun c o e n hx=>by rw [Qa (Z c o e)]; exact B.free c o e n hx,B.there,
   fun c O e=>by have:=B.tups c O e; rw [Qa (Qd this G)]; exact this,
   fun c o O e=>by have:=B.frzs c o O e; rw [Qa (Qd this G)]; exact this,
   fun c ps e=>by obtain ⟨more,q⟩:=B.tbls c ps e; exact ⟨more,by rw [Qa (Qd q G)]; exact q⟩⟩
 ·obtain ⟨m,⟨o,_,_,e,_⟩,_⟩:=J.loc;rw [Qa (j _ _ e)]; exact I.free
 ·intro x c e;obtain ⟨v,o,z,_⟩:=J.cell x c e;rw [Qa (j _ _ z)]; exact I.freeC x c e
 ·intro p hp;obtain ⟨e,n,ne,nf,d⟩:=I.pin p hp;exact ⟨e,by rw [Qa (j _ _ (J.pin p hp).1)]; exact n,ne,nf,d⟩
 ·intro c u q
  by_cases hc:c=a
  ·subst hc;rw [J5] at q; cases q;exact o
  ·rw [Qa hc] at q;exact (I.hok c u q).stay (fun _ _ _ r=>r) (fun c' r=>by rw [Qa (Qd r G)]; exact r) fun c' O r=>by rw [Qa (Qd r G)]; exact r
def tXS (C:aA) (name:Str) (ta tv:TE):TS:=fun D σ H=>tv σ H fun y H1=>ta σ H1 fun v H2=>∃ x,v=.ref x/\H2 x=some (.ext (XO x C none)) /\
 ∀ dx,H2 dx=none->dx≠x->D.nx σ (upd (upd H2 x (.ext (XO x C (some dx)))) dx (.xd [(name,y)]))
theorem Qrk {o value:aD} {name:Str} {ta tv:TE} {pos pos':Pos} (B:∀ b,b∉X.ex) (S:XSet X.K C W name) (Z:PE X o ta) (Y:PE X value tv) (hs:swapsWith value (some (.Attribute o name pos')) pos.line X.env=pure false:=by rfl) :
  PS X (.Assign [.Attribute o name pos'] value pos) (tXS C name ta tv):=by
 intro pins s σ H D I h;refine plainObj_wpAny_Assign_Attribute (thn (Y pins s σ H _ I h) fun u s1 ⟨y,H1,I1,ry,q⟩=>thn (Z pins s1 σ H1 _ I1 q) fun U s2 ⟨v,H2,j,rx,x,ex,G,q2⟩=>?_) hs
 subst ex;obtain rfl:U=bW x:=rx;obtain ⟨t,J⟩:=(j.hok x _ G).1;refine Qqf j.kIn S J fun h' tk o' n' O=>?_
 have xs:s2.heap.objs.size≠x:=bt (D0 J);have I3:=j.write (x:=x) (e:=x) (o:=.ext (XO x C (some s2.heap.objs.size))) (t':=tk) (h':=h') (by rw [G]; exact trivial) (.inl rfl) O ⟨_,o'⟩ (Qk0 ⟨t,o'⟩);refine ⟨σ,_,?_,q2 s2.heap.objs.size j.fresh xs⟩;refine Inv.trackO j B (Heap.get?_none_of_le (O7 _)) I3 (by rw [Qa xs]; exact j.fresh) ⟨_,n',fun g=>?_⟩;show RelO ([(name,y)].lookup g) (if g=name then some u else none)
 by_cases z:g=name
 ·subst z;rw [bO rfl,E6,show (g == g)=true by simp];exact ry
 ·have:(g == name)=false:=by simpa using z
  rw [bP z,E6,this];exact trivial
end
end L2
namespace PySem
open Sem (wp)
def Q1a (o:Obj):Option aB:=match o.data with | .fields vs=>vs[2]? | _=>none
theorem Qe6 {o:Obj} {vs:Array aB} {x:aB} (j:o.data=.fields vs):Q1a (br (·.setIfInBounds 1 x) o)=Q1a o:=by
 have d:=cB j (·.setIfInBounds 1 x);unfold Q1a;rw [d,j];exact fE (by decide)
section
variable {M:Model} {A:aR} {E:aB->aC->Prop} {s:aC} {bs:Heap} {en:Env} {ou:List Env} {L e:aA} {ob:Obj} {vs:Array aB} {a0:aB} {Q:Unit->aC->Prop}
theorem Q8s {B:aB} {nx:Bool} (fr:A.frames=some (en :: ou)) (ff:s.heap.FunFrames bs (en :: ou)) (ef:en.frame=some L) (Y:s.heap.get? e=some ob) (kb:bs.StaysIn s.heap) (ne:bs.get? e=none)
  (I:ob.data=.fields vs) (z1:1 < vs.size) (z0:vs[0]?=some a0)
  (h:∀ h',Heap.LeftW bs (en :: ou) e ob.cls a0 s.heap h'->(∃ o',h'.get? e=some o'/\o'.dict=ob.dict/\Q1a o'=Q1a ob)->Q () { s with heap:=h' }) :
  aI M A (do
   let a <- frameOf en
   let pl <- entryPlaceOf L nx
   let b <- EntryCells.newEntry B a .none (aa L) .none pl
   setField (.ref e) 1 b) (fun _ s'=>aI M A (setFlight (.ref e) none) Q E s') E s:=by
 have nf:e∉(en :: ou).filterMap (·.frame):=fun m=>by
  obtain ⟨_,o,q,n⟩:=ff.mem m;rw [Y] at q;cases q;exact n vs I
 refine aF (wpAny_frameOf_fun fr ff ef fun g gs=>?_);refine aF (wpAny_entryPlaceOf fun pl hp=>?_);unfold EntryCells.newEntry newFields;refine aF (av ?_ (hp.sizeOk5 _ _ _ _ _));have ge:g.get? e=some ob:=(gs.2.1 e nf).trans Y;have gb:bs.StaysIn g:=fun b o q=>(gs.2.1 b fun m=>by
  rw [(ff.mem m).1] at q;cases q).trans (kb b o q)
 obtain ⟨tb,O⟩:∃ tb:List aB,[B,.ref L,.none,aa L,.none] ++ (if pl.isEmpty then bV 6 bb else pl)=tb:=⟨_,rfl⟩;have l5:3 < tb.length/\tb[3]?=some (aa L):=by
  rw [<- O];exact ⟨by simp,by simp⟩
 rw [O];have J:=O1 (h:=g) { cls:=.type "traceback",dict:=none,data:=.fields tb.toArray } ge;refine wpAny_setField J I z1 ?_;have te:g.objs.size≠e:=bt (D0 ge);have d3:=cB I (·.setIfInBounds 1 (bW g.objs.size));have j:=L8 (br (·.setIfInBounds 1 (bW g.objs.size))) J (dF d3);have G:=(F5 (g.push { cls:=.type "traceback",dict:=none,data:=.fields tb.toArray })
  (br (·.setIfInBounds 1 (bW g.objs.size))) te.symm).trans
  (D7 g rfl)
 unfold setFlight;refine aF (aX j d3 (x:=.ref g.objs.size) (by simp [z1]) ?_);rw [bO (show (bW g.objs.size != bb)=true by simp)];refine wpAny_setField G rfl (by simpa using l5.1) (h _ ?_ ?_)
 all_goals
  obtain ⟨Z,U⟩:∃ Z,((g.push { cls:=.type "traceback",dict:=none,data:=.fields tb.toArray }).update e (br (·.setIfInBounds 1 (bW g.objs.size))))=Z:=⟨_,rfl⟩;rw [U] at j G ⊢
 ·have kp:∀ b o,b≠e->g.get? b=some o->(Z.update g.objs.size (br (·.setIfInBounds 3 ((none:Option aA).elim bb fun f=>aa f)))).get? b=some o:=fun b o n q=>by
   rw [F5 _ _ (bt (D0 q)),<- U,F5 _ _ n.symm];exact O1 _ q
  have nr:∀ b o,s.heap.get? b=some o->(∀ ws,o.data≠.fields ws)->b≠e:=fun b o q n z=>by
   rw [z,Y] at q;cases q;exact n vs I
  refine ⟨fun b o q=>kp b o (fun z=>by rw [z,ne] at q; cases q) (gb b o q),ff.of_keeps fun b o q n=>?_,?_,fun b o q n=>?_⟩
  ·obtain ⟨sl,z⟩:=gs.2.2 b o q;exact ⟨_,kp b _ (nr b o q n) z,rfl⟩
  ·refine ⟨_,_,g.objs.size,_,_,?_,⟨ez _ _,?_⟩,d3,by simp [z1],gb.fresh,te,L8 _ G (dF (cB rfl _)),cB rfl _,?_⟩
   ·rw [F5 _ _ te];exact j
   ·rw [fE (by decide)];exact z0
   ·have:=l5.1;simp [this]
  ·obtain ⟨sl,z⟩:=gs.2.2 b o q;exact ⟨sl,kp b _ (nr b o q n) z⟩
 ·refine ⟨_,(F5 _ _ te).trans j,?_,Qe6 I⟩;cases ob with
  | mk c d dt sl=>cases dt <;> first | rfl | cases I
theorem Qdv (G:A.frames=some (en :: ou)) (ff:s.heap.FunFrames bs (en :: ou)) (B:en.frame=some L) (j:s.heap.get? e=some ob) (kb:bs.StaysIn s.heap) (ne:bs.get? e=none)
  (z:ob.data=.fields vs) (q:vs[1]?=some .none) (I:vs[0]?=some a0)
  (h:∀ h',Heap.LeftW bs (en :: ou) e ob.cls a0 s.heap h'->(∃ o',h'.get? e=some o'/\o'.dict=ob.dict/\Q1a o'=Q1a ob)->Q () { s with heap:=h' }):aI M A (leaving en (.ref e)) Q E s:=by
 unfold leaving noteFrame;simp only [B];refine aF (aF (aX j z q ?_));rw [bP (by decide)];exact Q8s G ff B j kb ne z (cu.mp q).1 I h
theorem Qdu {cls:aB} {U:Option aA} (fr:A.frames=some (en :: ou)) (Y:en.frame=some L) (fl:Heap.FlyingW bs (en :: ou) e cls a0 s.heap) (dd:∃ o',s.heap.get? e=some o'/\o'.dict=U/\Q1a o'=some .none)
  (h:∀ h',Heap.FlyingW bs ou e cls a0 h'->(∃ o',h'.get? e=some o'/\o'.dict=U/\Q1a o'=some .none)->s.heap.UpToSlots h'->Q () { s with heap:=h' }):aI M A (leaving en (.ref e)) Q E s:=by
 obtain ⟨kb,ne,ff,oe,O,T,oT,ts,J,⟨hc,z0⟩,od,z1,nT,Te,hT,dT,z3⟩:=fl;obtain ⟨o',j,I,G⟩:=dd;rw [J] at j;cases j;unfold leaving noteFrame;simp only [Y];refine aF (aF (aX J od z1 ?_));rw [bO (show (bW T != bb)=true by simp)];refine aF (aX hT dT z3 ?_);rw [bP (show ¬ ((bb == aa L)=true) by simp [aa])];refine aF (wpAny_setField hT dT (cu.mp z3).1 ?_);have B:∀ b,b≠T->(s.heap.update T (br (·.setIfInBounds 3 bb))).get? b=s.heap.get? b:=fun b n=>F5 _ _ n.symm
 have Z:∀ b o,s.heap.get? b=some o->(∀ O,o.data≠.fields O)->b≠T:=fun b o q n z=>by
  rw [z,hT] at q;cases q;exact n ts dT
 refine Q8s fr (ff.of_keeps fun b o q n=>⟨o,(B b (Z b o q n)).trans q,rfl⟩) Y ((B e Te.symm).trans J) (fun b o q=>(B b fun z=>by rw [z,nT] at q; cases q).trans (kb b o q)) ne od (cu.mp z1).1 z0 fun h' lf d'=>?_
 obtain ⟨k1,⟨_,_,k2⟩,k3,k4⟩:=lf;rw [hc] at k3;exact h h' ⟨k1,ne,k2,k3⟩ (d'.imp fun o q=>⟨q.1,q.2.1.trans I,q.2.2.trans G⟩) fun b o q n=>k4 b o ((B b (Z b o q n)).trans q) n
theorem Q69 {j:aB} {nx:Bool} (fr:A.frames=some (en :: ou)) (ff:s.heap.FunFrames bs (en :: ou)) (ef:en.frame=some L) (O:s.heap.get? e=some ob) (kb:bs.StaysIn s.heap) (ne:bs.get? e=none)
  (B:ob.data=.fields vs) (Z:1 < vs.size) (z0:vs[0]?=some a0)
  (h:∀ h',Heap.NotedW bs (en :: ou) e ob.cls a0 (aa L) s.heap h'->(∃ o',h'.get? e=some o'/\o'.dict=ob.dict/\Q1a o'=Q1a ob)->Q () { s with heap:=h' }) :
  aI M A (do
   let a <- frameOf en
   let pl <- entryPlaceOf L nx
   let b <- EntryCells.newEntry j a .none (aa L) .none pl
   setField (.ref e) 1 b) Q E s:=by
 have nf:e∉(en :: ou).filterMap (·.frame):=fun m=>by
  obtain ⟨_,o,q,n⟩:=ff.mem m;rw [O] at q;cases q;exact n vs B
 refine aF (wpAny_frameOf_fun fr ff ef fun g gs=>?_);refine aF (wpAny_entryPlaceOf fun pl hp=>?_);unfold EntryCells.newEntry newFields;refine aF (av ?_ (hp.sizeOk5 _ _ _ _ _));have ge:g.get? e=some ob:=(gs.2.1 e nf).trans O;have Y:bs.StaysIn g:=fun b o q=>(gs.2.1 b fun m=>by
  rw [(ff.mem m).1] at q;cases q).trans (kb b o q)
 obtain ⟨tb,I⟩:∃ tb:List aB,[j,.ref L,.none,aa L,.none] ++ (if pl.isEmpty then bV 6 bb else pl)=tb:=⟨_,rfl⟩;have l5:3 < tb.length/\tb[3]?=some (aa L):=by
  rw [<- I];exact ⟨by simp,by simp⟩
 rw [I];have G:=O1 (h:=g) { cls:=.type "traceback",dict:=none,data:=.fields tb.toArray } ge;have te:g.objs.size≠e:=bt (D0 ge);have d3:=cB B (·.setIfInBounds 1 (bW g.objs.size));have J:=L8 (br (·.setIfInBounds 1 (bW g.objs.size))) G (dF d3);have U:=(F5 (g.push { cls:=.type "traceback",dict:=none,data:=.fields tb.toArray })
  (br (·.setIfInBounds 1 (bW g.objs.size))) te.symm).trans
  (D7 g rfl)
 refine wpAny_setField G B Z (h _ ?_ ?_)
 ·have kp:∀ b o,b≠e->g.get? b=some o->((g.push { cls:=.type "traceback",dict:=none,data:=.fields tb.toArray }).update e (br (·.setIfInBounds 1 (bW g.objs.size)))).get? b=some o:=fun b o n q=>by
   rw [F5 _ _ n.symm];exact O1 _ q
  have nr:∀ b o,s.heap.get? b=some o->(∀ ws,o.data≠.fields ws)->b≠e:=fun b o q n z=>by
   rw [z,O] at q;cases q;exact n vs B
  refine ⟨fun b o q=>kp b o (fun z=>by rw [z,ne] at q; cases q) (Y b o q),ff.of_keeps fun b o q n=>?_,?_,fun b o q n=>?_⟩
  ·obtain ⟨sl,z⟩:=gs.2.2 b o q;exact ⟨_,kp b _ (nr b o q n) z,rfl⟩
  ·refine ⟨_,_,g.objs.size,_,_,J,⟨ez _ _,?_⟩,d3,by simp [Z],Y.fresh,te,U,rfl,by simpa using l5.2⟩;rw [fE (by decide)];exact z0
  ·obtain ⟨sl,z⟩:=gs.2.2 b o q;exact ⟨sl,kp b _ (nr b o q n) z⟩
 ·refine ⟨_,J,?_,Qe6 B⟩;cases ob with
  | mk c d dt sl=>cases dt <;> first | rfl | cases B
theorem Qix {cls:aB} {U:Option aA} (fr:A.frames=some (en :: ou)) (Y:en.frame=some L) (fl:Heap.FlyingW bs (en :: ou) e cls a0 s.heap) (dd:∃ o',s.heap.get? e=some o'/\o'.dict=U/\Q1a o'=some .none)
  (h:∀ h',Heap.HeldW bs (en :: ou) e cls a0 L h'->(∃ o',h'.get? e=some o'/\o'.dict=U/\Q1a o'=some .none)->s.heap.UpToSlots h'->Q () { s with heap:=h' }):aI M A (noteFrame (.ref e) en) Q E s:=by
 obtain ⟨kb,ne,ff,oe,O,T,oT,ts,J,⟨hc,z0⟩,od,z1,nT,Te,hT,dT,z3⟩:=fl;obtain ⟨o',j,I,G⟩:=dd;rw [J] at j;cases j;unfold noteFrame;simp only [Y];refine aF (aX J od z1 ?_);rw [bO (show (bW T != bb)=true by simp)];refine aF (aX hT dT z3 ?_);rw [bP (show ¬ ((bb == aa L)=true) by simp [aa])];refine aF (wpAny_setField hT dT (cu.mp z3).1 ?_);have B:∀ b,b≠T->(s.heap.update T (br (·.setIfInBounds 3 bb))).get? b=s.heap.get? b:=fun b n=>F5 _ _ n.symm
 have Z:∀ b o,s.heap.get? b=some o->(∀ O,o.data≠.fields O)->b≠T:=fun b o q n z=>by
  rw [z,hT] at q;cases q;exact n ts dT
 refine Q69 fr (ff.of_keeps fun b o q n=>⟨o,(B b (Z b o q n)).trans q,rfl⟩) Y ((B e Te.symm).trans J) (fun b o q=>(B b fun z=>by rw [z,nT] at q; cases q).trans (kb b o q)) ne od (cu.mp z1).1 z0 fun h' nt d'=>?_
 obtain ⟨k1,k2,k3,k4⟩:=nt;rw [hc] at k3;exact h h' ⟨k1,ne,k2,k3⟩ (d'.imp fun o q=>⟨q.1,q.2.1.trans I,q.2.2.trans G⟩) fun b o q n=>k4 b o ((B b (Z b o q n)).trans q) n
theorem Q5t {l:List Env} {cls fv:aB} {Z:Option aA} (kb:bs.StaysIn s.heap) (ne:bs.get? e=none) (ff:s.heap.FunFrames bs l) (tr:s.heap.TracedAtW bs e cls a0 fv) (dd:∃ o',s.heap.get? e=some o'/\o'.dict=Z/\Q1a o'=some .none)
  (h:∀ h',Heap.FlyingW bs l e cls a0 h'->(∃ o',h'.get? e=some o'/\o'.dict=Z/\Q1a o'=some .none)->s.heap.UpToSlots h'->Q () { s with heap:=h' }):aI M A (setFlight (.ref e) none) Q E s:=by
 obtain ⟨oe,G,T,oT,ts,he,hc,Y,z1,nT,J,O,dT,z3⟩:=tr;obtain ⟨o',U,I,B⟩:=dd;have s3:=(cu.mp z3).1;have j:∀ b,b≠T->(s.heap.update T (br (·.setIfInBounds 3 ((none:Option aA).elim bb fun f=>aa f)))).get? b=s.heap.get? b:=fun b n=>F5 _ _ n.symm
 have nr:∀ b o,s.heap.get? b=some o->(∀ G,o.data≠.fields G)->b≠T:=fun b o q n z=>by
  rw [z,O] at q;cases q;exact n ts dT
 unfold setFlight;refine aF (aX he Y z1 ?_);rw [bO (show (bW T != bb)=true by simp)];refine wpAny_setField O dT s3 (h _ ⟨fun b o q=>(j b fun z=>by rw [z,nT] at q; cases q).trans (kb b o q),ne,ff.of_keeps fun b o q n=>⟨o,(j b (nr b o q n)).trans q,rfl⟩,?_⟩ ⟨o',(j e J.symm).trans U,I,B⟩ fun b o q n=>⟨o.slots,(j b (nr b o q n)).trans q⟩)
 exact ⟨oe,G,T,_,_,(j e J.symm).trans he,hc,Y,z1,nT,J,L8 _ O (dF (cB dT _)),cB dT _,by simp [s3]⟩
end
end PySem
namespace L2
open PySem PySem.Spec PyProof.Rows
def CXD (P:aP) (w:aO):CXT:=fun outer H s E e s'=>∃ a cls a0 dv H' B,e=bW a/\Fly P w outer H H' s s' a cls a0 B/\(∃ o',s'.heap.get? a=some o'/\o'.dict=dv/\Q1a o'=some .none)/\E cls dv H'
theorem Q6g {P:aP} {w:aO} {X:Cx}:Kx (CXD P w) X E0:=fun _ _ _ _ _ _ _ h=>by
 obtain ⟨_,_,_,_,_,_,_,_,_,z⟩:=h;exact z.elim
def Qc7 (H:Hp) (a:aA):Hp:=fun b=>if b=a then none else H b
theorem Q6q {H:Hp} {a b:aA} (h:b≠a):Qc7 H a b=H b:=by unfold Qc7; rw [bP h]
theorem Q2m {H:Hp} {a:aA}:Qc7 H a a=none:=by unfold Qc7; rw [bO rfl]
theorem Inv.drop {X:Cx} {pins:List (aA × Obj)} {σ:St} {H:Hp} {s:aC} {a:aA} {B:Heap->Prop} (I:Inv X pins σ H s) (h:H a=some (.ext B)):Inv X pins σ (Qc7 H a) s:=by
 have nn:∀ b,H b=none->Qc7 H a b=none:=fun b e=>by
  by_cases z:b=a
  ·subst z; exact Q2m
  ·rw [Q6q z]; exact e
 have j:∀ b o,H b=some o->o≠.ext B->Qc7 H a b=some o:=fun b o e n=>by
  rw [Q6q fun z=>?_]
  ·exact e
  ·subst z; rw [h] at e; exact n (bf e).symm
 refine ⟨I.ok,I.os,I.bare,?_,I.loc,I.cell,nn _ I.free,fun x c e=>nn _ (I.freeC x c e),fun p hp=>?_,fun b u q=>?_,I.len⟩
 ·have u:=I.base;exact ⟨u.keep,u.slot,fun b o e n J=>nn _ (u.free b o e n J),u.there,fun b xs e=>j _ _ (u.tups b xs e) (by simp),fun b o v e=>j _ _ (u.frzs b o v e) (by simp),fun b ps e=>by
   obtain ⟨more,q⟩:=u.tbls b ps e;exact ⟨more,j _ _ q (by simp)⟩⟩
 ·obtain ⟨e,n,ne,G,d⟩:=I.pin p hp;exact ⟨e,nn _ n,ne,G,d⟩
 ·by_cases z:b=a
  ·subst z; rw [Q2m] at q; cases q
  ·rw [Q6q z] at q;exact (I.hok b u q).stay (fun _ _ _ r=>r) (fun c r=>j _ _ r (by simp)) fun c O r=>j _ _ r (by simp)
section
variable {P:aP} {w:aO} {K:bU} {mg:Str->Option aB} {base:Heap} {N:List Str} {qual:Str} {scope:Scope} {f:aA} {cd:aB} {A:aR} {outer:List Env} {s:aC} {H:Hp} {E:XK}
abbrev cxD (P:aP) (w:aO) (K:bU) (mg:Str->Option aB) (base:Heap) (N:List Str) (qual:Str) (scope:Scope) (f:aA) (cd:aB) (A:aR) (outer:List Env) (s:aC) (H:Hp) (E:XK):Cx:=Qg6 (CXD P w) P w K mg base N qual scope f cd A outer s H E
theorem Qb3 {pins:List (aA × Obj)} {σ:St} {H1:Hp} {s1:aC} (I:Inv (cxD P w K mg base N qual scope f cd A outer s H E) pins σ H1 s1) {b:aA} {o:Obj} (e:s.heap.get? b=some o) (n:b∉frs outer):b∉frs (cxD P w K mg base N qual scope f cd A outer s H E).stack:=fun j=>by
 rcases E3.mp (I.stkSub b j) with z | z
 ·have h1:b < s.heap.objs.size:=D0 e;have h2:s.heap.objs.size<=(cxD P w K mg base N qual scope f cd A outer s H E).env.locals:=I.ok.above;rw [<- z] at h2;exact absurd (D3 h1 h2) (L7 _)
 ·exact n z
theorem Qnz {b:aA} (h:b∈frs outer):b∈frs (cxD P w K mg base N qual scope f cd A outer s H E).stack:=by
 show b∈frs (_ :: outer);unfold frs at h ⊢;rw [dU]
 split
 ·exact h
 ·exact D1 _ h
theorem Qve {pins:List (aA × Obj)} {σ:St} {H1:Hp} {s1:aC} {B:Heap} {e C t:aA} {Y:Option aA} (I:Inv (cxD P w K mg base N qual scope f cd A outer s H E) pins σ H1 s1)
  (U:∀ b o,b≠e->s1.heap.get? b=some o->B.get? b=some o) (a3:∀ o,s1.heap.get? e=some o->∃ vs,o.data=.fields vs) (new:s.heap.get? e=none) (hH:H1 e=none)
  (oe:B.get? e=some { cls:=.ref C,dict:=Y,data:=.fields #[.ref t,.none,.none,.none,.bool false,.none] }) (hE:E (.ref C) Y H1) :
  (cxD P w K mg base N qual scope f cd A outer s H E).xe (.ref e) { s1 with heap:=B }:=by
 have a4:∀ en∈(cxD P w K mg base N qual scope f cd A outer s H E).stack,∀ b,en.frame=some b->b∈e :: frs (cxD P w K mg base N qual scope f cd A outer s H E).stack:=fun en he b j=>D1 _ (eI.mpr ⟨en,he,j⟩)
 have ff:=PySem.W.funFrames_hide I.stack a4;have a2:∀ b o,s1.heap.get? b=some o->(∀ vs,o.data≠.fields vs)->b≠e:=fun b o q n z=>by
  subst z;obtain ⟨vs,d⟩:=a3 o q;exact n vs d
 have hid:(dR s1.heap (e :: frs (cxD P w K mg base N qual scope f cd A outer s H E).stack)).get? e=none:=fR _ D6;have kb:(dR s1.heap (e :: frs (cxD P w K mg base N qual scope f cd A outer s H E).stack)).StaysIn B:=fun b o q=>U b o (fun z=>by rw [z,hid] at q; cases q) (fQ _ q)
 show aI (aJ P w) _ (leaving _ (.ref e)) _ _ _;refine Qdv (bs:=dR s1.heap (e :: frs (cxD P w K mg base N qual scope f cd A outer s H E).stack)) (a0:=.ref t) (s:={ s1 with heap:=B }) I.ok.frames (ff.of_keeps fun b o q n=>⟨o,U b o (a2 b o q n) q,rfl⟩) rfl oe kb hid rfl rfl rfl fun h2 lf dd=>?_
 obtain ⟨k1,⟨_,_,k2⟩,k3,k4⟩:=lf;have noex:∀ b:aA,b∉(cxD P w K mg base N qual scope f cd A outer s H E).ex:=fun b z=>absurd (show b∈([]:List aA) from z) (by simp)
 have G:∀ b o,s.heap.get? b=some o->b≠e:=fun b o q z=>by rw [z,new] at q; cases q
 have J:∀ b o,s.heap.get? b=some o->b∉frs outer->b∉e :: frs (cxD P w K mg base N qual scope f cd A outer s H E).stack:=fun b o q n m=>by
  rcases E3.mp m with z | z
  ·exact G b o q z
  ·exact Qb3 I q n z
 refine ⟨e,.ref C,.ref t,Y,H1,_,rfl,⟨I.os,I.bare,⟨k1,hid,k2,k3⟩,fun b u q=>?_,fun b o q n j=>?_,fun b o q j=>?_,fun b o q j=>?_,fun b o q n=>I.base.free b o q n (noex b),I.base.tups,I.base.frzs,I.base.tbls⟩,dd,hE⟩
 ·have ne:∀ c v,H1 c=some v->c∉e :: frs (cxD P w K mg base N qual scope f cd A outer s H E).stack:=fun c v z m=>by
   rcases E3.mp m with m | m
   ·rw [m,hH] at z; cases z
   ·rw [I.stkFree c m] at z; cases z
  refine (I.hok b u q).stay (fun c v hc r=>dS _ r ?_) (fun _ r=>r) fun _ _ r=>r
  rcases hc with rfl | hc
  ·exact ne c u q
  ·exact ne c _ hc
 ·exact dS _ (I.base.keep b o q n j (noex b)) (J b o q j)
 ·obtain ⟨o',z⟩:=I.base.there b o q (noex b);exact ⟨o',dS _ z (J b o q j)⟩
 ·obtain ⟨sl,z⟩:=I.base.slot b o q (I.ok.frf b j) j (noex b);obtain ⟨_,o',a6,a5⟩:=I.ok.funs.mem j;have O:s.heap.get? b=some o':=a6;rw [q] at O;cases O;obtain ⟨Z,z'⟩:=k4 b _ (U b _ (G b o q) z) a5;exact ⟨Z,z'⟩
theorem Uq:Kx (CXD P w) (cxD P w K mg base N qual scope f cd A outer s H E) E:=by
 intro pins σ H1 s1 e s' I h;obtain ⟨a,cls,a0,Y,H',B,rfl,F,dd,hE⟩:=h;show aI (aJ P w) _ (leaving _ (.ref a)) _ _ _;have noex:∀ b:aA,b∉(cxD P w K mg base N qual scope f cd A outer s H E).ex:=fun b z=>absurd (show b∈([]:List aA) from z) (by simp)
 refine Qdu I.ok.frames rfl F.fl dd fun h2 x1 Z x2=>?_
 refine ⟨a,cls,a0,Y,H',B,rfl,⟨F.os.trans I.os,F.bare,x1,F.hokB,fun b o q n j=>?_,fun b o q j=>?_,fun b o q j=>?_,fun b o q n=>?_,fun b xs q=>F.tups b xs (I.base.tups b xs q),fun b o u q=>F.frzs b o u (I.base.frzs b o u q),fun b ps q=>?_⟩,Z,hE⟩
 ·exact F.keep b o (I.base.keep b o q n j (noex b)) (I.base.free b o q n (noex b)) (Qb3 I q j)
 ·obtain ⟨o',z⟩:=I.base.there b o q (noex b);exact F.there b o' z (Qb3 I q j)
 ·obtain ⟨sl,z⟩:=I.base.slot b o q (I.ok.frf b j) j (noex b);obtain ⟨_,o',U,J⟩:=I.ok.funs.mem j;have G:s.heap.get? b=some o':=U;rw [q] at G;cases G;obtain ⟨a2,z'⟩:=F.slot b _ z (Qnz j);obtain ⟨O,z2⟩:=x2 b _ z' J;exact ⟨O,z2⟩
 ·obtain ⟨o',z⟩:=I.base.there b o q (noex b);exact F.free b o' z (I.base.free b o q n (noex b))
 ·obtain ⟨m1,e1⟩:=I.base.tbls b ps q;obtain ⟨m2,e2⟩:=F.tbls b _ e1;exact ⟨m1 ++ m2,by rw [e2,fS]⟩
end
section
variable {X:Cx}
def Q91 (X:Cx) (E:XK):Prop:=∀ (pins:List (aA × Obj)) (σ:St) (H0 H1:Hp) (s0 s1:aC) (hx:Heap) (e C t:aA) (dv:Option aA),Inv X pins σ H0 s0->s0.heap.get? e=none->Inv X pins σ H1 s1->(∀ b o,b≠e->s1.heap.get? b=some o->hx.get? b=some o) ->
 (∀ o,s1.heap.get? e=some o->∃ vs,o.data=.fields vs)->H1 e=none->hx.get? e=some { cls:=.ref C,dict:=dv,data:=.fields #[.ref t,.none,.none,.none,.bool false,.none] }->E (.ref C) dv H1->X.xe (.ref e) { s1 with heap:=hx }
theorem Qia {x:Str} {C:aA} {e:aD} {t:TA} {E:XK} {np cpos pos:Pos} (j:X.calm=true) (RO:Q91 X E) (hg:Gl X x) (Z:X.mg x=some (.ref C)) (q:bY X.K C Vw "ValueError.__new__" = true) (ha:PA X [e] t)
  (U:(x == ("__debug__" : Str))=false:=by decide) (Y:aM [e] X.env=[(false,aL e X.env)]:=by rfl):PS X (.Raise (some (.Call (.Name x np) [e] [] cpos)) none pos) (Qut C E t):=by
 intro pins s σ H D I h;obtain ⟨tl,N,nm,qn,bs,hdct,sn,sub,ab,col,dd,k0,k1,k2,k3,k5,mN,hC,hN,O,T⟩:=(Qgv I.mod.kin Z q).obj;refine wpAny_Raise_call_subU (C:=C) (nm:=nm) (q:=qn) (N:=N) (bs:=bs) (bm:=tl) (hdct:=hdct) (sn:=sn) (sub:=sub) (ab:=ab) (col:=col) (dd:=dd) (k0:=k0) (k1:=k1) (k2:=k2) (k3:=k3) (k5:=k5)
  dJ (by decide +kernel) dJ (mN:=mN) (T.hasType (by decide +kernel)) (I.ok.hd j) (by rw [Y]; rfl) O (qw I hg Z ⟨rfl,?_⟩ U)
 have J:=ha cpos pins s σ H _ I h;rw [Y] at J ⊢;refine Calls.evalArgs_plain (af J (fun us s1 ⟨vs,H1,B,r,z,hE⟩=>?_) fun _ _ y=>y)
 refine ⟨rfl,by rw [<- r.length]; exact z,B.bk _ _ hC,hN.keeps B.bk,T.keeps B.bk,fun h' e' G=>?_⟩;obtain ⟨t,oe,_,_⟩:=G.there;exact RO pins σ H1 H1 s1 s1 h' e' C t none B G.new B (fun b o _ k=>G.keeps b o k) (fun o k=>by rw [G.new] at k; cases k) (B.hok.none_of G.new) oe hE
def Q73 (C:aA) (name:Str):Sp:=fun vs H Q _=>∃ (x:aA) (v:V),vs=[.ref x,v]/\H x=some (.ext (XO x C none))/\∀ dx,H dx=none->dx≠x->Q .non (upd (upd H x (.ext (XO x C (some dx)))) dx (.xd [(name,v)]))
def Qqi (C:aA) (name:Str) (E:XK) (t:TA):TS:=fun _ σ H=>t σ H fun vs H1=>∃ v,vs=[v]/\∀ dx,H1 dx=none->E (.ref C) (some dx) (upd H1 dx (.xd [(name,v)]))
theorem Qi9 {x name:Str} {C W f:aA} {fd:aN} {k:Nat} {ps:List Str} {e:aD} {t:TA} {E:XK} {np cpos pos:Pos} (O:X.calm=true) (RO:Q91 X E) (M:XMade X.K C W f) (G:FnOk X.prog X.w X.K X.mg X.base CX0 k f fd ps (Q73 C name)) (hr:Room (k + 1) X.A)
  (hb:Binds X.K fd ps []) (hg:Gl X x) (hm:X.mg x=some (.ref C)) (ha:PA X [e] t)
  (a2:(x == ("__debug__" : Str))=false:=by decide) (he:aM [e] X.env=[(false,aL e X.env)]:=by rfl):PS X (.Raise (some (.Call (.Name x np) [e] [] cpos)) none pos) (Qqi C name E t):=by
 intro pins s σ H D I h;obtain ⟨nm,q,N,bs,sn,sub,ab,col,dd,k0,k1,k2,k3,k5,lk⟩:=M.lk;obtain ⟨of,lf,cf⟩:=M.ff;have oC:∀ {H':Hp} {s':aC},Inv X pins σ H' s'->s'.heap.get? C=some (excClassObj nm q C N bs (.ref W :: Vw) true sn sub ab col dd k0 k1 k2 k3 k5 "ValueError.__new__"):=fun J=>J.kIn _ _ lk
 rw [arm_exec_Raise];refine aF (wpAny_standAt (Q96 (kC:=C) (cn:=nm) (cq:=q) (kN:=N) (bas:=bs) (tl:=.ref W :: Vw) (hd:=true) (sns:=sn) (subs:=sub) (abb:=ab) (coll:=col) (dic:=dd) (j0:=k0) (j1:=k1) (j2:=k2) (j3:=k3) (j5:=k5) (newI := "ValueError.__new__") (by simp) (I.ok.hd O) ?_));refine aF (af (wpAny_Call_Name_kw (qw I hg hm (dD (h₀:=X.base) (Q:=fun v s1=>∃ e t dv,v=.ref e/\s1.heap.get? C=some (excClassObj nm q C N bs (.ref W :: Vw) true sn sub ab col dd k0 k1 k2 k3 k5 "ValueError.__new__")/\s1.heap.get? e=some { cls:=.ref C,dict:=dv,data:=.fields #[.ref t,.none,.none,.none,.bool false,.none] }/\X.xe (.ref e) s1) I.ok.mod.kin M.kp (thn (ha cpos pins s σ H _ I h) fun us s1 ⟨vs,H1,B,r,v,ev,hE⟩=>⟨B.kIn,?_⟩) (by rw [he]; rfl) rfl) a2)) (fun v s3 z=>aF (wpAny_standAt (aQ z))) fun _ _ z=>z)
 subst ev;obtain ⟨u,rfl,ru⟩:=r.one;obtain ⟨hp,gs,dr,tk,sy⟩:=s1;refine Qg8 (rest:=[u]) dJ (by decide +kernel) dJ (M.tail B.kIn) (oC B) B.kIn M.fi (B.kIn _ _ lf) cf (fun h' kp oe=>?_) (show 1<=sizeLine by decide);obtain ⟨a,ea⟩:∃ a,hp.objs.size + 1=a:=⟨_,rfl⟩;rw [ea] at oe ⊢;have la:hp.objs.size<=a:=by rw [<- ea]; exact cP _
 have na:H1 a=none:=B.hok.fresh la;have ga:hp.get? a=none:=Heap.get?_none_of_le la;have I2:Inv X pins σ (upd H1 a (.ext (XO a C none))) ⟨h',gs,dr,tk,sy⟩:=B.laid (t':=tk) (h':=h') kp la (Qk0 ⟨_,oe⟩);have sp:Q73 C name [.ref a,v] (upd H1 a (.ext (XO a C none))) (fun v' H'=>v'=.non/\∃ dx,H1 dx=none/\dx≠a/\H'=upd (upd (upd H1 a (.ext (XO a C none))) a (.ext (XO a C (some dx)))) dx (.xd [(name,v)])) E0:=
  ⟨a,v,rfl,J5,fun dx hn j=>⟨rfl,dx,by rwa [Qa j] at hn,j,rfl⟩⟩
 have r2:Vals [V.ref a,v] [bW a,u]:=.cons rfl (.cons ru .nil);have hl:([bW a,u] ++ []).length=ps.length:=by
  have:=G.len _ _ _ _ sp;simpa using this
 refine wpAny_call (bH (G.run _ X.stack _ _ ⟨[bW a,u],[]⟩ [bW a,u] _ _ E0 (hr.make C [u] []) (I2.env0.make C [u] []) (hb _ [bW a,u] I2.kIn hl) r2 sp) fun r s' z=>?_)
 cases r with
 | error e=>exact False.elim z
 | ok fl=>
  cases fl with
  | ret u'=>
   obtain ⟨v',H',Z,rv,ev,dx,hn,j,eH⟩:=I2.after z;subst ev;obtain rfl:u'=bb:=rv;have U:H' a=some (.ext (XO a C (some dx))):=by rw [eH,Qa (Ne.symm j),J5]
   obtain ⟨t2,o2⟩:=(Z.hok a _ U).1;have eD:Qc7 H' a=upd H1 dx (.xd [(name,v)]):=by
    funext b
    by_cases Y:b=a
    ·rw [Y,Q2m,Qa (Ne.symm j),na]
    ·rw [Q6q Y,eH]
     by_cases zd:b=dx
     ·rw [zd,J5,J5]
     ·rw [Qa zd,Qa zd,Qa Y,Qa Y]
   refine ⟨rfl,a,t2,some dx,rfl,oC Z,o2,?_⟩;have:=RO pins σ H1 (Qc7 H' a) _ s' s'.heap a C t2 (some dx) B ga (Z.drop U) (fun b o _ k=>k) (fun o k=>by rw [o2] at k; cases k; exact ⟨_,rfl⟩) Q2m o2 (by rw [eD]; exact hE dx hn);exact this
  | next=>exact False.elim z
  | brk=>exact False.elim z
  | cont=>exact False.elim z
end
theorem Qm6 {P:aP} {w:aO} {K:bU} {mg:Str->Option aB} {base:Heap} {N:List Str} {qual:Str} {scope:Scope} {f:aA} {cd:aB} {A:aR} {outer:List Env} {s:aC} {H:Hp} {E:XK} :
  Q91 (cxD P w K mg base N qual scope f cd A outer s H E) E:=fun pins σ H0 H1 s0 s1 hx e C t Z B J I G j O Y U=>by
 refine Qve I G j ?_ O Y U;cases q:s.heap.get? e with
 | none=>rfl
 | some o=>
  obtain ⟨o',z⟩:=B.base.there e o q (fun z=>absurd (show e∈([]:List aA) from z) (by simp))
  rw [J] at z; cases z
theorem Fun.okD {P:aP} {w:aO} {K:bU} {mg:Str->Option aB} {base:Heap} {x qual:Str} {st:aK} {f:aA} {fd:aN} {N ps:List Str} {k:Nat} {sp:Sp} (F:Fun K x qual st f fd) (S:FnScope N ps (Q6 st)) (len:∀ vs H Q E,sp vs H Q E->vs.length=ps.length)
  (q:∀ (j:aB) (A:aR) (outer:List Env) (s:aC) (H:Hp) (vs:List V) (Q:VK) (E:XK),Room k (A.deeper (envOfC qual (Q6 st) s.heap.objs.size f j))->sp vs H Q E ->
   ∃ t,PSs (cxD P w K mg base N qual (Q6 st) f j A outer s H E) (Yd st) t/\t { nx:=fun _ H'=>Q .non H',rt:=Q } (start N vs) H):FnOk P w K mg base (CXD P w) (k + 1) f fd ps sp:=by
 obtain ⟨O,Y,kV,J,U,an,j,ct,G,rfl,lk,z⟩:=F.ex;exact Qud lk z S len fun A outer s H vs Q E I B=>q j A outer s H vs Q E I B
end L2
namespace L2
open PySem PySem.Spec PyProof.Rows PySem.W PySem.Builtin.Getset_descriptor
def IsXD (x C:aA) (dv:Option aA) (h:Heap):Prop:=∃ ox vs,h.get? x=some ox/\ox.cls=.ref C/\ox.dict=dv/\ox.data=.fields vs/\vs[2]?=some .none
theorem IsXD.x {x C:aA} {j:Option aA} {h:Heap} (I:IsXD x C j h):IsX x C h:=let ⟨q,_,a,b,_⟩:=I; ⟨q,a,b⟩
theorem Qtd {P:aP} {w:aO} {H:Hp} {h:Heap} {a C:aA} {j:Option aA} (I:IsXD a C j h):ObjOk P w H h a (.ext (IsXD a C j)):=
 ⟨I,(let ⟨o,_,e,_⟩:=I; ⟨o,e⟩),fun h1 h2 ⟨o,vs,e,c⟩ k=>⟨o,vs,k o e,c⟩⟩
structure XGet (K:Frag) (C:aA) (name:Str):Prop where
 xc:XCls K C
 hd:∃ cd,clsIn K C=some cd/\cd.hasDict=true
 no:findIn K (.ref C) name=some none
section
variable {prog:aP} {w:aO} {A:aR} {E:aB->aC->Prop} {h:Heap} {g:Array GenState} {d:Drawn} {t:Nat} {os:OsState} {K:Frag} {x C dx:aA} {name:Str} {v:aB} {m:Str->Option aB}
theorem Qqc {M:Model} (X:K.In h) (F:XGet K C name) (I:IsXD x C (some dx) h) (n:h.Ns1 dx m) (Y:m name=some v):Looks M h (Builtin.ObjectAttr.find (.ref x) (.ref C) name) (.value v):=by
 obtain ⟨ox,vs,e1,e2,e3,e4,_⟩:=I;obtain ⟨j,B,Z⟩:=Qag n;obtain ⟨cd,G,hd⟩:=F.hd;have J:InstAt h x ox C (some j):=⟨e1,e2,by unfold notCls; rw [e4],by rw [e3]; exact B⟩;have z:=looks_findIn (M:=M) X F.no;have O:Looks M h (Builtin.ObjectAttr.getOf none) none:=.now;have q:Looks M h (Builtin.ObjectAttr.dataDescriptor? none none) none:=.now;have U:Looks M h (Builtin.ObjectAttr.inOwnDict name (.ref x)) (some v):=looks_own X J G (by unfold PySem.W.ownOf; rw [hd,bO rfl]; show lookIn name j=_; rw [Z,Y]);exact z.andThen (O.andThen (q.andThen (U.andThen (Looks.tag .now))))
theorem Qk1 {tk:Tok} {Q:Fin->aC->Prop} (X:K.In h) (F:XGet K C name) (I:IsXD x C (some dx) h) (n:h.Ns1 dx m) (z:m name=some v) (B:Q (.done (.ret v)) ⟨h,g,d,t,os⟩) :
  aI (aJ prog w) A (Builtin.«object.__getattribute__» ⟨[.ref x,.str name tk],[]⟩) Q E ⟨h,g,d,t,os⟩:=by
 have q:=I.x.type (M:=aJ prog w);have j:=Qqc (M:=aJ prog w) X F I n z;unfold Builtin.«object.__getattribute__»;refine aF (aQ ?_);refine aF (aQ ?_);refine aF (q.at (aF (j.at ?_)));exact aQ B
theorem Qqd {tk:Tok} {R:Result->aC->Prop} (X:K.In h) (F:XGet K C name) (I:IsXD x C (some dx) h) (n:h.Ns1 dx m) (q:m name=some v) (j:R (.ok (.ret v)) ⟨h,g,d,t,os⟩) :
  codeAny (aJ prog w) A (.call (.builtin "BaseException.__getattribute__") ⟨[.ref x,.str name tk],[]⟩) R ⟨h,g,d,t,os⟩:=
 codeAny_call_builtin PySem.F.attr_ValueError.ga.plain PySem.F.entry_bexc_ga (Qk2 X F.xc I.x (Qk1 X F I n q j))
theorem Qqe {j:Bool} {Q:aB->aC->Prop} (X:K.In h) (F:XGet K C name) (I:IsXD x C (some dx) h) (n:h.Ns1 dx m) (Y:m name=some v) (U:handedIn v=true) (J:Q v ⟨h,g,d,t + 1,os⟩):aI (aJ prog w) A (getAttr (.ref x) name j) Q E ⟨h,g,d,t,os⟩:=by
 have z:=I.x.type (M:=aJ prog w);have G:=looks_findIn (M:=aJ prog w) X F.xc.ga;have O:=looks_findIn (M:=aJ prog w) X F.xc.gt;have q:(cv "BaseException.__getattribute__" == cv "object.__getattribute__")=false:=by decide +kernel
 have Z:(onTheHeap (bW C) && cv "BaseException.__getattribute__" == cv "object.__getattribute__")=false:=by rw [q]; rfl
 have a2:(j && onTheHeap (cv "BaseException.__getattribute__"))=false:=by rw [show onTheHeap (cv "BaseException.__getattribute__")=false from rfl,dg]
 have f3:=PySem.F.attr_ValueError.ga.bind (.ref x);have B:=handedOut_of U;unfold getAttr getAttrBy;refine aF (wpAny_mkText (bB (aF (z.at (aF (G.at ?_))))))
 repeat (any_goals (first | assumption | with_reducible refine O.at ?_ | wp_step))
 refine Qqd X F I n Y ?_;dsimp only;rw [B];exact aQ J
end
section
variable {X:Cx}
def tXF (K:Frag) (name:Str) (ta:TE):TE:=fun σ H Q=>ta σ H fun v H1=>∃ (a C dx:aA) (i:Int) (fs:List (Str × V)),v=.ref a/\H1 a=some (.ext (IsXD a C (some dx)))/\H1 dx=some (.xd fs)/\fs.lookup name=some (.int i)/\XGet K C name/\Q (.int i) H1
theorem Qru {e:aD} {name:Str} {ta:TE} {pos:Pos} (K:Frag) (Y:PE X e ta) (J:ak e name X.env (aL e X.env)=aL e X.env:=by rfl) (hK:X.K=K:=by rfl):PE X (.Attribute e name pos) (tXF K name ta):=by
 subst hK;intro pins s σ H Q I h;refine Qhk J (thn (Y pins s σ H _ I h) fun u s1 ⟨v,H1,z,Z,a,C,dx,i,fs,ev,U,hd,hl,G,q⟩=>?_)
 subst ev;obtain rfl:u=bW a:=Z;obtain ⟨mA,n,r⟩:=z.hok dx _ hd;have j:=r name;rw [hl] at j;cases B:mA name with
 | none=>rw [B] at j; exact False.elim j
 | some y=>
  rw [B] at j;obtain ⟨tk,rfl⟩:∃ tk,y=.int i tk:=j;obtain ⟨hp,gs,dr,O,sy⟩:=s1;exact Qqe z.kIn G (z.hok a _ U).1 n B rfl ⟨.int i,H1,z.tok _,⟨_,rfl⟩,q⟩
end
end L2
namespace L2
open PySem PySem.Spec PyProof.Rows
section
variable {X:Cx}
theorem Qtp {CX:CXT} {f:aA} {fd:aN} {k:Nat} {ps:List Str} {sp:Sp} {g:Str} {p cpos:Pos} {e:aD} {es:List aD} {ta:TA} {pins:List (aA × Obj)} {σ:St} {H:Hp} {s:aC} {E1:aB->aC->Prop} {O:VK} {Y:XK}
  (F:FnOk X.prog X.w X.K X.mg X.base CX k f fd ps sp) (hr:Room k X.A) (hm:X.mg g=some (.ref f)) (U:bi X.K (.ref f)=true) (hb:Binds X.K fd ps []) (ha:PA X.nox (e :: es) ta) (hg:Gl X g)
  (I:Inv X pins σ H s) (h:ta σ H fun vs H1=>sp vs H1 O Y) (hE:∀ H1 s1 v s',Inv X pins σ H1 s1->CX X.stack H1 s1 Y v s'->E1 v s')
  (J:(g == ("__debug__" : Str))=false) (he:aM (e :: es) X.env=(false,aL e X.env) :: aM es X.env) (Z:(aU cpos (aM es X.env)).any (·.1)=false) :
  aI (aJ X.prog X.w) X.A (aL (.Call (.Name g p) (e :: es) [] cpos) X.env) (EP X pins σ O) E1 s:=by
 refine wpAny_Call_Name_kw (qw I hg hm ?_ J);refine dD (h₀:=X.base) I.ok.mod.kin U (af (ha cpos pins s σ H _ (I.wish _) h) (fun us s1 ⟨vs,H1,I1,r,q⟩=>⟨I1.unwish.kIn,?_⟩) fun _ _ z=>z.elim) he Z
 have j:=I1.unwish;have hl:us.length=ps.length:=by rw [<- r.length]; exact F.len _ _ _ _ q
 have B:=hb s1 us j.kIn (by rw [L6]; exact hl);rw [L6] at B;refine wpAny_call (bH (F.run X.A X.stack s1 H1 ⟨us,[]⟩ us vs O Y hr j.env0 B r q) fun rr s' G=>?_)
 cases rr with
 | error v=>exact hE H1 s1 v s' j G
 | ok fl=>
  cases fl with
  | ret u=>exact j.after G
  | next=>exact False.elim G
  | brk=>exact False.elim G
  | cont=>exact False.elim G
end
end L2
namespace L2
open PySem PySem.Spec PyProof.Rows PySem.W PySem.Builtin.Getset_descriptor
section
variable {X:Cx} {pins:List (aA × Obj)} {σ:St} {H H':Hp} {s s':aC} {a C:aA}
theorem Qt6 {cn n:Str} {i:Nat} {CC:aA} {a0:aB} {B:Heap} {dv:Option aA} {np a9:Pos} {a2:aK} {suite:List aK} {ts:TS} {D:Ends} (hN:X.N.Nodup) (hi:X.N[i]?=some n) (hk:X.env.scope.names.lookup n=some .local) (c1:∀ b,b∉X.ex)
  (b5:X.stack=X.env :: X.outer) (c4:X.env.frame=some X.env.locals) (hg:Gl X cn) (hm:X.mg cn=some (.ref CC)) (hx:exmOne X.K (.ref C) (.ref CC)=some true) (I:Inv X pins σ H s) (F:Fly X.prog X.w X.stack H H' s s' a (.ref C) a0 B) (dd:∃ o',s'.heap.get? a=some o'/\o'.dict=dv/\Q1a o'=some .none)
  (O:PSs (xb X a) (a2 :: suite) ts) (q:ts { nx:=fun c5 H2=>D.nx (c5.set i none) H2,rt:=D.rt } (σ.set i (some (.ref a))) (upd H' a (.ext (IsXD a C dv)))) (b9:(cn == ("__debug__" : Str))=false:=by decide) :
  aI (aJ X.prog X.w) X.A (noteFrame (.ref a) X.env) (fun _ b2=>aI (aJ X.prog X.w) X.A (setFlight (.ref a) none) (fun _ a7=>aI (aJ X.prog X.w) X.A (handleBy (.ref a) X.env [.ExceptHandler (some (.Name cn np)) (some n) (a2 :: suite) a9]) (SP X pins D) X.xe a7) X.xe b2) X.xe s':=by
 have U:(X.env.scope.kind == .class || (X.env.scope.kind == .module && X.env.locals != X.env.globals))=false:=by rw [I.ok.kind]; rfl
 have b0:=F.fl;rw [b5] at b0;refine Qix (by rw [<- b5]; exact I.ok.frames) c4 b0 dd fun h4 j d4 b4=>?_
 refine Q5t (s:={ s' with heap:=h4 }) j.1 j.2.1 j.2.2.1 j.2.2.2 d4 fun h5 G d5 b3=>?_
 obtain ⟨n1,n2⟩:=F.new;have I5:Inv X pins σ H' { s' with heap:=h5 }:=F.inv I G.1 (b4.trans b3);obtain ⟨ob,b8,b1⟩:=G.there;have LT:Looks (aJ X.prog X.w) h5 (typeOf (.ref a)) (.ref C):=IsX.type ⟨ob,b8,b1⟩;refine wpAny_handleBy_cons (codeAny_handlers_test (qw (X:=xb X a) (I5.suite a) hg hm ?_ b9)) (by intro z; cases z);refine (exm_one (h:=h5) I5.kIn LT hx).at ?_;refine codeAny_handlers_suite_as ?_;refine Q5t (s:={ s' with heap:=h5 }) G.1 G.2.1 G.2.2.1 G.2.2.2.at d5 fun h6 a8 d6 c2=>?_
 have I6:Inv X pins σ H' { s' with heap:=h6 }:=F.inv I a8.1 ((b4.trans b3).trans c2);obtain ⟨c6,c7,Z,a4,Y,_⟩:=a8.first;obtain ⟨o',b6,c3,a6⟩:=d6;rw [Z] at b6;cases b6;have I7:Inv X pins σ (upd H' a (.ext (IsXD a C dv))) { s' with heap:=h6 }:=Inv.track I c1 n1 I6 n2 (Qtd ⟨c6,c7,Z,a4,c3,Y,by unfold Q1a at a6; rw [Y] at a6; exact a6⟩);refine Q6z (X:=xb X a) (v:=.ref a) (I7.suite a) hN hi (.inl hk) rfl (fun s8 I8=>?_) (.inr hk);refine af (O pins s8 _ _ _ I8 q) (fun f s9 h9=>?_) fun _ _ z=>z.elim
 cases f with
 | next=>
  obtain ⟨b7,H9,I9,q9⟩:=h9;have J:=I9.unsuite I.ok;obtain ⟨m,hn,hl⟩:=id J.loc;exact wpAny_nameGoes_keeps hk hn U fun c0 v a3 a5=>⟨_,_,J.forget hN hi hl a3 a5,q9⟩
 | brk=>obtain ⟨_,_,_,z⟩:=h9; exact z.elim
 | cont=>obtain ⟨_,_,_,z⟩:=h9; exact z.elim
 | ret u=>
  obtain ⟨v9,b7,H9,I9,r9,q9⟩:=h9;have J:=I9.unsuite I.ok;obtain ⟨m,hn,hl⟩:=id J.loc;exact wpAny_nameGoes_keeps hk hn U fun c0 v a3 a5=>⟨v9,_,_,J.forget hN hi hl a3 a5,r9,q9⟩
def Qy9 (sp:Sp) (ta:TA) (i:Nat) (ok:aB->aA->Prop) (ts:TS) (set:V->St->St):TS:=fun D σ H=>ta σ H fun vs H1=>sp vs H1 (fun v H2=>D.nx (set v σ) H2)
 (fun c dv H2=>∃ C,c=.ref C/\ok c C/\∀ a,H2 a=none->ts { nx:=fun σ3 H3=>D.nx (σ3.set i none) H3,rt:=D.rt } (σ.set i (some (.ref a))) (upd H2 a (.ext (IsXD a C dv))))
theorem Qmc {f:aA} {fd:aN} {k:Nat} {ps:List Str} {sp:Sp} {g cn n:Str} {i:Nat} {CC:aA} {p cpos G np O pos:Pos} {e:aD} {es:List aD} {ta:TA} {J:aK} {suite:List aK} {ts:TS}
  (F:FnOk X.prog X.w X.K X.mg X.base (CXD X.prog X.w) k f fd ps sp) (hr:Room k X.A) (hm:X.mg g=some (.ref f)) (a2:bi X.K (.ref f)=true) (hb:Binds X.K fd ps []) (ha:PA X.nox (e :: es) ta)
  (hN:X.N.Nodup) (hi:X.N[i]?=some n) (hk:X.env.scope.names.lookup n=some .local) (j:∀ a,PSs (xb X a) (J :: suite) ts) (a8:X.mg cn=some (.ref CC))
  (hg:Gl X g:=by rfl) (a4:Gl X cn:=by rfl) (a3:∀ b,b∉X.ex:=by intro b z; exact absurd (show b∈([]:List aA) from z) (by simp)) (a7:X.stack=X.env :: X.outer:=by rfl) (a5:X.env.frame=some X.env.locals:=by rfl)
  (Z:(g == ("__debug__" : Str))=false:=by decide) (U:(cn == ("__debug__" : Str))=false:=by decide) (he:aM (e :: es) X.env=(false,aL e X.env) :: aM es X.env:=by rfl) (a6:(aU cpos (aM es X.env)).any (·.1)=false:=by rfl)
  (Y:swapsWith (.Call (.Name g p) (e :: es) [] cpos) none G.line X.env=pure false:=by rfl) :
  PS X (.Try [.Expr (.Call (.Name g p) (e :: es) [] cpos) G] [.ExceptHandler (some (.Name cn np)) (some n) (J :: suite) O] [] [] pos) (Qy9 sp ta i (fun c _=>dL X.K c (.ref CC)=some true) ts (fun _ σ=>σ)):=by
 intro pins s σ H D I h;refine wpAny_Try_except (wpAny_execs_cons (wpAny_Expr_any (thn (Qtp F hr hm a2 hb ha hg I h ?_ Z he a6) fun v s1 ⟨x,H1,I1,r1,q1⟩=>wpAny_execs_nil (wpAny_execs_nil ⟨σ,H1,I1,q1⟩)) I.quiet Y))
 intro H1 s1 v s' I1 hx;obtain ⟨a,cls,a0,dv,H',B,rfl,Fl,dd,C,rfl,hok,q⟩:=hx;exact Qt6 hN hi hk a3 a7 a5 a4 a8 hok I1 Fl dd (j a) (q a Fl.new.2) U
end
end L2
namespace L2
open PySem PySem.Spec PyProof.Rows PySem.SeqAt
section
variable {X:Cx}
def Quu (val:Str->V) (te:TE):TE:=fun σ H Q=>te σ H fun y H1=>∃ w,y=.str w/\Q (val w) H1
theorem Qd3 {n:Str} {a:aA} {o:Obj} {es:Array DictEntry} {O:Nat} {val:Str->V} {e:aD} {te:TE} {p apos cpos:Pos} (Y:Gl X n) (hm:X.mg n=some (.ref a)) (lk:X.K.lookup a=some o) (ty:o.cls=.type "dict") (U:o.ExactDict) (od:o.data=.dict es O) (ks:KeysOf (Qt X.prog X.w) es) (hs:(a == ai)=false)
  (hv:∀ w,RelV (val w) ((findBy (Qt X.prog X.w).is es (.inr w)).getD .none)) (he:PE X e te) (B:(n == ("__debug__" : Str))=false:=by decide)
  (base:ak (.Name n p) "get" X.env (aL (.Name n p) X.env)=aL (.Name n p) X.env:=by rfl)
  (few:((aU cpos (aM [e] X.env)).all (fun x=>!x.1) && (backToKw cpos (keywordEach [] X.env)).all (fun x=>x.1.isSome)
   && decide (([e]:List aD).length + ([]:List Keyword).length + (if ([]:List Keyword).isEmpty then 0 else 1) < 30))=true:=by rfl)
  (line:(apos.endLine == cpos.line)=true:=by rfl) (trees:aU cpos (aM [e] X.env)=[(false,aL e X.env)]:=by rfl) :
  PE X (.Call (.Attribute (.Name n p) "get" apos) [e] [] cpos) (Quu val te):=by
 intro pins s σ H Q I h;have j:∀ {H':Hp} {s':aC},Inv X pins σ H' s'->s'.heap.get? a=some o:=fun J=>J.kIn _ _ lk
 refine wpAny_Call_method base few line PySem.F.plainAttrs_dict gM PySem.F.type_dict_get (qw I Y hm ?_ B);refine ⟨⟨o,j I,ty⟩,fun b z=>⟨o,?_,?_⟩,?_⟩
 ·cases z; exact j I
 ·exact U.2.1
 ·rw [trees];refine Calls.callWith_builtin rfl (Calls.evalArgs_plain (Calls.spliced_cons (thn (he pins s σ H _ I h) fun Z s2 ⟨y,H2,G,ry,w,ey,q⟩=>Calls.spliced_nil ?_)))
  subst ey;obtain ⟨tk,rfl⟩:∃ tk,Z=.str w tk:=ry;have mo:s2.heap.MapOf (Qt X.prog X.w) a (fun k=>findBy (Qt X.prog X.w).is es k):=⟨o,es,O,j G,U,od,ks,fun _=>rfl⟩
  refine call_meetsIn gM ⟨o,j G,ty⟩ PySem.F.entry_dict_get (PySem.F.args_dict_get_2 _ _) (meets_dict_get (Qt X.prog X.w) a (k:=.inr w) (by simp [Qt,Kz,bp]) hs) ⟨_,mo,⟨val w,H2,G.tok _,hv w,q⟩⟩
end
end L2
namespace L2
open PySem PySem.Spec PyProof.Rows
section
variable {X:Cx}
def Qm7 (K:bU):R2:=fun x y H Q=>∃ a b ys,x=.ref a/\y=.ref b/\SqT K H a []/\SqT K H b ys/\Q (.ref b) H
theorem Qmz:OpR X (aW .Add) (Qm7 X.K):=by
 intro pins s σ H x y v u Q I Y Z h;obtain ⟨a,b,ys,rfl,rfl,O,J,q⟩:=h;cases Y;cases Z;obtain ⟨its,U,p1,_⟩:=I.tuple O;obtain ⟨j,r2,p2,_⟩:=I.tuple J;have e1:its=[]:=U.nil_iff.mpr rfl;subst e1;obtain ⟨⟨cls,dd,data,sl⟩,ho,hc,n,hd⟩:=id p1;obtain ⟨⟨G,B,data2,z⟩,ho2,hc2,n2,hd2⟩:=id p2;simp only at hc hd hc2 hd2;subst hc hd hc2 hd2;exact concat_meets ⟨_,ho,rfl⟩ ⟨_,ho2,rfl⟩ noFill_tuple_add seq_tuple_add eX eY (eZ _ _)
  (tuple_addW0 a b ([]:List aB).toArray j.toArray n n2 dd B sl z (by simp)) ⟨ho,ho2,⟨.ref b,H,I,rfl,q⟩⟩
abbrev Qyz (K:bU):R2:=fun x y H Q=>Qu3 K x y H Q\/Qm7 K x y H Q
theorem Qs7:OpR X (aW .Add) (Qyz X.K):=op_catT.or Qmz
end
def PTs (X:Cx) (ifs:List aD) (t:TT):Prop:=
 ∀ (pins:List (aA × Obj)) (s:aC) (σ:St) (H:Hp) (Q:Bool->Hp->Prop),Inv X pins σ H s->t σ H Q ->
  aI (aJ X.prog X.w) X.A (forIn ifs true fun c r=>if r=true then do let ok <- isTrue c X.env (aL c X.env); pure (ForInStep.yield ok) else pure (ForInStep.yield r)) (TP X pins σ Q) X.xe s
def Qya:TT:=fun _ H Q=>Q true H
theorem Qrh {X:Cx}:PTs X [] Qya:=fun _ _ _ H _ I h=>wpAny_tests_nil ⟨H,I,h⟩
theorem Qrg {X:Cx} {c:aD} {t:TT} (h:PT X c t):PTs X [c] t:=fun pins s σ H Q I q=>wpAny_tests_one (h pins s σ H Q I q)
def Qar (J:It) (cap:List (Option Nat)) (g:TG) (tt:TT) (te:TE) (σ:St) (H1:Hp) (Q:VK):Prop:=∀ acc,H1 acc=none ->
 ∃ W:Nat->Nat->List V->St->Hp->Prop,(∃ m,W 0 m [] (Q4i cap σ) (upd H1 acc (.lst [])))/\∀ i m ys σ' H',W i m ys σ' H'->H' acc=some (.lst ys) /\
  ((J.stop i H'/\Q (.ref acc) H')\/(J.go i H'/\ys.length < sizeLine/\∀ x H2,J.yld i H' x H2->g x σ' H2 fun σ3 H3=>tt σ3 H3 fun b H4=>
    if b=true then te σ3 H4 fun y H5=>H5 acc=some (.lst ys)/\∃ m',m' < m/\W (i + 1) m' (ys ++ [y]) σ3 (upd H5 acc (.lst (ys ++ [y])))
    else ∃ m',m' < m/\W (i + 1) m' ys σ3 H4))
def Qb2 (cap:List (Option Nat)) (wi:TI) (g:TG) (tt:TT) (te:TE):TE:=fun σ H Q=>wi σ H fun J H1=>Qar J cap g tt te σ H1 Q
section
variable {prog:aP} {w:aO} {A:aR} {R:Result->aC->Prop} {s:aC}
theorem Q9v {elt j iter:aD} {ifs:List aD} {scope:Scope} {pos:Pos} {it Z:aB} {env:Env} (I:Nat->aC->Prop)
  (a3:∀ n s,I n s->aI (aJ prog w) A (ay it) (fun r z=>match r with
   | none=>R (.ok .next) z
   | some v=>aI (aJ prog w) A (letOwnedTupleGo j it v) (fun _ B=>aI (aJ prog w) A (assign j env v) (fun _ J=>
     aI (aJ prog w) A (forIn ifs true fun c r=>if r=true then do let ok <- isTrue c env (aL c env); pure (ForInStep.yield ok) else pure (ForInStep.yield r)) (fun ok G=>
      if ok=true then aI (aJ prog w) A (aL elt env) (fun x U=>
       aI (aJ prog w) A (call (.builtin "list.append") [Z,x]) (fun _ Y=>∃ m,m < n/\I m Y) (fun _ _=>False) U) (fun _ _=>False) G
      else ∃ m,m < n/\I m G) (fun _ _=>False) J)
     (fun _ _=>False) B) (fun _ _=>False) z) (fun _ _=>False) s)
  (n:Nat) (h:I n s):codeAny (aJ prog w) A (.compLoop (.ListComp elt [⟨j,iter,ifs,0⟩] scope pos) 0 it Z env) R s:=by
 refine codeAny_loop rfl I (fun n s hI=>?_) n h;show aI _ A ((compTurn (.ListComp elt [⟨j,iter,ifs,0⟩] scope pos) 0 it Z env).onRaise (fun x=>do noteFrame x env; theTreesLotGoes x)) _ _ s;refine wpAny_noted ?_;rw [compTurn_list];refine aF (wpAny_standAt (aF (af (a3 n s hI) (fun r z O=>?_) fun _ _ h'=>h'.elim)))
 cases r with
 | none=>exact aQ O
 | some v=>
  refine aF (af O (fun _ B a2=>?_) fun _ _ h'=>h'.elim)
  refine aF (af a2 (fun _ J a6=>aF (af a6 (fun ok G q=>?_) fun _ _ h'=>h'.elim)) fun _ _ h'=>h'.elim)
  cases ok with
  | true=>
   rw [bO rfl] at q;exact aF (aF (af q (fun x U a4=>aF (af a4 (fun _ Y a5=>aQ (aQ ⟨rfl,a5⟩)) fun _ _ h'=>h'.elim)) fun _ _ h'=>h'.elim))
  | false=>
   rw [bP E5] at q;exact aF (aQ (aQ ⟨rfl,q⟩))
end
section
variable {X:Cx}
theorem Q8u {elt tg iter:aD} {ifs:List aD} {tt:TT} {pos:Pos} {N N':List Str} {sc scE:Scope} {cap:List (Option Nat)} {wi:TI} {g:TG} {te:TE} {use:Option (aB->Sem Unit)} {QQ:aB->aC->Prop} (c3:X.calm=true) (hi:PI X tg iter wi)
  (hg:∀ cl C s0 H0 ex,PG (Vi X N' sc cl C s0 H0 ex) tg g) (he:∀ cl C s0 H0 ex,PE (Vi X N' sc cl C s0 H0 ex) elt te) (f0:∀ cl C s0 H0 ex,PTs (Vi X N' sc cl C s0 H0 ex) ifs tt)
  (hN:X.N=N) (hE:X.env.scope=scE) (hc:compOkC N N' sc scE cap=true) (hs:∀ x,au iter X.env x=pure x)
  {pins:List (aA × Obj)} {s:aC} {σ:St} {H:Hp} {Q:VK} (I:Inv X pins σ H s) (h:Qb2 cap wi g tt te σ H Q)
  (fin:∀ c9 C H' s' m,Inv X pins σ H' s'->s'.heap.Ns C m->Q92 X pins H' C->Q (.ref c9) H'->compPost (aJ X.prog X.w) X.A X.xe use QQ (.ref c9) C (.ok .next) s') {pos':Pos} :
  aI (aJ X.prog X.w) X.A (comprehension (.ListComp elt [⟨tg,iter,ifs,0⟩] sc pos) sc X.env pos' (newList []) false (aL iter X.env) use) QQ X.xe s:=by
 have ck:=compOkC.of hc;obtain ⟨cl,e7,c1,c2⟩:=Qg7 (scope:=sc) (env:=X.env) fun x hx hf=>I.ok.has x.1 (by
  have:=ck.fre x hx hf;rw [<- hE] at this;exact this)
 refine wpAny_comprehension_free (use:=use) rfl hs e7 ck.kind ck.loc (thn (hi pins s σ H _ I h) fun v s1 h1=>thn h1 fun f6 s2 h2=>?_)
 obtain ⟨it,fp,tn,J,H2,e,I2,T,d3,f2,hw⟩:=h2;subst e;have b4:∀ b∈fp,b < s2.heap.objs.size:=fun b B=>by
  obtain ⟨o,e,_⟩:=T.obj _ _ d3 b B;exact D0 e
 obtain ⟨W,⟨m0,w0⟩,turn⟩:=hw s2.heap.objs.size I2.fresh;refine av (Q93 ?_);dsimp only;have I3:Inv X pins σ (upd H2 s2.heap.objs.size (.lst [])) { s2 with heap:=s2.heap.push { cls:=.type "list",data:=.seq ([]:List aB).toArray } }:=
  I2.lnew (its:=[]) (ys:=[]) (t':=s2.toks) .nil (cg _)
 generalize c7:({ s2 with heap:=s2.heap.push { cls:=.type "list",data:=.seq ([]:List aB).toArray } }:aC)=s3 at I3;have d6:s3.heap=s2.heap.push { cls:=.type "list",data:=.seq ([]:List aB).toArray }:=by rw [<- c7]
 have c5:s3.heap.objs.size=s2.heap.objs.size + 1:=by rw [d6,F8]
 have f3:∀ b∈fp,Q92 X pins (upd H2 s2.heap.objs.size (.lst [])) b:=fun b B=>by
  obtain ⟨g0,g1⟩:=f2 b B;exact ⟨by rw [Qa (E8 (b4 b B))]; exact g0,g1⟩
 have k3:∀ b o,s2.heap.get? b=some o->s3.heap.get? b=some o:=fun b o e=>by rw [d6]; exact O1 _ e
 obtain ⟨a2,a8⟩:∃ a2,ag (s3.heap.objs.size + 1) sc.names cl=a2:=⟨_,rfl⟩;obtain ⟨O,Y⟩:∃ O,pushCells (s3.heap.push { cls:=.type "dict",data:=.dict #[] }) sc.names=O:=⟨_,rfl⟩;have k1:∀ b o,s3.heap.get? b=some o->O.get? b=some o:=fun b o e=>by rw [<- Y]; exact pushCells_keeps _ _ b o (O1 _ e)
 have d8:∀ x c,a2.lookup x=some c->cl.lookup x=some c\/s3.heap.objs.size + 1<=c:=fun x c e=>by
  rw [<- a8] at e;have:=Xq (sc.names) (s3.heap.push { cls:=.type "dict",data:=.dict #[] }) cl x c (by rw [F8]; exact e);rcases this with z | ⟨_,z,_⟩
  ·exact .inl z
  ·rw [F8] at z; exact .inr z
 have I4:Inv (Vi X N' sc a2 s3.heap.objs.size s3 (upd H2 s2.heap.objs.size (.lst [])) fp) [] (Q4i cap σ) (upd H2 s2.heap.objs.size (.lst [])) { s3 with heap:=O }:=by
  rw [<- a8,<- Y];exact Qq2 I3 hN hE ck c1 c2 f3 (fun b B=>D3 (b4 b B) (by rw [c5]; exact cP _))
 have d2:tn 0 O:=T.keep _ _ _ d3 fun b B o e=>k1 b o (k3 b o e)
 generalize j:Vi X N' sc a2 s3.heap.objs.size s3 (upd H2 s2.heap.objs.size (.lst [])) fp=U at I4;have b8:U.xe=fun _ _=>False:=by rw [<- j]; rfl
 have G:U.prog=X.prog:=by rw [<- j]; rfl
 have Z:U.w=X.w:=by rw [<- j]; rfl
 have d1:U.K=X.K:=by rw [<- j]; rfl
 have a6:U.A=X.A:=by rw [<- j]; rfl
 have d0:U.calm=true:=by rw [<- j]; exact c3
 have a4:U.env=compEnvC sc a2 s3.heap.objs.size X.env:=by rw [<- j]; rfl
 have a3:U.env.locals=s3.heap.objs.size:=by rw [a4]; rfl
 have d9:PG U tg g:=by rw [<- j]; exact hg _ _ _ _ _
 have f1:PE U elt te:=by rw [<- j]; exact he _ _ _ _ _
 have c8:PTs U ifs tt:=by rw [<- j]; exact f0 _ _ _ _ _
 have a7:∀ {H':Hp},(∀ b∈fp,H' b=none)->∀ b∈fp,Q92 U [] H' b:=fun {H'} hn b B=>by
  obtain ⟨_,g1,g2,g3,g4,g5⟩:=f3 b B;refine ⟨hn b B,by rw [a3,c5]; exact E8 (cV (b4 b B)),?_,?_,?_,fun p hp=>?_⟩
  ·rw [<- j];intro z;rcases E3.mp (I3.stkSub b z) with e | z
   ·exact g1 e
   ·exact g2 z
  ·left
   rw [<- j];exact B
  ·intro x c e;rw [a4] at e;rcases d8 x c e with z | z
   ·exact g4 x c (c1 x c z)
   ·exact fun q=>absurd (D3 (b4 b B) (F1 (F1 (cP _) (c5 ▸ cP _)) (q ▸ z))) (L7 _)
  ·rw [<- j] at hp;cases hp
 have d5:∀ {b2:St} {H':Hp} {s':aC},Inv U [] b2 H' s'->Q (.ref s2.heap.objs.size) H'->compPost (aJ X.prog X.w) X.A X.xe use QQ (.ref s2.heap.objs.size) s3.heap.objs.size (.ok .next) s':=fun {b2 H' s'} J q=>by
  obtain ⟨mm,d7,_⟩:=J.loc;rw [a3] at d7;have c0:H' s3.heap.objs.size=none:=by have:=J.free; rw [a3] at this; exact this
  have hok:=J.hok;rw [G,Z] at hok;have u1:Un (frs X.stack) fp (upd H2 s2.heap.objs.size (.lst [])) H' s3.heap s'.heap:=by
   have:=J.base;rw [<- j] at this;exact this
  have e4:s'.os=s3.os:=by have:=J.os; rw [<- j] at this; exact this
  refine fin _ _ H' s' mm (I3.call' (s':=s') e4 u1 hok J.bare fun b B=>?_) d7 (I3.fpOk (O7 _) c0) q
  obtain ⟨_,g1,g2,g3,g4,g5⟩:=f3 b B;exact ⟨g3,g1,g4,g5⟩
 have a5:codeAny (aJ X.prog X.w) X.A (.compLoop (.ListComp elt [⟨tg,iter,ifs,0⟩] sc pos) 0 (.ref it) (.ref s2.heap.objs.size) U.env)
   (compPost (aJ X.prog X.w) X.A X.xe use QQ (.ref s2.heap.objs.size) s3.heap.objs.size) { s3 with heap:=O }:=by
  refine Q9v (fun n s'=>∃ i ys b2 H',Inv U [] b2 H' s'/\tn i s'.heap/\(∀ b∈fp,H' b=none)/\W i n ys b2 H') ?_ m0 ⟨0,[],_,_,I4,d2,fun b B=>(f3 b B).1,w0⟩
  rintro n s5 ⟨i,ys,b6,H5,I5,d4,c6,w5⟩;obtain ⟨f4,q⟩:=turn i n ys b6 H5 w5;rcases q with ⟨stop,q⟩ | ⟨go,f5,step⟩
  ·refine thn (a6 ▸ T.done U G Z d1 d0 i [] s5 b6 H5 _ I5 (a7 c6) d4 stop) fun r s6 ⟨hr,I6⟩=>?_
   subst hr;exact d5 I6 q
  ·refine thn (a6 ▸ T.item U G Z d1 d0 i [] s5 b6 H5 _ I5 (a7 c6) d4 go) fun r s6 ⟨u,hr,h6⟩=>?_
   subst hr;refine thn h6 fun _ s7 ⟨x,H7,I7,r7,y7,b1,e5⟩=>?_
   have e0:=I7.pinned (a7 e5) (T.obj _ _ b1);have g7:=d9 _ s7 b6 H7 x u _ e0 r7 (step x H7 y7);rw [G,Z,a6,b8] at g7;refine thn g7 fun _ s8 ⟨b0,H8,I8,q8⟩=>?_
   have t8:=c8 _ s8 b0 H8 _ I8 q8;rw [G,Z,a6,b8] at t8;refine thn t8 fun e8 e6 ⟨e9,b5,b3⟩=>?_
   cases e8 with
   | false=>
    rw [bP E5] at b3 ⊢;obtain ⟨m',b9,w9⟩:=b3;refine ⟨m',b9,i + 1,_,b0,_,b5.unpinned,T.keep _ _ _ b1 fun b B o eo=>(b5.pin (b,o) (F2 _ (F2 _ (Xy B eo)))).1,fun b B=>?_,w9⟩;obtain ⟨o,eo,d⟩:=T.obj _ _ b1 b B;exact (b5.pin (b,o) (F2 _ (F2 _ (Xy B eo)))).2.1
   | true=>
   rw [bO rfl] at b3 ⊢;have g8:=f1 _ e6 b0 e9 _ b5 b3;rw [G,Z,a6,b8] at g8;refine thn g8 fun y s9 ⟨yv,H9,I9,r9,a9,m',b9,w9⟩=>?_
   obtain ⟨z,its,nn,rr,hl,e⟩:=I9.lstM a9;refine az F.slot_list_append ⟨_,e,rfl⟩ F.entry_list_append (F.args_list_append_2 _ _) (ft _ its.toArray nn y (by rw [O3]; omega)) ⟨e,?_⟩;have c4:Inv U ([] ++ Q7h fp s7.heap) b0 (upd H9 s2.heap.objs.size (.lst (ys ++ [yv]))) { s9 with heap:=s9.heap.update s2.heap.objs.size (cp fun a=>a.push y) }:=
    I9.lset (t':=s9.toks) (its':=its ++ [y]) a9 e (by simp) (rr.append (.cons r9 .nil)) (by rw [O6,ec]; omega)
   refine ⟨m',b9,i + 1,_,b0,_,c4.unpinned,T.keep _ _ _ b1 fun b B o eo=>(c4.pin (b,o) (F2 _ (F2 _ (Xy B eo)))).1,fun b B=>?_,w9⟩;obtain ⟨o,eo,d⟩:=T.obj _ _ b1 b B;exact (c4.pin (b,o) (F2 _ (F2 _ (Xy B eo)))).2.1
 rw [a4] at a5;have b7:=codeAny_compStart_list (rest:=[]) (ifs:=ifs) a5 (T.self X.A 0 _ _ _ d2 a5);subst c7;rw [<- a8,<- Y] at b7;exact b7
theorem Qmq {elt tg iter:aD} {ifs:List aD} {O:TT} {pos:Pos} {N N':List Str} {sc scE:Scope} {cap:List (Option Nat)} {J:TI} {g:TG} {te:TE} (j:X.calm=true) (hi:PI X tg iter J)
  (U:∀ cl C s0 H0 ex,PG (Vi X N' sc cl C s0 H0 ex) tg g) (he:∀ cl C s0 H0 ex,PE (Vi X N' sc cl C s0 H0 ex) elt te) (B:∀ cl C s0 H0 ex,PTs (Vi X N' sc cl C s0 H0 ex) ifs O)
  (hN:X.N=N:=by rfl) (hE:X.env.scope=scE:=by rfl) (hc:compOkC N N' sc scE cap=true:=by decide +kernel) (hs:∀ x,au iter X.env x=pure x:=by intro _; rfl) :
  PE X (.ListComp elt [⟨tg,iter,ifs,0⟩] sc pos) (Qb2 cap J g O te):=by
 intro pins s σ H Q I h;rw [eval_ListComp];refine Q8u (use:=none) j hi U he B hN hE hc hs I h fun z C H' s' m I' hm hf q=>⟨m,hm,fun h' G=>?_⟩
 obtain ⟨Z,Y,f2,f3,f4,f5⟩:=hf;exact ⟨.ref z,H',I'.turned (t':=s'.toks) (fun b o hb e=>(G.2 b hb).trans e) Z Y f3 f4 f5,rfl,q⟩
theorem Qme {ifs:List aD} {tt:TT} {i:Nat} {x:Str} {px j:Pos} {elt tg iter:aD} {pos:Pos} {N N':List Str} {sc scE:Scope} {cap:List (Option Nat)} {wi:TI} {g:TG} {te:TE} (a3:X.N.Nodup) (Y:X.N[i]?=some x) (hx:Loc X.env.scope x) (B:X.calm=true) (hi:PI X tg iter wi)
  (hg:∀ cl C s0 H0 ex,PG (Vi X N' sc cl C s0 H0 ex) tg g) (he:∀ cl C s0 H0 ex,PE (Vi X N' sc cl C s0 H0 ex) elt te) (U:∀ cl C s0 H0 ex,PTs (Vi X N' sc cl C s0 H0 ex) ifs tt)
  (O:swapsWith (.ListComp elt [⟨tg,iter,ifs,0⟩] sc pos) (some (.Name x px)) j.line X.env=pure true:=by rfl)
  (hN:X.N=N:=by rfl) (hE:X.env.scope=scE:=by rfl) (hc:compOkC N N' sc scE cap=true:=by decide +kernel) (hs:∀ x,au iter X.env x=pure x:=by intro _; rfl)
  (hf:X.fn x=true\/X.env.scope.names.lookup x=some .local:=by first | exact .inl rfl | exact .inr rfl | assumption) :
  PS X (.Assign [.Name x px] (.ListComp elt [⟨tg,iter,ifs,0⟩] sc pos) j) (Quv (Qb2 cap wi g tt te) (Qe4 i)):=by
 intro pins s σ H D I h;rw [exec_Assign_Name_used _ _ _ _ O];refine aF (wpAny_standAt (aF ?_));show aI _ _ (do let _ <- comprehension (.ListComp elt [⟨tg,iter,ifs,0⟩] sc pos) sc X.env _ (newList []) false (aL iter X.env) (some (assign (.Name x px) X.env))) _ _ s;refine aF (af (Q8u (use:=some (assign (.Name x px) X.env)) (QQ:=fun _ s'=>SP X pins D .next s') B hi hg he U hN hE hc hs I h ?_) (fun _ s' hq=>aQ (aQ hq)) fun _ _ e=>e)
 intro G C H' s' m I' hm a2 q;obtain ⟨f0,f1,f2,f3,f4,f5⟩:=a2;show aI _ _ (assign (.Name x px) X.env (.ref G)) _ _ _;refine wpAny_assign_Name (Q9x I' a3 Y hx (v:=.ref G) rfl (fun s2 I2 ⟨a,sb,J⟩=>⟨m,?_,fun h' Z=>?_⟩) hf)
 ·refine hm.sameBut sb fun z=>?_
  rcases J with J | J
  ·exact f1 (z.trans J)
  ·exact f4 x a J z.symm
 ·exact ⟨_,H',I2.turned (t':=s2.toks) (fun b o hb e=>(Z.2 b hb).trans e) f0 f1 f3 f4 f5,q⟩
end
section
variable {κ:Type} [DecidableEq κ]
def j6 (kvs:List (κ × V)) (k:κ):Option V:=(kvs.find? fun kv=>decide (kv.1=k)).map (·.2)
def Q97 (kvs:List (κ × V)) (k:κ) (v:V):List (κ × V):=
 if (kvs.any fun kv=>decide (kv.1=k))=true then kvs.map (fun kv=>if kv.1=k then (kv.1,v) else kv) else kvs ++ [(k,v)]
theorem Qci {p:κ × V} {r:List (κ × V)} {k:κ} (e:p.1=k):j6 (p :: r) k=some p.2:=by simp [j6,cI,e]
theorem Qcj {p:κ × V} {r:List (κ × V)} {k:κ} (e:¬ p.1=k):j6 (p :: r) k=j6 r k:=by simp [j6,cI,e]
theorem Qdt (kvs:List (κ × V)) (k:κ) (v:V):(Q97 kvs k v).length<=kvs.length + 1:=by
 unfold Q97
 split
 ·rw [O2]; omega
 ·rw [O6,D8,cG]; omega
theorem KV.val {kvs:List (κ × V)} {vs:List (κ × aB)} (r:KV kvs vs) (k:κ):RelO (j6 kvs k) (bF vs k):=by
 unfold KV at r
 induction r with
 | nil=>exact True.intro
 | @cons p q ps B h t G=>
  obtain ⟨h1,h2⟩:=h
  by_cases e:p.1=k
  ·have j:q.1=k:=h1.symm.trans e;have b:bF (q :: B) k=some q.2:=by simp [bF,cI,j]
   rw [Qci e,b]; exact h2
  ·have j:¬ q.1=k:=fun z=>e (h1.trans z)
   have b:bF (q :: B) k=bF B k:=by simp [bF,cI,j]
   rw [Qcj e,b]; exact G
theorem KV.any {kvs:List (κ × V)} {vs:List (κ × aB)} (r:KV kvs vs) (k:κ):(kvs.any fun j=>decide (j.1=k))=vs.any fun j=>decide (j.1=k):=by
 unfold KV at r
 induction r with
 | nil=>rfl
 | cons h t q=>rw [di,di,q,h.1]
theorem KV.repl {kvs:List (κ × V)} {vs:List (κ × aB)} (r:KV kvs vs) (k:κ) {y:V} {u:aB} (G:RelV y u) :
  KV (kvs.map fun j=>if j.1=k then (j.1,y) else j) (vs.map fun j=>if j.1=k then (j.1,u) else j):=by
 unfold KV at r ⊢
 induction r with
 | nil=>exact .nil
 | @cons p q ps I h t B=>
  rw [F7,F7];refine .cons ?_ B;obtain ⟨h1,h2⟩:=h
  by_cases e:p.1=k
  ·rw [bO e,bO (h1.symm.trans e)]; exact ⟨h1,G⟩
  ·rw [bP e,bP (fun z=>e (h1.trans z))]; exact ⟨h1,h2⟩
theorem KV.put {kvs:List (κ × V)} {vs:List (κ × aB)} (r:KV kvs vs) (k:κ) {y:V} {u:aB} (j:RelV y u):KV (Q97 kvs k y) (stored vs k u):=by
 unfold Q97 stored;rw [r.any k]
 by_cases e:(vs.any fun q=>decide (q.1=k))=true
 ·rw [bO e,bO e]; exact r.repl k j
 ·rw [bP e,bP e]; exact Paired.snoc r ⟨rfl,j⟩
end
theorem Qnu {P:aP} {w:aO} {k:Key} {u:aB} (r:RelV (kV k) u):(Qt P w).is k u=true:=by
 cases k with
 | inl i=>obtain ⟨t,e⟩:=(show ∃ t,u=cc i t from r); subst e; exact Qdk P w i t
 | inr x=>obtain ⟨t,e⟩:=(show ∃ t,u=dA x t from r); subst e; exact Qdj P w x t
theorem Qai {P:aP} {w:aO}:∀ {j:List Key} {us:List aB},Vals (j.map kV) us->ItemsAre (Qt P w) j us
 | [],_,r=>by rw [cj] at r; cases r; exact .nil
 | k :: j,_,r=>by
  rw [F7] at r;cases r with
  | cons h t=>exact .cons (Qnu h) (Qai t)
abbrev KT (H:Hp):List (List Key × V)->List (List Key × aA × aB)->Prop:=aw fun p q=>p.1=q.1/\H q.2.1=some (.tup (p.1.map kV))/\RelV p.2 q.2.2
theorem KT.val {H:Hp} {kvs:List (List Key × V)} {xs:List (List Key × aA × aB)} (r:KT H kvs xs) (k:List Key):RelO (j6 kvs k) ((atKey xs k).map (·.2)):=by
 induction r with
 | nil=>exact True.intro
 | @cons p q ps j h t G=>
  obtain ⟨h1,_,h2⟩:=h
  by_cases e:p.1=k
  ·have B:q.1=k:=h1.symm.trans e;have b:atKey (q :: j) k=some q.2:=by simp [atKey,cI,B]
   rw [Qci e,b]; exact h2
  ·have B:¬ q.1=k:=fun z=>e (h1.trans z)
   have b:atKey (q :: j) k=atKey j k:=by simp [atKey,cI,B]
   rw [Qcj e,b]; exact G
section
variable {P:aP} {w:aO} {H:Hp} {h:Heap} {a:aA}
theorem Qu2 {u:HO} (ok:HOk P w H h) (e:Rd H a u):ObjOk P w H h a u:=e.ok ok
theorem Qp6 {kvs:List (Key × V)} (ok:HOk P w H h) (e:Rd H a (.dK kvs)):kvs.length<=sizeLine/\(a == ai)=false/\∃ vs,KV kvs vs/\h.DictOf (Qt P w) a vs:=
 show ObjOk P w H h a (.dK kvs) from Qu2 ok e
theorem J0m {kvs:List (Key × V)} (ok:HOk P w H h) (e:H a=some (.dK kvs)):kvs.length<=sizeLine/\(a == ai)=false/\∃ vs,KV kvs vs/\h.DictOf (Qt P w) a vs:=Qp6 ok (.inl e)
theorem Qns {j:List Key} (ok:HOk P w H h) (e:H a=some (.tup (j.map kV))):(tupleKind (Qt P w)).is h j a:=by
 obtain ⟨_,its,r,o,h1,h2,n,q⟩:=(show ObjOk P w H h a (.tup (j.map kV)) from ok a _ e);exact ⟨o,its.toArray,n,h1,h2,q,by simpa using Qai r⟩
theorem Que {kvs:List (List Key × V)} (ok:HOk P w H h) (e:Rd H a (.dT kvs)):kvs.length<=sizeLine/\(a == ai)=false /\
  ∃ xs,KT H kvs xs/\h.DictOfH (tupleKind (Qt P w)) a xs:=by
 obtain ⟨z,y,xs,r,o,es,G,h1,h2,O,J,I⟩:=(show ObjOk P w H h a (.dT kvs) from Qu2 ok e);refine ⟨z,y,xs,r,o,es,G,h1,h2,O,J,fun x j=>?_,I⟩;have all:∀ {l:List (List Key × V)} {m:List (List Key × aA × aB)},KT H l m->∀ x∈m,(tupleKind (Qt P w)).is h x.1 x.2.1:=by
  intro l m q
  induction q with
  | nil=>intro x j; exact nomatch j
  | @cons p q ps Y B t U=>
   intro x j;rcases E3.mp j with e | j
   ·subst e;exact Qns ok (by rw [<- B.1]; exact B.2.1)
   ·exact U x j
 exact all r x j
end
def DGet (H:Hp) (a:aA) (y:V) (r:Option V):Prop:=
 (∃ kvs k,Rd H a (.dK kvs)/\y=kV k/\r=j6 kvs k)\/∃ kvs k b,Rd H a (.dT kvs)/\y=.ref b/\H b=some (.tup (k.map kV))/\r=j6 kvs k
theorem DGet.k {H:Hp} {a:aA} {kvs:List (Key × V)} {k:Key} (e:H a=some (.dK kvs)):DGet H a (kV k) (j6 kvs k):=.inl ⟨kvs,k,.inl e,rfl,rfl⟩
section
variable {X:Cx} {pins:List (aA × Obj)} {σ:St} {H:Hp} {s:aC} {a:aA} {y v:V} {u r:aB} {o:Option V} {A:aR} {E:aB->aC->Prop}
theorem Inv.big (I:Inv X pins σ H s):ai < s.heap.objs.size:=by
 have h:aS < s.heap.objs.size:=(I.mod.glob.keeps I.bk).lt;exact Nat.lt_trans (by decide) h
theorem Qjb {Q:aB->aC->Prop} (Y:A.units + 1 < ae) (I:Inv X pins σ H s) (g:DGet H a y (some v)) (U:RelV y u) (h:∀ B s',Inv X pins σ H s'->RelV v B->Q B s') :
  aI (aJ X.prog X.w) A (getItem (.ref a) u) Q E s:=by
 rcases g with ⟨kvs,k,e,O,l⟩ | ⟨kvs,k,b,e,O,Z,l⟩
 ·subst O;obtain ⟨z,hd,vs,j,dd⟩:=Qp6 I.hok e;obtain ⟨B,J,q⟩:=RelO.some_of (v:=v) (o:=bF vs k) (by rw [l]; exact j.val k);exact wpAny_getItem_of (Qnu U) dd.mapOf J (h B _ (I.tok _) q)
 ·subst O;cases (show u=bW b from U);obtain ⟨z,hd,xs,j,dd⟩:=Que I.hok e;obtain ⟨B,J,q⟩:=RelO.some_of (v:=v) (o:=(atKey xs k).map (·.2)) (by rw [l]; exact j.val k);obtain ⟨p,hp,G⟩:=Option.map_eq_some_iff.mp J;refine wpAny_getItem_heap (tupleKind_room_in1 Y) (Qns I.hok Z) dd hp ?_;rw [G];exact h B _ (I.tok _) q
theorem Qtg {h':Heap} {t':Nat} {ob:HO} (I:Inv X pins σ H s) (B:Mut (H a)) (hs:Heap.SameBut a s.heap h') (G:∃ q,h'.get? a=some q) (new:ObjOk X.prog X.w (upd H a ob) h' a ob) :
  Inv X pins σ (upd H a ob) { s with heap:=h',toks:=t' }:=
 I.write (x:=a) (e:=a) B (.inl rfl) (fun b q j z=>(hs.2 b j).trans z) G new
theorem Qx5 {P:aP} {w:aO} {H':Hp} {h':Heap} {kvs:List (Key × V)} {vs:List (Key × aB)} (z:kvs.length<=sizeLine) (hd:(a == ai)=false) (j:KV kvs vs) (dd:h'.DictOf (Qt P w) a vs) :
  ObjOk P w H' h' a (.dK kvs):=⟨z,hd,vs,j,dd⟩
end
def Qtw (i:aD):Prop:=∀ ov iv,subscripted i false ov iv=operate [ov,iv] (getItem ov iv)
theorem Qqn {prog:aP} {w:aO} {A:aR} {E:aB->aC->Prop} {s:aC} {env:Env} {value j:aD} {pos:Pos} {T id:String} {Q:aB->aC->Prop}
  (U:typeLookup (.type T) "__getitem__" = pure (some (.builtin id))) (hs:Qtw j)
  (h:aI (aJ prog w) A (aL value env) (fun o B=>aI (aJ prog w) A (aL j env) (fun i q=>q.TypeIs o T/\aI (aJ prog w) A (getItem o i) Q E q) E B) E s) :
  aI (aJ prog w) A (aL (.Subscript value j pos) env) Q E s:=by
 refine Subscript_ (af h (fun o B I=>af I (fun i q z=>?_) fun _ _ x=>x) fun _ _ x=>x)
 obtain ⟨O,z⟩:=z;unfold subscriptTail;refine aF ?_;rw [getitemInPython_of_ne O.not_modules];refine aF (wpAny_specialOf O U ?_);have fin:aI (aJ prog w) A (subscripted j false o i) (fun r G=>aI (aJ prog w) A (letTemporaryGo value o r >>= fun _=>pure r) Q E G) E q:=by
  rw [hs o i];exact wpAny_operating (af z (fun r G J=>aF (wpAny_letTemporaryGo (aQ J))) fun _ _ x=>x)
 first
  | exact aQ (aF fin)
  | exact aF (aQ (aF fin))
  | exact aF fin
theorem Qe7 {X:Cx} {pins:List (aA × Obj)} {σ:St} {H:Hp} {s:aC} {a:aA} {y:V} {o:Option V} (I:Inv X pins σ H s) (g:DGet H a y o):s.TypeIs (.ref a) "dict" := by
 rcases g with ⟨kvs,k,e,_,_⟩ | ⟨kvs,k,b,e,_,_,_⟩
 ·obtain ⟨_,_,vs,_,dd⟩:=Qp6 I.hok e;exact dd.typeIs
 ·obtain ⟨_,_,xs,_,dd⟩:=Que I.hok e;exact dd.typeIs
def Qyj (td ty:TE):TE:=fun σ H Q=>td σ H fun x H1=>ty σ H1 fun y H2=>∃ a v,x=.ref a/\DGet H2 a y (some v)/\Q v H2
section
variable {X:Cx} {o i e value:aD} {pos pos' tpos:Pos} {td ty tv:TE}
theorem Qgu (B:X.A.units + 1 < ae) (z:PE X o td) (hi:PE X i ty) (hs:Qtw i):PE X (.Subscript o i pos) (Qyj td ty):=by
 intro pins s σ H Q I h;refine Qqn PySem.F.slot_dict_getitem.lookup hs (thn (z pins s σ H _ I h) fun u s1 ⟨x,H1,O,J,q1⟩=>thn (hi pins s1 σ H1 _ O q1) fun Y s2 ⟨y,H2,q,U,a,v,ex,g,q2⟩=>?_)
 subst ex;obtain rfl:u=bW a:=J;exact ⟨Qe7 q g,Qjb B q g U fun Z s3 G j=>⟨v,H2,G,j,q2⟩⟩
end
theorem Qp7 {P:aP} {w:aO} {H:Hp} (h:Heap) (j:ai < h.objs.size):ObjOk P w H (h.push { cls:=.type "dict",data:=.dict #[] }) h.objs.size (.dK []):=
 ⟨cg _,beq_eq_false_iff_ne.mpr (Ne.symm (E8 j)),[],.nil,Heap.DictOf.new h⟩
def Qer:List (TE × TE)->St->Hp->(List (V × V)->Hp->Prop)->Prop
 | [],_,H,Q=>Q [] H
 | (tk,tv) :: r,σ,H,Q=>tk σ H fun x H1=>tv σ H1 fun y H2=>Qer r σ H2 fun ps H3=>Q ((x,y) :: ps) H3
abbrev VV:List (V × V)->List (aB × aB)->Prop:=aw fun p q=>RelV p.1 q.1/\RelV p.2 q.2
def PPs (X:Cx) (pos:Pos) (keys:List (Option aD)) (values:List aD) (trs:List (TE × TE)):Prop:=
 ∀ (pins:List (aA × Obj)) (s:aC) (σ:St) (H:Hp) (Q:List (V × V)->Hp->Prop),Inv X pins σ H s->Qer trs σ H Q ->
  aI (aJ X.prog X.w) X.A (evalPairs (pairTrees keys values X.env pos)) (fun vs s'=>∃ ps H',Inv X pins σ H' s'/\VV ps vs/\Q ps H') X.xe s
theorem Qgs {X:Cx} {pos:Pos}:PPs X pos [] [] []:=fun pins s σ H Q I h=>pairTrees_nil_walk ⟨[],H,I,.nil,h⟩
theorem yj {X:Cx} {pos:Pos} {k v:aD} {z:List (Option aD)} {vs:List aD} {tk tv:TE} {j:List (TE × TE)} (G:PE X k tk) (O:PE X v tv) (B:PPs X pos z vs j) :
  PPs X pos (some k :: z) (v :: vs) ((tk,tv) :: j):=fun pins s σ H Q I h=>
 pairTrees_cons_walk (thn (G pins s σ H _ I h) fun u s1 ⟨x,H1,I1,Z,q1⟩=>thn (O pins s1 σ H1 _ I1 q1) fun w2 s2 ⟨y,H2,J,ry,q2⟩=>
  thn (B pins s2 σ H2 _ J q2) fun ws s3 ⟨ps,Y,U,q,q3⟩=>⟨(x,y) :: ps,Y,U,.cons ⟨Z,ry⟩ q,q3⟩)
def Q0a (kvs more:List (Key × V)):List (Key × V):=more.foldl (fun acc kv=>Q97 acc kv.1 kv.2) kvs
theorem KV.merge:∀ {more:List (Key × V)} {j:List (Key × aB)} {kvs:List (Key × V)} {vs:List (Key × aB)},KV more j->KV kvs vs->KV (Q0a kvs more) (merged vs j):=by
 intro more j kvs vs r;unfold KV at r
 induction r generalizing kvs vs with
 | nil=>intro q; exact q
 | @cons p q ps G h t B=>
  intro z;have e:KV (Q97 kvs p.1 p.2) (stored vs q.1 q.2):=by
   have:=z.put p.1 h.2;rw [<- h.1]; exact this
  exact B e
theorem Q32:∀ (more kvs:List (Key × V)),(Q0a kvs more).length<=kvs.length + more.length
 | [],kvs=>by show kvs.length<=kvs.length + 0; omega
 | p :: r,kvs=>by
  have h1:=Q32 r (Q97 kvs p.1 p.2);have h2:=Qdt kvs p.1 p.2;show (Q0a (Q97 kvs p.1 p.2) r).length<=_;rw [D8]; omega
theorem Q8w {P:aP} {w:aO}:∀ {kvs:List (Key × V)} {B:List (aB × aB)},VV (kvs.map fun z=>(kV z.1,z.2)) B->∃ j,Carries (Qt P w) B j/\KV kvs j
 | [],_,r=>by rw [cj] at r; cases r; exact ⟨[],True.intro,.nil⟩
 | p :: kvs,_,r=>by
  rw [F7] at r;cases r with
  | @cons a b J bs h t=>
   obtain ⟨j,c,q⟩:=Q8w (P:=P) (w:=w) t;obtain ⟨I,G⟩:=b;exact ⟨(p.1,G) :: j,⟨Qnu h.1,rfl,c⟩,.cons ⟨rfl,h.2⟩ q⟩
def Qyi (trs:List (TE × TE)):TE:=fun σ H Q=>∀ p,H p=none->Qer trs σ (upd H p (.dK [])) fun ps H2=>H2 p=some (.dK [])/\∃ kvs:List (Key × V),ps=kvs.map (fun kv=>(kV kv.1,kv.2))/\kvs.length<=15/\Q (.ref p) (upd H2 p (.dK (Q0a [] kvs)))
theorem Qgt {X:Cx} {pos:Pos} {j:List (Option aD)} {B:List aD} {G:List (TE × TE)} (h:PPs X pos j B G) (O:j.all (·.isSome)=true) (hl:j.length=B.length) (h0:j≠[])
  (U:j.length<=15):PE X (.Dict j B pos) (Qyi G):=by
 intro pins s σ H Q I q;have hn:=I.hok.fresh (O7 s.heap.objs.size);have I1:=I.laid (a:=s.heap.objs.size) (o:=.dK []) (h':=s.heap.push { cls:=.type "dict",data:=.dict #[] }) (t':=s.toks) (fun _ _ q=>O1 _ q) (O7 _) (Qp7 s.heap I.big);refine wpAny_Dict_walk (knd:=Qt X.prog X.w) O hl h0 U (thn (h pins _ σ _ _ I1 (q _ hn)) fun ws s2 ⟨ps,H2,Z,Y,e,kvs,ep,lk,q2⟩=>?_)
 subst ep;obtain ⟨rs,c,rk⟩:=Q8w (P:=X.prog) (w:=X.w) Y;obtain ⟨z,hd,a2,r0,dd⟩:=J0m Z.hok e;cases r0;refine ⟨rs,c,dd,fun h' J hs=>⟨.ref s.heap.objs.size,_,?_,rfl,q2⟩⟩
 have hz:(Q0a [] kvs).length<=sizeLine:=by
  have h1:=Q32 kvs [];rw [cG] at h1;rw [sizeLine_eq]; omega
 have he:∃ q,h'.get? s.heap.objs.size=some q:=let ⟨q,_,_,hq,_⟩:=J; ⟨q,hq⟩;exact Qtg Z (by rw [e]; exact True.intro) hs he (Qx5 hz hd (rk.merge .nil) J)
structure M1 (X:Cx) (o:aD) (m:Str) (apos:Pos) (e:aD) (cpos:Pos):Prop where
 base:ak o m X.env (aL o X.env)=aL o X.env
 few:((aU cpos (aM [e] X.env)).all (fun x=>!x.1) && (backToKw cpos (keywordEach [] X.env)).all (fun x=>x.1.isSome)
  && decide (([e]:List aD).length + ([]:List Keyword).length + (if ([]:List Keyword).isEmpty then 0 else 1) < 30))=true
 line:(apos.endLine == cpos.line)=true
 trees:aU cpos (aM [e] X.env)=[(false,aL e X.env)]
structure M2 (X:Cx) (o:aD) (m:Str) (apos:Pos) (e f:aD) (cpos:Pos):Prop where
 base:ak o m X.env (aL o X.env)=aL o X.env
 few:((aU cpos (aM [e,f] X.env)).all (fun x=>!x.1) && (backToKw cpos (keywordEach [] X.env)).all (fun x=>x.1.isSome)
  && decide (([e,f]:List aD).length + ([]:List Keyword).length + (if ([]:List Keyword).isEmpty then 0 else 1) < 30))=true
 line:(apos.endLine == cpos.line)=true
 trees:aU cpos (aM [e,f] X.env)=[(false,aL e X.env),(false,aL f X.env)]
end L2
namespace L2
open PySem PySem.Spec PyProof.Rows PySem.W
section
variable (r:Nat->Nat)
def rk (p:Array Nat) (i:Nat):Nat:=r (p.getD i 0)
variable {r}
end
end L2
namespace L2
open PySem PySem.Spec PyProof.Rows PySem.W
abbrev H7:=Option (Array Keyed) × Nat × Nat × Array Keyed × Nat × Nat × Nat
end L2
namespace Sm
open PySem PySem.Spec L2
section
inductive PV where
 | non | bl (b:Bool) | int (i:Int) | str (x:Str) | tup (xs:List PV) | lst (xs:List PV) | fro (xs:List PV) | ref (i:Nat) | dic
inductive Cell where
 | lst (xs:List PV) | dic (kvs:List (Key × PV)) | dtp (kvs:List (List Key × PV)) | frd (kvs:List (Key × PV))
 | obj (C:aA) (fs:List (Str × PV))
abbrev Q0:=List Cell
structure Exc where
 cls:Str
 fs:Option (Str × PV):=none
inductive Res (α:Type) where
 | ok (a:α) (st:Q0) | exc (x:Exc) (st:Q0) | stuck
abbrev Gam:=List (Option PV)
abbrev ME:=Gam->Q0->Res PV
structure Tk where
 tr:List aA
 hid:List aA
instance:Membership aA Tk:=⟨fun t a=>a∈t.tr\/a∈t.hid⟩
def Tk.nil:Tk:=⟨[],[]⟩
theorem Tk.not_nil (a:aA):a∉Tk.nil:=fun z=>by rcases z with z | z <;> cases z
def Tk.add (t:Tk) (p:aA):Tk:=⟨t.tr ++ [p],t.hid⟩
def Tk.hide (t:Tk) (p:aA):Tk:=⟨t.tr,p :: t.hid⟩
mutual
def Rep (H:Hp) (ρ:Tk):PV->V->Prop
 | .non,v=>v=.non
 | .bl b,v=>v=.bl b
 | .int i,v=>v=.int i
 | .str x,v=>v=.str x
 | .tup ps,v=>∃ a vs,v=.ref a/\H a=some (.tup vs)/\a∉ρ/\RepL H ρ ps vs
 | .lst ps,v=>∃ a vs,v=.ref a/\H a=some (.lst vs)/\a∉ρ/\RepL H ρ ps vs
 | .fro ps,v=>∃ a vs,v=.ref a/\Rd H a (.lst vs)/\a∉ρ/\RepL H ρ ps vs
 | .ref i,v=>∃ a,ρ.tr[i]?=some a/\v=.ref a
 | .dic,v=>∃ a,v=.ref a/\H a=some (.dK [])/\a∉ρ
def RepL (H:Hp) (ρ:Tk):List PV->List V->Prop
 | [],vs=>vs=[]
 | p :: ps,vs=>∃ v r,vs=v :: r/\Rep H ρ p v/\RepL H ρ ps r
end
structure Ext (H:Hp) (ρ:Tk) (H':Hp) (ρ':Tk):Prop where
 pre:ρ.tr <+: ρ'.tr
 hidM:∀ a,a∈ρ.hid->a∈ρ'.hid
 hidN:∀ a,a∈ρ'.hid->a∈ρ.hid\/H a=none
 keep:∀ a o,H a=some o->a∉ρ.tr->H' a=some o
 new:∀ a,a∈ρ'.tr->a∈ρ.tr\/H a=none
 old:∀ a o,H a=some o->∃ o',H' a=some o'
 frz:∀ a o u,H a=some (.frz o u)->H' a=some (.frz o u)
theorem Ext.refl (H:Hp) (ρ:Tk):Ext H ρ H ρ:=⟨cX _,fun _ h=>h,fun _ h=>.inl h,fun _ _ h _=>h,fun _ h=>.inl h,fun _ o h=>⟨o,h⟩,fun _ _ _ h=>h⟩
theorem Ext.trans {H H1 H2:Hp} {ρ ρ1 j:Tk} (a:Ext H ρ H1 ρ1) (b:Ext H1 ρ1 H2 j):Ext H ρ H2 j where
 pre:=a.pre.trans b.pre
 hidM:=fun x h=>b.hidM x (a.hidM x h)
 hidN:=fun x h=>by
  rcases b.hidN x h with z | z
  ·exact a.hidN x z
  ·right
   cases q:H x with
   | none=>rfl
   | some o=>
    obtain ⟨o',e⟩:=a.old x o q;rw [e] at z; cases z
 keep:=fun x o h n=>b.keep x o (a.keep x o h n) fun z=>by
  rcases a.new x z with z | z
  ·exact n z
  ·rw [h] at z; cases z
 new:=fun x h=>by
  rcases b.new x h with z | z
  ·exact a.new x z
  ·right
   cases q:H x with
   | none=>rfl
   | some o=>
    obtain ⟨o',e⟩:=a.old x o q;rw [e] at z; cases z
 old:=fun x o h=>by
  obtain ⟨o',e⟩:=a.old x o h;exact b.old x o' e
 frz:=fun x o u h=>b.frz x o u (a.frz x o u h)
theorem Ext.add {H:Hp} {ρ:Tk} {p:aA} {o:HO} (h:H p=none):Ext H ρ (upd H p o) ρ where
 pre:=cX _
 hidM:=fun _ h=>h
 hidN:=fun _ h=>.inl h
 keep:=fun a u e _=>by rw [Qa (Qd e h)]; exact e
 new:=fun a e=>.inl e
 old:=fun a u e=>⟨u,by rw [Qa (Qd e h)]; exact e⟩
 frz:=fun a o u e=>by rw [Qa (Qd e h)]; exact e
theorem Ext.addT {H:Hp} {ρ:Tk} {p:aA} {o:HO} (h:H p=none):Ext H ρ (upd H p o) (ρ.add p) where
 pre:=dM _ _
 hidM:=fun _ h=>h
 hidN:=fun _ h=>.inl h
 keep:=fun a u e _=>by rw [Qa (Qd e h)]; exact e
 new:=fun a e=>by
  rcases F6.mp e with z | z
  ·exact .inl z
  ·right
   have:a=p:=by simpa using z
   rw [this]; exact h
 old:=fun a u e=>⟨u,by rw [Qa (Qd e h)]; exact e⟩
 frz:=fun a o u e=>by rw [Qa (Qd e h)]; exact e
theorem Ext.same {H H':Hp} {ρ:Tk} (h:Same H H'):Ext H ρ H' ρ:=⟨cX _,fun _ h=>h,fun _ h=>.inl h,fun a o e _=>h a o e,fun _ e=>.inl e,fun a o e=>⟨o,h a o e⟩,fun a o u e=>h a _ e⟩
section
variable {H H':Hp} {ρ ρ':Tk}
theorem yn {a:aA} {o:HO} (x:Ext H ρ H' ρ') (h:H a=some o) (n:a∉ρ):a∉ρ':=fun z=>by
 rcases z with z | z
 ·rcases x.new a z with z | z
  ·exact n (.inl z)
  ·rw [h] at z; cases z
 ·rcases x.hidN a z with z | z
  ·exact n (.inr z)
  ·rw [h] at z; cases z
theorem Ext.kp {a:aA} {o:HO} (x:Ext H ρ H' ρ') (h:H a=some o) (n:a∉ρ):H' a=some o:=x.keep a o h fun z=>n (.inl z)
mutual
theorem Rep.ext (x:Ext H ρ H' ρ'):∀ {p:PV} {v:V},Rep H ρ p v->Rep H' ρ' p v
 | .non,_,h=>h
 | .bl _,_,h=>h
 | .int _,_,h=>h
 | .str _,_,h=>h
 | .tup ps,v,h=>by
  obtain ⟨a,vs,e,s,n,r⟩:=h;exact ⟨a,vs,e,x.kp s n,yn x s n,RepL.ext x r⟩
 | .lst ps,v,h=>by
  obtain ⟨a,vs,e,s,n,r⟩:=h;exact ⟨a,vs,e,x.kp s n,yn x s n,RepL.ext x r⟩
 | .fro ps,v,h=>by
  obtain ⟨a,vs,e,s,n,r⟩:=h;rcases s with s | ⟨o,s⟩
  ·exact ⟨a,vs,e,.inl (x.kp s n),yn x s n,RepL.ext x r⟩
  ·exact ⟨a,vs,e,.inr ⟨o,x.kp s n⟩,yn x s n,RepL.ext x r⟩
 | .ref i,v,h=>by
  obtain ⟨a,e,rfl⟩:=h;obtain ⟨t,j⟩:=x.pre;refine ⟨a,?_,rfl⟩;rw [<- j,O4 (O0.mp e).1];exact e
 | .dic,v,h=>by
  obtain ⟨a,e,s,n⟩:=h;exact ⟨a,e,x.kp s n,yn x s n⟩
theorem RepL.ext (x:Ext H ρ H' ρ'):∀ {ps:List PV} {vs:List V},RepL H ρ ps vs->RepL H' ρ' ps vs
 | [],_,h=>h
 | p :: ps,vs,h=>by
  obtain ⟨v,r,e,h1,h2⟩:=h;exact ⟨v,r,e,Rep.ext x h1,RepL.ext x h2⟩
end
mutual
theorem Rep.hide {a:aA} {o:HO} (h:H a=none):∀ {p:PV} {v:V},Rep H ρ p v->Rep (upd H a o) (ρ.hide a) p v
 | .non,_,r=>r
 | .bl _,_,r=>r
 | .int _,_,r=>r
 | .str _,_,r=>r
 | .tup ps,v,⟨b,vs,e,s,n,r⟩=>⟨b,vs,e,by rw [Qa (Qd s h)]; exact s,fun z=>by
   rcases z with z | z
   ·exact n (.inl z)
   ·rcases E3.mp z with z | z
    ·exact Qd s h z
    ·exact n (.inr z),RepL.hide h r⟩
 | .lst ps,v,⟨b,vs,e,s,n,r⟩=>⟨b,vs,e,by rw [Qa (Qd s h)]; exact s,fun z=>by
   rcases z with z | z
   ·exact n (.inl z)
   ·rcases E3.mp z with z | z
    ·exact Qd s h z
    ·exact n (.inr z),RepL.hide h r⟩
 | .fro ps,v,⟨b,vs,e,s,n,r⟩=>by
   have ne:b≠a:=by
    rcases s with s | ⟨_,s⟩
    ·exact Qd s h
    ·exact Qd s h
   refine ⟨b,vs,e,?_,fun z=>?_,RepL.hide h r⟩
   ·rcases s with s | ⟨u,s⟩
    ·exact .inl (by rw [Qa ne]; exact s)
    ·exact .inr ⟨u,by rw [Qa ne]; exact s⟩
   ·rcases z with z | z
    ·exact n (.inl z)
    ·rcases E3.mp z with z | z
     ·exact ne z
     ·exact n (.inr z)
 | .ref i,v,r=>r
 | .dic,v,⟨b,e,s,n⟩=>⟨b,e,by rw [Qa (Qd s h)]; exact s,fun z=>by
   rcases z with z | z
   ·exact n (.inl z)
   ·rcases E3.mp z with z | z
    ·exact Qd s h z
    ·exact n (.inr z)⟩
theorem RepL.hide {a:aA} {o:HO} (h:H a=none):∀ {ps:List PV} {vs:List V},RepL H ρ ps vs->RepL (upd H a o) (ρ.hide a) ps vs
 | [],_,r=>r
 | p :: ps,_,⟨v,t,e,j,q⟩=>⟨v,t,e,Rep.hide h j,RepL.hide h q⟩
end
mutual
theorem Rep.rehide {a:aA} {o:HO} (h:a∈ρ.hid):∀ {p:PV} {v:V},Rep H ρ p v->Rep (upd H a o) ρ p v
 | .non,_,r=>r
 | .bl _,_,r=>r
 | .int _,_,r=>r
 | .str _,_,r=>r
 | .tup ps,v,⟨b,vs,e,s,n,r⟩=>⟨b,vs,e,by rw [Qa (show b≠a from fun z=>n (.inr (by rw [z]; exact h)))]; exact s,n,RepL.rehide h r⟩
 | .lst ps,v,⟨b,vs,e,s,n,r⟩=>⟨b,vs,e,by rw [Qa (show b≠a from fun z=>n (.inr (by rw [z]; exact h)))]; exact s,n,RepL.rehide h r⟩
 | .fro ps,v,⟨b,vs,e,s,n,r⟩=>by
   have ne:b≠a:=fun z=>n (.inr (by rw [z]; exact h))
   refine ⟨b,vs,e,?_,n,RepL.rehide h r⟩;rcases s with s | ⟨u,s⟩
   ·exact .inl (by rw [Qa ne]; exact s)
   ·exact .inr ⟨u,by rw [Qa ne]; exact s⟩
 | .ref i,v,r=>r
 | .dic,v,⟨b,e,s,n⟩=>⟨b,e,by rw [Qa (show b≠a from fun z=>n (.inr (by rw [z]; exact h)))]; exact s,n⟩
theorem RepL.rehide {a:aA} {o:HO} (h:a∈ρ.hid):∀ {ps:List PV} {vs:List V},RepL H ρ ps vs->RepL (upd H a o) ρ ps vs
 | [],_,r=>r
 | p :: ps,_,⟨v,t,e,j,q⟩=>⟨v,t,e,Rep.rehide h j,RepL.rehide h q⟩
end
mutual
theorem Rep.retr {a:aA} {o:HO} (h:a∈ρ.tr):∀ {p:PV} {v:V},Rep H ρ p v->Rep (upd H a o) ρ p v
 | .non,_,r=>r
 | .bl _,_,r=>r
 | .int _,_,r=>r
 | .str _,_,r=>r
 | .tup ps,v,⟨b,vs,e,s,n,r⟩=>⟨b,vs,e,by rw [Qa (show b≠a from fun z=>n (.inl (by rw [z]; exact h)))]; exact s,n,RepL.retr h r⟩
 | .lst ps,v,⟨b,vs,e,s,n,r⟩=>⟨b,vs,e,by rw [Qa (show b≠a from fun z=>n (.inl (by rw [z]; exact h)))]; exact s,n,RepL.retr h r⟩
 | .fro ps,v,⟨b,vs,e,s,n,r⟩=>by
   have ne:b≠a:=fun z=>n (.inl (by rw [z]; exact h))
   refine ⟨b,vs,e,?_,n,RepL.retr h r⟩;rcases s with s | ⟨u,s⟩
   ·exact .inl (by rw [Qa ne]; exact s)
   ·exact .inr ⟨u,by rw [Qa ne]; exact s⟩
 | .ref i,v,r=>r
 | .dic,v,⟨b,e,s,n⟩=>⟨b,e,by rw [Qa (show b≠a from fun z=>n (.inl (by rw [z]; exact h)))]; exact s,n⟩
theorem RepL.retr {a:aA} {o:HO} (h:a∈ρ.tr):∀ {ps:List PV} {vs:List V},RepL H ρ ps vs->RepL (upd H a o) ρ ps vs
 | [],_,r=>r
 | p :: ps,_,⟨v,t,e,j,q⟩=>⟨v,t,e,Rep.retr h j,RepL.retr h q⟩
end
mutual
theorem Rep.unhide {hs:List aA} (j:∀ a,a∈hs->a∈ρ.hid):∀ {p:PV} {v:V},Rep H ρ p v->Rep H ⟨ρ.tr,hs⟩ p v
 | .non,_,r=>r
 | .bl _,_,r=>r
 | .int _,_,r=>r
 | .str _,_,r=>r
 | .tup ps,v,⟨b,vs,e,s,n,r⟩=>⟨b,vs,e,s,fun z=>n (z.imp id (j _)),RepL.unhide j r⟩
 | .lst ps,v,⟨b,vs,e,s,n,r⟩=>⟨b,vs,e,s,fun z=>n (z.imp id (j _)),RepL.unhide j r⟩
 | .fro ps,v,⟨b,vs,e,s,n,r⟩=>⟨b,vs,e,s,fun z=>n (z.imp id (j _)),RepL.unhide j r⟩
 | .ref i,v,r=>r
 | .dic,v,⟨b,e,s,n⟩=>⟨b,e,s,fun z=>n (z.imp id (j _))⟩
theorem RepL.unhide {hs:List aA} (j:∀ a,a∈hs->a∈ρ.hid):∀ {ps:List PV} {vs:List V},RepL H ρ ps vs->RepL H ⟨ρ.tr,hs⟩ ps vs
 | [],_,r=>r
 | p :: ps,_,⟨v,t,e,q,z⟩=>⟨v,t,e,Rep.unhide j q,RepL.unhide j z⟩
end
theorem RepL.length:∀ {ps:List PV} {vs:List V},RepL H ρ ps vs->ps.length=vs.length
 | [],_,h=>by cases h; rfl
 | p :: ps,_,⟨v,r,rfl,_,h2⟩=>by rw [D8,D8,RepL.length h2]
theorem RepL.get:∀ {ps:List PV} {vs:List V} {i:Nat} {p:PV},RepL H ρ ps vs->ps[i]?=some p->∃ v,vs[i]?=some v/\Rep H ρ p v
 | [],_,_,_,_,e=>by simp at e
 | p :: ps,_,0,q,⟨v,r,rfl,h1,h2⟩,e=>by simp at e; subst e; exact ⟨v,rfl,h1⟩
 | p :: ps,_,i + 1,q,⟨v,r,rfl,h1,h2⟩,e=>by
  obtain ⟨u,e1,e2⟩:=RepL.get (i:=i) h2 (by simpa using e);exact ⟨u,by simpa using e1,e2⟩
theorem RepL.cons {p:PV} {v:V} {ps:List PV} {vs:List V} (h:Rep H ρ p v) (r:RepL H ρ ps vs):RepL H ρ (p :: ps) (v :: vs):=⟨v,vs,rfl,h,r⟩
theorem RepL.nil:RepL H ρ [] []:=rfl
theorem RepL.append:∀ {ps j:List PV} {vs us:List V},RepL H ρ ps vs->RepL H ρ j us->RepL H ρ (ps ++ j) (vs ++ us)
 | [],_,_,_,h,g=>by cases h; exact g
 | p :: ps,_,_,_,⟨v,r,rfl,h1,h2⟩,g=>⟨v,_,rfl,h1,RepL.append h2 g⟩
theorem RepL.take:∀ {ps:List PV} {vs:List V} (n:Nat),RepL H ρ ps vs->RepL H ρ (ps.take n) (vs.take n)
 | _,_,0,_=>rfl
 | [],_,n + 1,h=>by cases h; rfl
 | p :: ps,_,n + 1,⟨v,r,rfl,h1,h2⟩=>⟨v,_,rfl,h1,RepL.take n h2⟩
theorem RepL.drop:∀ {ps:List PV} {vs:List V} (n:Nat),RepL H ρ ps vs->RepL H ρ (ps.drop n) (vs.drop n)
 | _,_,0,h=>h
 | [],_,n + 1,h=>by cases h; rfl
 | p :: ps,_,n + 1,⟨v,r,rfl,h1,h2⟩=>RepL.drop n h2
theorem RepL.set {p:PV} {v:V} (h:Rep H ρ p v):∀ {ps:List PV} {vs:List V} (i:Nat),RepL H ρ ps vs->RepL H ρ (ps.set i p) (vs.set i v)
 | [],_,_,g=>by cases g; rfl
 | q :: ps,_,0,⟨u,r,rfl,h1,h2⟩=>⟨v,r,rfl,h,h2⟩
 | q :: ps,_,i + 1,⟨u,r,rfl,h1,h2⟩=>⟨u,_,rfl,h1,RepL.set h i h2⟩
theorem RepL.rep {ps:List PV} {vs:List V} (h:RepL H ρ ps vs):∀ n,RepL H ρ (bV n ps).flatten (bV n vs).flatten
 | 0=>rfl
 | n + 1=>by rw [cH,cH,cS,cS]; exact h.append (RepL.rep h n)
theorem RepL.toInts:∀ {ns:List Int} {vs:List V},RepL H ρ (ns.map .int) vs->vs=ns.map V.int
 | [],_,h=>h
 | n :: ns,_,⟨v,r,rfl,h1,h2⟩=>by
  have e:v=V.int n:=h1;rw [RepL.toInts h2,e]; rfl
theorem RepL.toBls:∀ {ns:List Bool} {vs:List V},RepL H ρ (ns.map .bl) vs->vs=ns.map V.bl
 | [],_,h=>h
 | n :: ns,_,⟨v,r,rfl,h1,h2⟩=>by
  have e:v=V.bl n:=h1;rw [RepL.toBls h2,e]; rfl
end
def RepD {κ:Type} (H:Hp) (ρ:Tk) (kvs:List (κ × PV)) (vs:List (κ × V)):Prop:=vs.map cw=kvs.map cw/\RepL H ρ (kvs.map fF) (vs.map fF)
theorem RepD.ext {κ:Type} {H H':Hp} {ρ ρ':Tk} {kvs:List (κ × PV)} {vs:List (κ × V)} (x:Ext H ρ H' ρ') (r:RepD H ρ kvs vs):RepD H' ρ' kvs vs:=⟨r.1,r.2.ext x⟩
theorem RepD.length {κ:Type} {H:Hp} {ρ:Tk} {kvs:List (κ × PV)} {vs:List (κ × V)} (r:RepD H ρ kvs vs):kvs.length=vs.length:=by
 have:=congrArg dZ r.1;rw [O2,O2] at this;exact this.symm
def CellR (H:Hp) (ρ:Tk) (a:aA):Cell->Prop
 | .lst ps=>∃ vs,H a=some (.lst vs)/\RepL H ρ ps vs
 | .dic kvs=>∃ vs,H a=some (.dK vs)/\RepD H ρ kvs vs
 | .dtp kvs=>∃ vs,H a=some (.dT vs)/\RepD H ρ kvs vs
 | .frd kvs=>∃ vs,(∃ o,H a=some (.frz o (.dK vs)))/\RepD H ρ kvs vs
 | .obj C fs=>∃ vs,(∃ dx,H a=some (.ins C dx vs))/\RepD H ρ fs vs
theorem CellR.dom {H:Hp} {ρ:Tk} {a:aA}:∀ {c:Cell},CellR H ρ a c->∃ o,H a=some o
 | .lst _,⟨_,e,_⟩=>⟨_,e⟩
 | .dic _,⟨_,e,_⟩=>⟨_,e⟩
 | .dtp _,⟨_,e,_⟩=>⟨_,e⟩
 | .frd _,⟨_,⟨_,e⟩,_⟩=>⟨_,e⟩
 | .obj _ _,⟨_,⟨_,e⟩,_⟩=>⟨_,e⟩
theorem CellR.ext {H H':Hp} {ρ ρ':Tk} {a:aA} (x:Ext H ρ H' ρ') (k:∀ o,H a=some o->H' a=some o):∀ {c:Cell},CellR H ρ a c->CellR H' ρ' a c
 | .lst _,⟨vs,e,r⟩=>⟨vs,k _ e,r.ext x⟩
 | .dic _,⟨vs,e,r⟩=>⟨vs,k _ e,r.ext x⟩
 | .dtp _,⟨vs,e,r⟩=>⟨vs,k _ e,r.ext x⟩
 | .frd _,⟨vs,⟨o,e⟩,r⟩=>⟨vs,⟨o,k _ e⟩,r.ext x⟩
 | .obj _ _,⟨vs,⟨o,e⟩,r⟩=>⟨vs,⟨o,k _ e⟩,r.ext x⟩
structure Rel (H:Hp) (ρ:Tk) (st:Q0):Prop where
 len:ρ.tr.length=st.length
 nd:ρ.tr.Nodup
 hd:∀ a∈ρ.hid,∃ o,H a=some o/\∀ xs,o≠.tup xs
 ap:∀ a∈ρ.hid,a∉ρ.tr
 cell:∀ (i:Nat) (a:aA) (c:Cell),ρ.tr[i]?=some a->st[i]?=some c->CellR H ρ a c
section
variable {H H':Hp} {ρ ρ':Tk} {st st':Q0}
theorem Rel.lst (R:Rel H ρ st) {i:Nat} {ps:List PV} (h:st[i]?=some (.lst ps)):∃ a vs,ρ.tr[i]?=some a/\H a=some (.lst vs)/\RepL H ρ ps vs:=by
 have hi:i < ρ.tr.length:=by rw [R.len]; exact (O0.mp h).1
 have e:ρ.tr[i]?=some ρ.tr[i]:=O5 hi;obtain ⟨vs,e1,e2⟩:=R.cell i _ _ e h;exact ⟨_,vs,e,e1,e2⟩
theorem Rel.dic (R:Rel H ρ st) {i:Nat} {kvs:List (Key × PV)} (h:st[i]?=some (.dic kvs)):∃ a vs,ρ.tr[i]?=some a/\H a=some (.dK vs)/\RepD H ρ kvs vs:=by
 have hi:i < ρ.tr.length:=by rw [R.len]; exact (O0.mp h).1
 have e:ρ.tr[i]?=some ρ.tr[i]:=O5 hi;obtain ⟨vs,e1,e2⟩:=R.cell i _ _ e h;exact ⟨_,vs,e,e1,e2⟩
theorem Rel.frd (R:Rel H ρ st) {i:Nat} {kvs:List (Key × PV)} (h:st[i]?=some (.frd kvs)):∃ a vs o,ρ.tr[i]?=some a/\H a=some (.frz o (.dK vs))/\RepD H ρ kvs vs:=by
 have hi:i < ρ.tr.length:=by rw [R.len]; exact (O0.mp h).1
 have e:ρ.tr[i]?=some ρ.tr[i]:=O5 hi;obtain ⟨vs,⟨o,e1⟩,e2⟩:=R.cell i _ _ e h;exact ⟨_,vs,o,e,e1,e2⟩
theorem Rel.obj (R:Rel H ρ st) {i:Nat} {C:aA} {fs:List (Str × PV)} (h:st[i]?=some (.obj C fs)):∃ a vs dx,ρ.tr[i]?=some a/\H a=some (.ins C dx vs)/\RepD H ρ fs vs:=by
 have hi:i < ρ.tr.length:=by rw [R.len]; exact (O0.mp h).1
 have e:ρ.tr[i]?=some ρ.tr[i]:=O5 hi;obtain ⟨vs,⟨o,e1⟩,e2⟩:=R.cell i _ _ e h;exact ⟨_,vs,o,e,e1,e2⟩
theorem Rel.dom (R:Rel H ρ st) {a:aA} (h:a∈ρ.tr):∃ o,H a=some o:=by
 obtain ⟨i,hi,e⟩:=dl h;have hs:i < st.length:=by rw [<- R.len]; exact hi
 have q:=R.cell i a st[i] (by rw [O5 hi,e]) (O5 hs);exact q.dom
theorem Rel.fresh (R:Rel H ρ st) {p:aA} (h:H p=none):p∉ρ:=fun z=>by
 rcases z with z | z
 ·obtain ⟨vs,q⟩:=R.dom z;rw [h] at q; cases q
 ·obtain ⟨o,q,_⟩:=R.hd p z;rw [h] at q; cases q
theorem Rel.later (R:Rel H ρ st) (x:Ext H ρ H' ρ) (k:∀ a o,a∈ρ.tr->H a=some o->H' a=some o):Rel H' ρ st where
 len:=R.len
 nd:=R.nd
 hd:=fun a j=>let ⟨o,e,n⟩:=R.hd a j; ⟨o,x.keep a o e (R.ap a j),n⟩
 ap:=R.ap
 cell:=fun i a c h1 h2=>by
  exact (R.cell i a c h1 h2).ext x fun o e=>k a o (D4 h1) e
end
theorem Rel.add {H:Hp} {ρ:Tk} {st:Q0} (R:Rel H ρ st) {p:aA} {o:HO} (h:H p=none):Rel (upd H p o) ρ st:=
 R.later (Ext.add h) fun a u j e=>by rw [Qa (Qd e h)]; exact e
theorem Rel.same {H H':Hp} {ρ:Tk} {st:Q0} (R:Rel H ρ st) (h:Same H H'):Rel H' ρ st:=R.later (Ext.same h) fun a u _ e=>h a u e
theorem Rel.addC {H:Hp} {ρ:Tk} {st:Q0} (R:Rel H ρ st) {p:aA} {cl:Cell} {o:HO} (h:H p=none) (r:CellR (upd H p o) (ρ.add p) p cl):Rel (upd H p o) (ρ.add p) (st ++ [cl]) where
 len:=by show (ρ.tr ++ [p]).length=_; rw [O6,O6,R.len]; rfl
 nd:=dm.mpr ⟨R.nd,by simp,fun a j b B e=>by
  have:b=p:=by simpa using B
  subst this; subst e;exact R.fresh h (.inl j)⟩
 hd:=fun a j=>let ⟨o,e,n⟩:=R.hd a j; ⟨o,by rw [Qa (Qd e h)]; exact e,n⟩
 ap:=fun a j z=>by
  rcases F6.mp z with z | z
  ·exact R.ap a j z
  ·have:a=p:=by simpa using z
   subst this;exact R.fresh h (.inr j)
 cell:=fun i a c h1 h2=>by
  have h1:(ρ.tr ++ [p])[i]?=some a:=h1
  by_cases hi:i < st.length
  ·rw [O4 (by rw [R.len]; exact hi)] at h1;rw [O4 hi] at h2;exact (R.cell i a c h1 h2).ext (Ext.addT h) fun u e=>by rw [Qa (Qd e h)]; exact e
  ·rw [D2 (by rw [R.len]; omega)] at h1;rw [D2 (by omega)] at h2;have q:i - st.length=0:=by
    rcases fG (i - st.length) with z | z
    ·exact z
    ·rw [F3 (by simp; omega)] at h2; cases h2
   rw [R.len,q] at h1;rw [q] at h2;simp at h1 h2;subst h1; subst h2;exact r
theorem Qac {α:Type} {l:List α} (h:l.Nodup) {i j:Nat} (hi:i < l.length) (q:j < l.length) (e:l[i]=l[j]):i=j:=by
 rcases Nat.lt_trichotomy i j with z | z | z
 ·exact absurd e ((gO.mp h) i j hi q z)
 ·exact z
 ·exact absurd e.symm ((gO.mp h) j i q hi z)
theorem Ext.put {H:Hp} {ρ:Tk} {a:aA} {o o':HO} (h:a∈ρ.tr) (e:H a=some o) (j:∀ q u,o≠.frz q u:=by intro _ _ z; cases z):Ext H ρ (upd H a o') ρ where
 pre:=cX _
 hidM:=fun _ h=>h
 hidN:=fun _ h=>.inl h
 keep:=fun b u q n=>by rw [Qa (show b≠a from fun z=>n (by rw [z]; exact h))]; exact q
 new:=fun b q=>.inl q
 old:=fun b u q=>by
  by_cases z:b=a
  ·exact ⟨o',by rw [z]; exact J5⟩
  ·exact ⟨u,by rw [Qa z]; exact q⟩
 frz:=fun b q u k=>by
  by_cases z:b=a
  ·rw [z,e] at k; cases k; exact absurd rfl (j _ _)
  ·rw [Qa z]; exact k
theorem Rel.putC {H:Hp} {ρ:Tk} {st:Q0} (R:Rel H ρ st) {i:Nat} {a:aA} {cl:Cell} {o o':HO} (hi:ρ.tr[i]?=some a) (e:H a=some o) (r:CellR (upd H a o') ρ a cl):Rel (upd H a o') ρ (st.set i cl) where
 len:=by rw [D9]; exact R.len
 nd:=R.nd
 hd:=fun b B=>let ⟨u,q,n⟩:=R.hd b B; ⟨u,by rw [Qa (show b≠a from fun z=>R.ap b B (by rw [z]; exact D4 hi))]; exact q,n⟩
 ap:=R.ap
 cell:=fun j b c h1 h2=>by
  by_cases J:i=j
  ·subst J;rw [hi] at h1; cases h1;rw [E7 (by rw [<- R.len]; exact (O0.mp hi).1)] at h2;cases h2;exact r
  ·rw [O9 J] at h2;have q:=R.cell j b c h1 h2;have B:b≠a:=fun z=>by
    subst z;have U:=(O0.mp hi);have O:=(O0.mp h1);exact J (Qac R.nd U.1 O.1 (U.2.trans O.2.symm))
   have G:=D4 hi;cases c with
   | lst ps=>
    obtain ⟨vs,e1,e2⟩:=q;exact ⟨vs,by rw [Qa B]; exact e1,e2.retr G⟩
   | dic ps=>
    obtain ⟨vs,e1,e2⟩:=q;exact ⟨vs,by rw [Qa B]; exact e1,e2.1,e2.2.retr G⟩
   | dtp ps=>
    obtain ⟨vs,e1,e2⟩:=q;exact ⟨vs,by rw [Qa B]; exact e1,e2.1,e2.2.retr G⟩
   | frd ps=>
    obtain ⟨vs,⟨I,e1⟩,e2⟩:=q;exact ⟨vs,⟨I,by rw [Qa B]; exact e1⟩,e2.1,e2.2.retr G⟩
   | obj C ps=>
    obtain ⟨vs,⟨I,e1⟩,e2⟩:=q;exact ⟨vs,⟨I,by rw [Qa B]; exact e1⟩,e2.1,e2.2.retr G⟩
theorem Rel.put {H:Hp} {ρ:Tk} {st:Q0} (R:Rel H ρ st) {i:Nat} {a:aA} {ps:List PV} {vs:List V} {o:HO} (hi:ρ.tr[i]?=some a) (e:H a=some o) (r:RepL H ρ ps vs):Rel (upd H a (.lst vs)) ρ (st.set i (.lst ps)):=
 R.putC hi e ⟨vs,J5,r.retr (D4 hi)⟩
theorem Rel.hide {H:Hp} {ρ:Tk} {st:Q0} (R:Rel H ρ st) {p:aA} {o:HO} (h:H p=none) (I:∀ xs,o≠.tup xs:=by intro _ z; cases z):Rel (upd H p o) (ρ.hide p) st:=by
 have x:Ext H ρ (upd H p o) ρ:=Ext.add h;have G:=R.add (p:=p) (o:=o) h;refine ⟨G.len,G.nd,fun a j=>?_,fun a j z=>?_,fun i a c h1 h2=>?_⟩
 ·rcases E3.mp j with rfl | j
  ·exact ⟨o,J5,I⟩
  ·exact G.hd a j
 ·rcases E3.mp j with rfl | j
  ·exact R.fresh h (.inl z)
  ·exact R.ap a j z
 ·have q:=R.cell i a c h1 h2;cases c with
  | lst ps=>
   obtain ⟨vs,e1,e2⟩:=q;exact ⟨vs,by rw [Qa (Qd e1 h)]; exact e1,e2.hide h⟩
  | dic ps=>
   obtain ⟨vs,e1,e2⟩:=q;exact ⟨vs,by rw [Qa (Qd e1 h)]; exact e1,e2.1,e2.2.hide h⟩
  | dtp ps=>
   obtain ⟨vs,e1,e2⟩:=q;exact ⟨vs,by rw [Qa (Qd e1 h)]; exact e1,e2.1,e2.2.hide h⟩
  | frd ps=>
   obtain ⟨vs,⟨B,e1⟩,e2⟩:=q;exact ⟨vs,⟨B,by rw [Qa (Qd e1 h)]; exact e1⟩,e2.1,e2.2.hide h⟩
  | obj C ps=>
   obtain ⟨vs,⟨B,e1⟩,e2⟩:=q;exact ⟨vs,⟨B,by rw [Qa (Qd e1 h)]; exact e1⟩,e2.1,e2.2.hide h⟩
theorem Rel.rehide {H:Hp} {ρ:Tk} {st:Q0} (R:Rel H ρ st) {p:aA} {o:HO} (h:p∈ρ.hid) (G:∀ xs,o≠.tup xs:=by intro _ z; cases z):Rel (upd H p o) ρ st:=by
 refine ⟨R.len,R.nd,fun a B=>?_,R.ap,fun i a c h1 h2=>?_⟩
 ·by_cases e:a=p
  ·exact ⟨o,by rw [e]; exact J5,G⟩
  ·obtain ⟨u,q,n⟩:=R.hd a B;exact ⟨u,by rw [Qa e]; exact q,n⟩
 ·have q:=R.cell i a c h1 h2;have ne:a≠p:=fun z=>R.ap p h (by rw [<- z]; exact D4 h1)
  cases c with
  | lst ps=>
   obtain ⟨vs,e1,e2⟩:=q;exact ⟨vs,by rw [Qa ne]; exact e1,e2.rehide h⟩
  | dic ps=>
   obtain ⟨vs,e1,e2⟩:=q;exact ⟨vs,by rw [Qa ne]; exact e1,e2.1,e2.2.rehide h⟩
  | dtp ps=>
   obtain ⟨vs,e1,e2⟩:=q;exact ⟨vs,by rw [Qa ne]; exact e1,e2.1,e2.2.rehide h⟩
  | frd ps=>
   obtain ⟨vs,⟨j,e1⟩,e2⟩:=q;exact ⟨vs,⟨j,by rw [Qa ne]; exact e1⟩,e2.1,e2.2.rehide h⟩
  | obj C ps=>
   obtain ⟨vs,⟨j,e1⟩,e2⟩:=q;exact ⟨vs,⟨j,by rw [Qa ne]; exact e1⟩,e2.1,e2.2.rehide h⟩
theorem Rel.unhide {H:Hp} {ρ:Tk} {st:Q0} {hs:List aA} (j:∀ a,a∈hs->a∈ρ.hid) (R:Rel H ρ st):Rel H ⟨ρ.tr,hs⟩ st:=by
 refine ⟨R.len,R.nd,fun a z=>R.hd a (j a z),fun a z=>R.ap a (j a z),fun i a c h1 h2=>?_⟩;have q:=R.cell i a c h1 h2;cases c with
 | lst ps=>
  obtain ⟨vs,e1,e2⟩:=q;exact ⟨vs,e1,RepL.unhide j e2⟩
 | dic ps=>
  obtain ⟨vs,e1,e2⟩:=q;exact ⟨vs,e1,e2.1,RepL.unhide j e2.2⟩
 | dtp ps=>
  obtain ⟨vs,e1,e2⟩:=q;exact ⟨vs,e1,e2.1,RepL.unhide j e2.2⟩
 | frd ps=>
  obtain ⟨vs,e1,e2⟩:=q;exact ⟨vs,e1,e2.1,RepL.unhide j e2.2⟩
 | obj C ps=>
  obtain ⟨vs,e1,e2⟩:=q;exact ⟨vs,e1,e2.1,RepL.unhide j e2.2⟩
theorem Ext.hide {H:Hp} {ρ:Tk} {p:aA} {o:HO} (h:H p=none):Ext H ρ (upd H p o) (ρ.hide p) where
 pre:=cX _
 hidM:=fun _ h=>D1 _ h
 hidN:=fun a j=>by
  rcases E3.mp j with rfl | j
  ·exact .inr h
  ·exact .inl j
 keep:=fun a u e _=>by rw [Qa (Qd e h)]; exact e
 new:=fun a e=>.inl e
 old:=fun a u e=>⟨u,by rw [Qa (Qd e h)]; exact e⟩
 frz:=fun a o u e=>by rw [Qa (Qd e h)]; exact e
theorem Ext.put0 {H H1:Hp} {ρ ρ1:Tk} {p:aA} {o:HO} (x:Ext H ρ H1 ρ1) (h:H p=none):Ext H ρ (upd H1 p o) ρ1 where
 pre:=x.pre
 hidM:=x.hidM
 hidN:=x.hidN
 keep:=fun a u e n=>by rw [Qa (Qd e h)]; exact x.keep a u e n
 new:=x.new
 old:=fun a u e=>by rw [Qa (Qd e h)]; exact x.old a u e
 frz:=fun a o u e=>by rw [Qa (Qd e h)]; exact x.frz a o u e
theorem Ext.unhide {H H1:Hp} {ρ ρ1:Tk} (x:Ext H ρ H1 ρ1):Ext H ρ H1 ⟨ρ1.tr,ρ.hid⟩ where
 pre:=x.pre
 hidM:=fun _ h=>h
 hidN:=fun _ h=>.inl h
 keep:=x.keep
 new:=x.new
 old:=x.old
 frz:=x.frz
def EnvR (H:Hp) (ρ:Tk) (Γ:Gam) (σ:St):Prop:=Γ.length=σ.length/\∀ (i:Nat) (p:PV),Γ[i]?=some (some p)->∃ v,σ[i]?=some (some v)/\Rep H ρ p v
theorem EnvR.ext {H H':Hp} {ρ ρ':Tk} {Γ:Gam} {σ:St} (x:Ext H ρ H' ρ') (h:EnvR H ρ Γ σ):EnvR H' ρ' Γ σ:=
 ⟨h.1,fun i p e=>let ⟨v,a,b⟩:=h.2 i p e; ⟨v,a,b.ext x⟩⟩
theorem EnvR.hide {H:Hp} {ρ:Tk} {Γ:Gam} {σ:St} {a:aA} {o:HO} (n:H a=none) (h:EnvR H ρ Γ σ):EnvR (upd H a o) (ρ.hide a) Γ σ:=⟨h.1,fun i p e=>let ⟨v,a,b⟩:=h.2 i p e; ⟨v,a,b.hide n⟩⟩
theorem EnvR.rehide {H:Hp} {ρ:Tk} {Γ:Gam} {σ:St} {a:aA} {o:HO} (n:a∈ρ.hid) (h:EnvR H ρ Γ σ):EnvR (upd H a o) ρ Γ σ:=⟨h.1,fun i p e=>let ⟨v,a,b⟩:=h.2 i p e; ⟨v,a,b.rehide n⟩⟩
theorem EnvR.set {H:Hp} {ρ:Tk} {Γ:Gam} {σ:St} {p:PV} {v:V} (h:EnvR H ρ Γ σ) (r:Rep H ρ p v) (i:Nat):EnvR H ρ (Γ.set i (some p)) (σ.set i (some v)):=by
 refine ⟨by rw [D9,D9]; exact h.1,fun j q e=>?_⟩;rw [dn] at e;rw [dn]
 by_cases B:i=j
 ·subst B;simp only [if_true] at e ⊢
  by_cases z:i < Γ.length
  ·rw [bO z] at e; cases e;rw [bO (by rw [<- h.1]; exact z)];exact ⟨v,rfl,r⟩
  ·rw [bP z] at e; cases e
 ·rw [bP B] at e ⊢;exact h.2 j q e
end
def Res.bind {α β:Type} (r:Res α) (f:α->Q0->Res β):Res β:=match r with
 | .ok a st=>f a st
 | .exc x st=>.exc x st
 | .stuck=>.stuck
def okO {α:Type} (st:Q0):Option α->Res α
 | some a=>.ok a st
 | none=>.stuck
section
variable (X:Cx)
def WE (e:aD):TE:=fun σ H Q=>∀ (pins:List (aA × Obj)) (s:aC),Inv X pins σ H s->aI (aJ X.prog X.w) X.A (aL e X.env) (EP X pins σ Q) X.xe s
def WT (e:aD):TT:=fun σ H Q=>∀ (pins:List (aA × Obj)) (s:aC),Inv X pins σ H s->aI (aJ X.prog X.w) X.A (isTrue e X.env (aL e X.env)) (TP X pins σ Q) X.xe s
def WW (e:aD):TT:=fun σ H Q=>∀ (wh:Sem aB) (pins:List (aA × Obj)) (s:aC),Inv X pins σ H s->aI (aJ X.prog X.w) X.A (isTrue e X.env wh) (TP X pins σ Q) X.xe s
def WA (es:List aD):TA:=fun σ H Q=>∀ (pos:Pos) (pins:List (aA × Obj)) (s:aC),Inv X pins σ H s->aI (aJ X.prog X.w) X.A (spliced (aU pos (aM es X.env))) (AP X pins σ Q) X.xe s
def WS (st:aK):TS:=fun D σ H=>∀ (pins:List (aA × Obj)) (s:aC),Inv X pins σ H s->aI (aJ X.prog X.w) X.A (exec st X.env) (SP X pins D) X.xe s
def WB (st:List aK):TS:=fun D σ H=>∀ (pins:List (aA × Obj)) (s:aC),Inv X pins σ H s->aI (aJ X.prog X.w) X.A (execs st X.env) (SP X pins D) X.xe s
def WI (tg iter : aD) : TI := fun σ H R => ∀ (pins : List (aA × Obj)) (s : aC), Inv X pins σ H s ->
  aI (aJ X.prog X.w) X.A (aL iter X.env) (fun v s1=>aI (aJ X.prog X.w) X.A (pyIter v) (PIE X pins σ tg R) X.xe s1) X.xe s
def WO (f:aB->aB->Sem aB):R2:=fun x y H Q=>∀ (pins:List (aA × Obj)) (s:aC) (σ:St) (v u:aB),Inv X pins σ H s->RelV x v->RelV y u->aI (aJ X.prog X.w) X.A (f v u) (EP X pins σ Q) X.xe s
def WC (f:aB):List V->Hp->VK->Prop:=fun xs H Q=>∀ (pins:List (aA × Obj)) (s:aC) (σ:St) (us:List aB),Inv X pins σ H s->Vals xs us->aI (aJ X.prog X.w) X.A (call f us) (EP X pins σ Q) X.xe s
end
section
variable {X:Cx}
theorem Ye {e:aD}:PE X e (WE X e):=fun pins s _ _ _ I h=>h pins s I
theorem Qd0 {e:aD}:PT X e (WT X e):=fun pins s _ _ _ I h=>h pins s I
theorem Qz0 {e:aD}:PW X e (WW X e):=fun j pins s _ _ _ I h=>h j pins s I
theorem Q2t {es:List aD}:PA X es (WA X es):=fun pos pins s _ _ _ I h=>h pos pins s I
theorem Qz2 {st:aK}:PS X st (WS X st):=fun pins s _ _ _ I h=>h pins s I
theorem Q7g {st:List aK}:PSs X st (WB X st):=fun pins s _ _ _ I h=>h pins s I
theorem Qvp {tg iter:aD}:PI X tg iter (WI X tg iter):=fun pins s _ _ _ I h=>h pins s I
theorem Qfc {f:aB->aB->Sem aB}:OpR X f (WO X f):=fun pins s σ _ _ _ v u _ I j q h=>h pins s σ v u I j q
theorem Qph {f:aB}:Kh X f (WC X f):=fun pins s σ _ _ us _ I r h=>h pins s σ us I r
theorem WE.of {e:aD} {t:TE} {σ:St} {H:Hp} {Q:VK} (h:PE X e t) (q:t σ H Q):WE X e σ H Q:=fun pins s I=>h pins s σ H Q I q
theorem WT.of {e:aD} {t:TT} {σ:St} {H:Hp} {Q:Bool->Hp->Prop} (h:PT X e t) (q:t σ H Q):WT X e σ H Q:=fun pins s I=>h pins s σ H Q I q
theorem WW.of {e:aD} {t:TT} {σ:St} {H:Hp} {Q:Bool->Hp->Prop} (h:PW X e t) (q:t σ H Q):WW X e σ H Q:=fun j pins s I=>h j pins s σ H Q I q
theorem WA.of {es:List aD} {t:TA} {σ:St} {H:Hp} {Q:List V->Hp->Prop} (h:PA X es t) (q:t σ H Q):WA X es σ H Q:=fun pos pins s I=>h pos pins s σ H Q I q
theorem WS.of {st:aK} {t:TS} {σ:St} {H:Hp} {D:Ends} (h:PS X st t) (q:t D σ H):WS X st D σ H:=fun pins s I=>h pins s σ H D I q
theorem WB.of {st:List aK} {t:TS} {σ:St} {H:Hp} {D:Ends} (h:PSs X st t) (q:t D σ H):WB X st D σ H:=fun pins s I=>h pins s σ H D I q
theorem WI.of {tg iter:aD} {t:TI} {σ:St} {H:Hp} {R:It->Hp->Prop} (h:PI X tg iter t) (q:t σ H R):WI X tg iter σ H R:=fun pins s I=>h pins s σ H R I q
theorem WO.of {f:aB->aB->Sem aB} {r:R2} {x y:V} {H:Hp} {Q:VK} (h:OpR X f r) (q:r x y H Q):WO X f x y H Q:=fun pins s σ v u I j z=>h pins s σ H x y v u Q I j z q
theorem WC.of {f:aB} {r:List V->Hp->VK->Prop} {xs:List V} {H:Hp} {Q:VK} (h:Kh X f r) (q:r xs H Q):WC X f xs H Q:=fun pins s σ us I j=>h pins s σ H xs us Q I j q
end
def XFs (H:Hp) (ρ:Tk):Option (Str × PV)->Option aA->Prop
 | none,dv=>dv=none
 | some (n,p),dv=>∃ dx v,dv=some dx/\H dx=some (.xd [(n,v)])/\dx∉ρ/\Rep H ρ p v
def Acc {α:Type} (mg:Str->Option aB) (E:XK) (H:Hp) (ρ:Tk) (P:α->Q0->Hp->Tk->Prop):Res α->Prop
 | .ok a st=>∀ H' ρ',Ext H ρ H' ρ'->Rel H' ρ' st->P a st H' ρ'
 | .exc x st=>∀ C dv H' ρ',mg x.cls=some (.ref C)->Ext H ρ H' ρ'->Rel H' ρ' st->XFs H' ρ' x.fs dv->E (.ref C) dv H'
 | .stuck=>False
section
variable {α β:Type} {mg:Str->Option aB} {E:XK} {H H1:Hp} {ρ ρ1:Tk}
theorem Acc.mono {P z:α->Q0->Hp->Tk->Prop} {r:Res α} (h:Acc mg E H ρ P r) (x:Ext H ρ H1 ρ1) (k:∀ a st H' ρ',P a st H' ρ'->z a st H' ρ'):Acc mg E H1 ρ1 z r:=by
 cases r with
 | ok a st=>exact fun H' ρ' q j=>k _ _ _ _ (h H' ρ' (x.trans q) j)
 | exc e st=>exact fun C B H' ρ' m q j f=>h C B H' ρ' m (x.trans q) j f
 | stuck=>exact h
theorem Acc.later {P:α->Q0->Hp->Tk->Prop} {r:Res α} (h:Acc mg E H ρ P r) (x:Ext H ρ H1 ρ1):Acc mg E H1 ρ1 P r:=h.mono x fun _ _ _ _ p=>p
theorem Acc.bind {P:β->Q0->Hp->Tk->Prop} {r:Res α} {f:α->Q0->Res β} (h:Acc mg E H ρ P (r.bind f)):Acc mg E H ρ (fun a j H1 ρ1=>Acc mg E H1 ρ1 P (f a j)) r:=by
 cases r with
 | ok a st=>exact fun H' ρ' q z=>Acc.later (show Acc mg E H ρ P (f a st) from h) q
 | exc e st=>exact h
 | stuck=>exact h
end
abbrev QV (Q:VK):PV->Q0->Hp->Tk->Prop:=fun p _ H' ρ'=>∀ v,Rep H' ρ' p v->Q v H'
abbrev QL (Q:List V->Hp->Prop):List PV->Q0->Hp->Tk->Prop:=fun ps _ H' ρ'=>∀ vs,RepL H' ρ' ps vs->Q vs H'
abbrev QB (Q:Bool->Hp->Prop):Bool->Q0->Hp->Tk->Prop:=fun b _ H' _=>Q b H'
structure SimE (X:Cx) (E:XK) (e:aD) (m:ME):Prop where
 run:∀ (Γ:Gam) (σ:St) (H:Hp) (ρ:Tk) (st:Q0) (Q:VK),Rel H ρ st->EnvR H ρ Γ σ->Acc X.mg E H ρ (QV Q) (m Γ st)->WE X e σ H Q
structure SimT (X:Cx) (E:XK) (e:aD) (m:Gam->Q0->Res Bool):Prop where
 run:∀ (Γ:Gam) (σ:St) (H:Hp) (ρ:Tk) (st:Q0) (Q:Bool->Hp->Prop),Rel H ρ st->EnvR H ρ Γ σ->Acc X.mg E H ρ (QB Q) (m Γ st)->WT X e σ H Q
structure SimW (X:Cx) (E:XK) (e:aD) (m:Gam->Q0->Res Bool):Prop where
 run:∀ (Γ:Gam) (σ:St) (H:Hp) (ρ:Tk) (st:Q0) (Q:Bool->Hp->Prop),Rel H ρ st->EnvR H ρ Γ σ->Acc X.mg E H ρ (QB Q) (m Γ st)->WW X e σ H Q
structure SimA (X:Cx) (E:XK) (es:List aD) (m:Gam->Q0->Res (List PV)):Prop where
 run:∀ (Γ:Gam) (σ:St) (H:Hp) (ρ:Tk) (st:Q0) (Q:List V->Hp->Prop),Rel H ρ st->EnvR H ρ Γ σ->Acc X.mg E H ρ (QL Q) (m Γ st)->WA X es σ H Q
abbrev OP:=Q0->PV->PV->Res PV
structure OpS (X:Cx) (E:XK) (f:aB->aB->Sem aB) (o:OP):Prop where
 run:∀ (H:Hp) (ρ:Tk) (st:Q0) (p q:PV) (x y:V) (Q:VK),Rel H ρ st->Rep H ρ p x->Rep H ρ q y->Acc X.mg E H ρ (QV Q) (o st p q)->WO X f x y H Q
abbrev CF:=Q0->List PV->Res PV
structure CallS (X:Cx) (E:XK) (f:aB) (o:CF):Prop where
 run:∀ (H:Hp) (ρ:Tk) (st:Q0) (ps:List PV) (xs:List V) (Q:VK),Rel H ρ st->RepL H ρ ps xs->Acc X.mg E H ρ (QV Q) (o st ps)->WC X f xs H Q
section
variable {X:Cx} {E:XK} {Γ:Gam} {σ:St} {H:Hp} {ρ:Tk} {st:Q0}
theorem SimE.use {e:aD} {m:ME} (s:SimE X E e m) {P:PV->Q0->Hp->Tk->Prop} {Q:VK} (R:Rel H ρ st) (G:EnvR H ρ Γ σ) (h:Acc X.mg E H ρ P (m Γ st))
  (k:∀ p j H1 ρ1 v,Ext H ρ H1 ρ1->Rel H1 ρ1 j->EnvR H1 ρ1 Γ σ->Rep H1 ρ1 p v->P p j H1 ρ1->Q v H1):WE X e σ H Q:=by
 refine s.run Γ σ H ρ st Q R G ?_;cases r:m Γ st with
 | ok p j=>rw [r] at h; exact fun H' ρ' q z v B=>k p j H' ρ' v q z (G.ext q) B (h H' ρ' q z)
 | exc e st=>rw [r] at h; exact h
 | stuck=>rw [r] at h; exact h
theorem SimE.use' {e:aD} {m:ME} (s:SimE X E e m) {P:PV->Q0->Hp->Tk->Prop} {Q:VK} (R:Rel H ρ st) (G:EnvR H ρ Γ σ) (h:Acc X.mg E H ρ P (m Γ st))
  (k:∀ p j H1 ρ1 v,m Γ st=.ok p j->Ext H ρ H1 ρ1->Rel H1 ρ1 j->EnvR H1 ρ1 Γ σ->Rep H1 ρ1 p v->P p j H1 ρ1->Q v H1):WE X e σ H Q:=by
 refine s.run Γ σ H ρ st Q R G ?_;cases r:m Γ st with
 | ok p j=>rw [r] at h; exact fun H' ρ' q z v B=>k p j H' ρ' v r q z (G.ext q) B (h H' ρ' q z)
 | exc e st=>rw [r] at h; exact h
 | stuck=>rw [r] at h; exact h
theorem SimA.use' {es:List aD} {m:Gam->Q0->Res (List PV)} (s:SimA X E es m) {P:List PV->Q0->Hp->Tk->Prop} {Q:List V->Hp->Prop} (R:Rel H ρ st) (G:EnvR H ρ Γ σ) (h:Acc X.mg E H ρ P (m Γ st))
  (k:∀ ps j H1 ρ1 vs,m Γ st=.ok ps j->Ext H ρ H1 ρ1->Rel H1 ρ1 j->EnvR H1 ρ1 Γ σ->RepL H1 ρ1 ps vs->P ps j H1 ρ1->Q vs H1):WA X es σ H Q:=by
 refine s.run Γ σ H ρ st Q R G ?_;cases r:m Γ st with
 | ok p j=>rw [r] at h; exact fun H' ρ' q z v B=>k p j H' ρ' v r q z (G.ext q) B (h H' ρ' q z)
 | exc e st=>rw [r] at h; exact h
 | stuck=>rw [r] at h; exact h
theorem SimT.use {e:aD} {m:Gam->Q0->Res Bool} (s:SimT X E e m) {P:Bool->Q0->Hp->Tk->Prop} {Q:Bool->Hp->Prop} (R:Rel H ρ st) (G:EnvR H ρ Γ σ) (h:Acc X.mg E H ρ P (m Γ st))
  (k:∀ p j H1 ρ1,Ext H ρ H1 ρ1->Rel H1 ρ1 j->EnvR H1 ρ1 Γ σ->P p j H1 ρ1->Q p H1):WT X e σ H Q:=by
 refine s.run Γ σ H ρ st Q R G ?_;cases r:m Γ st with
 | ok p j=>rw [r] at h; exact fun H' ρ' q z=>k p j H' ρ' q z (G.ext q) (h H' ρ' q z)
 | exc e st=>rw [r] at h; exact h
 | stuck=>rw [r] at h; exact h
theorem SimT.use' {e:aD} {m:Gam->Q0->Res Bool} (s:SimT X E e m) {P:Bool->Q0->Hp->Tk->Prop} {Q:Bool->Hp->Prop} (R:Rel H ρ st) (G:EnvR H ρ Γ σ) (h:Acc X.mg E H ρ P (m Γ st))
  (k:∀ p j H1 ρ1,m Γ st=.ok p j->Ext H ρ H1 ρ1->Rel H1 ρ1 j->EnvR H1 ρ1 Γ σ->P p j H1 ρ1->Q p H1):WT X e σ H Q:=by
 refine s.run Γ σ H ρ st Q R G ?_;cases r:m Γ st with
 | ok p j=>rw [r] at h; exact fun H' ρ' q z=>k p j H' ρ' r q z (G.ext q) (h H' ρ' q z)
 | exc e st=>rw [r] at h; exact h
 | stuck=>rw [r] at h; exact h
theorem SimW.use {e:aD} {m:Gam->Q0->Res Bool} (s:SimW X E e m) {P:Bool->Q0->Hp->Tk->Prop} {Q:Bool->Hp->Prop} (R:Rel H ρ st) (G:EnvR H ρ Γ σ) (h:Acc X.mg E H ρ P (m Γ st))
  (k:∀ p j H1 ρ1,Ext H ρ H1 ρ1->Rel H1 ρ1 j->EnvR H1 ρ1 Γ σ->P p j H1 ρ1->Q p H1):WW X e σ H Q:=by
 refine s.run Γ σ H ρ st Q R G ?_;cases r:m Γ st with
 | ok p j=>rw [r] at h; exact fun H' ρ' q z=>k p j H' ρ' q z (G.ext q) (h H' ρ' q z)
 | exc e st=>rw [r] at h; exact h
 | stuck=>rw [r] at h; exact h
theorem SimA.use {es:List aD} {m:Gam->Q0->Res (List PV)} (s:SimA X E es m) {P:List PV->Q0->Hp->Tk->Prop} {Q:List V->Hp->Prop} (R:Rel H ρ st) (G:EnvR H ρ Γ σ) (h:Acc X.mg E H ρ P (m Γ st))
  (k:∀ ps j H1 ρ1 vs,Ext H ρ H1 ρ1->Rel H1 ρ1 j->EnvR H1 ρ1 Γ σ->RepL H1 ρ1 ps vs->P ps j H1 ρ1->Q vs H1):WA X es σ H Q:=by
 refine s.run Γ σ H ρ st Q R G ?_;cases r:m Γ st with
 | ok p j=>rw [r] at h; exact fun H' ρ' q z v B=>k p j H' ρ' v q z (G.ext q) B (h H' ρ' q z)
 | exc e st=>rw [r] at h; exact h
 | stuck=>rw [r] at h; exact h
theorem OpS.use {f:aB->aB->Sem aB} {o:OP} (s:OpS X E f o) {P:PV->Q0->Hp->Tk->Prop} {Q:VK} {p q:PV} {x y:V} (R:Rel H ρ st) (I:Rep H ρ p x) (G:Rep H ρ q y) (h:Acc X.mg E H ρ P (o st p q))
  (k:∀ p j H1 ρ1 v,Ext H ρ H1 ρ1->Rel H1 ρ1 j->Rep H1 ρ1 p v->P p j H1 ρ1->Q v H1):WO X f x y H Q:=by
 refine s.run H ρ st p q x y Q R I G ?_;cases r:o st p q with
 | ok p j=>rw [r] at h; exact fun H' ρ' z B v J=>k p j H' ρ' v z B J (h H' ρ' z B)
 | exc e st=>rw [r] at h; exact h
 | stuck=>rw [r] at h; exact h
end
end Sm
namespace Sm
open PySem PySem.Spec L2 SeqAt
mutual
def peq:PV->PV->Bool
 | .non,.non=>true
 | .bl a,.bl b=>a == b
 | .bl a,.int b=>(if a then 1 else 0) == b
 | .int a,.bl b=>a == (if b then 1 else 0)
 | .int a,.int b=>a == b
 | .str a,.str b=>a == b
 | .tup xs,.tup ys=>peqL xs ys
 | .lst xs,.lst ys=>peqL xs ys
 | .lst xs,.fro ys=>peqL xs ys
 | .fro xs,.lst ys=>peqL xs ys
 | .fro xs,.fro ys=>peqL xs ys
 | _,_=>false
def peqL:List PV->List PV->Bool
 | [],[]=>true
 | x :: xs,y :: ys=>peq x y && peqL xs ys
 | _,_=>false
end
def Jk:Nat->PV->Bool
 | _,.ref _=>false
 | _,.dic=>false
 | 0,.tup _=>false
 | 0,.lst _=>false
 | 0,.fro _=>false
 | n + 1,.tup xs=>xs.all (Jk n)
 | n + 1,.lst xs=>xs.all (Jk n)
 | n + 1,.fro xs=>xs.all (Jk n)
 | _,_=>true
theorem Q7i:∀ {xs ys:List PV},xs.length≠ys.length->peqL xs ys=false
 | [],[],h=>absurd rfl h
 | [],_ :: _,_=>by simp [peqL]
 | _ :: _,[],_=>by simp [peqL]
 | x :: xs,y :: ys,h=>by
  rw [peqL,Q7i (xs:=xs) (ys:=ys) fun e=>h (by simp [e]),dg]
theorem Q7j:∀ {xs ys:List PV},xs.length=ys.length->peqL xs ys=(bS xs.length).all fun j=>peq (xs.getD j .non) (ys.getD j .non)
 | [],[],_=>by simp [peqL]
 | [],_ :: _,h=>by simp at h
 | _ :: _,[],h=>by simp at h
 | x :: xs,y :: ys,h=>by
  rw [peqL,Q7j (xs:=xs) (ys:=ys) (by simpa using h),D8,fD,cW,dG];rfl
section
variable {X:Cx} {pins:List (aA × Obj)} {σ:St} {H:Hp} {s:aC} {ρ:Tk}
mutual
theorem Qcw:∀ {p q:PV} {x:V} {n:Nat},Jk n p=true->Jk n q=true->Rep H ρ p x->Rep H ρ q x->peq p q=true
 | .non,q,x,n,_,B,h1,h2=>by
  cases h1;cases q <;> first | rfl | (cases n <;> cases B; done) | (cases h2; done) | (obtain ⟨_,_,e,_⟩:=h2; cases e) | (obtain ⟨_,_,e⟩:=h2; cases e)
 | .bl b,q,x,n,_,B,h1,h2=>by
  cases h1;cases q <;> first | (cases n <;> cases B; done) | (cases h2; simp [peq]; done) | (obtain ⟨_,_,e,_⟩:=h2; done) | (obtain ⟨_,_,e,_⟩:=h2; cases e; done) | (obtain ⟨_,_,e⟩:=h2; cases e)
 | .int b,q,x,n,_,B,h1,h2=>by
  cases h1;cases q <;> first | (cases n <;> cases B; done) | (cases h2; simp [peq]; done) | (obtain ⟨_,_,e,_⟩:=h2; done) | (obtain ⟨_,_,e,_⟩:=h2; cases e; done) | (obtain ⟨_,_,e⟩:=h2; cases e)
 | .str b,q,x,n,_,B,h1,h2=>by
  cases h1;cases q <;> first | (cases n <;> cases B; done) | (cases h2; simp [peq]; done) | (obtain ⟨_,_,e,_⟩:=h2; done) | (obtain ⟨_,_,e,_⟩:=h2; cases e; done) | (obtain ⟨_,_,e⟩:=h2; cases e)
 | .tup ps,q,x,0,G,_,_,_=>by cases G
 | .tup ps,q,x,n + 1,G,B,⟨a,vs,e,z,_,r⟩,h2=>by
  subst e;cases q with
  | tup J=>
   obtain ⟨b,us,e,j,_,I⟩:=h2;cases e;rw [z] at j; cases j;rw [peq];exact repL_same G B r I
  | lst J=>obtain ⟨b,us,e,j,_⟩:=h2; cases e; rw [z] at j; cases j
  | fro J=>obtain ⟨b,us,e,j,_⟩:=h2; cases e; rcases j with j | ⟨o,j⟩ <;> (rw [z] at j; cases j)
  | ref i=>cases B
  | dic=>cases B
  | _=>cases h2
 | .lst ps,q,x,0,G,_,_,_=>by cases G
 | .lst ps,q,x,n + 1,G,B,⟨a,vs,e,z,_,r⟩,h2=>by
  subst e;cases q with
  | lst J=>
   obtain ⟨b,us,e,j,_,I⟩:=h2;cases e;rw [z] at j; cases j;rw [peq];exact repL_same G B r I
  | tup J=>obtain ⟨b,us,e,j,_⟩:=h2; cases e; rw [z] at j; cases j
  | fro J=>
   obtain ⟨b,us,e,j,_,I⟩:=h2;cases e;rcases j with j | ⟨o,j⟩
   ·rw [z] at j; cases j;rw [peq];exact repL_same G B r I
   ·rw [z] at j; cases j
  | ref i=>cases B
  | dic=>cases B
  | _=>cases h2
 | .fro ps,q,x,0,G,_,_,_=>by cases G
 | .fro ps,q,x,n + 1,G,B,⟨a,vs,e,z,_,r⟩,h2=>by
  subst e;cases q with
  | lst J=>
   obtain ⟨b,us,e,j,_,I⟩:=h2;cases e;rcases z with z | ⟨o,z⟩
   ·rw [z] at j; cases j;rw [peq];exact repL_same G B r I
   ·rw [z] at j; cases j
  | tup J=>obtain ⟨b,us,e,j,_⟩:=h2; cases e; rcases z with z | ⟨o,z⟩ <;> (rw [z] at j; cases j)
  | fro J=>
   obtain ⟨b,us,e,j,_,I⟩:=h2;cases e;have:vs=us:=by
    rcases z with z | ⟨o,z⟩ <;> rcases j with j | ⟨o',j⟩ <;> (rw [z] at j; cases j) <;> rfl
   subst this;rw [peq];exact repL_same G B r I
  | ref i=>cases B
  | dic=>cases B
  | _=>cases h2
 | .ref i,_,_,n,G,_,_,_=>by cases n <;> cases G
 | .dic,_,_,n,G,_,_,_=>by cases n <;> cases G
theorem repL_same:∀ {ps j:List PV} {vs:List V} {n:Nat},ps.all (Jk n)=true->j.all (Jk n)=true->RepL H ρ ps vs->RepL H ρ j vs->peqL ps j=true
 | [],j,vs,n,_,_,h1,h2=>by
  cases h1;cases j with
  | nil=>rfl
  | cons q j=>obtain ⟨_,_,e,_⟩:=h2; cases e
 | p :: ps,j,vs,n,G,g2,⟨v,r,e,h1,B⟩,h2=>by
  subst e;cases j with
  | nil=>cases h2
  | cons q j=>
   obtain ⟨_,_,e,h2,z⟩:=h2;cases e;rw [cW,G7] at G g2;rw [peqL,Qcw G.1 g2.1 h1 h2,repL_same G.2 g2.2 B z]; rfl
end
inductive Kd (H:Hp) (ρ:Tk) (s:aC):PV->aB->Prop where
 | non:Kd H ρ s .non .none
 | bl (b):Kd H ρ s (.bl b) (.bool b)
 | int (i t):Kd H ρ s (.int i) (.int i t)
 | str (x t):Kd H ρ s (.str x) (.str x t)
 | tup (ps a) (vs:List V) (its:List aB):H a=some (.tup vs)->RepL H ρ ps vs->Vals vs its->s.heap.IsTuple a its.toArray->Kd H ρ s (.tup ps) (.ref a)
 | lst (p ps a) (vs:List V) (its:List aB):(p=.lst ps\/p=.fro ps)->RepL H ρ ps vs->Vals vs its->s.heap.IsList a its.toArray->Kd H ρ s p (.ref a)
theorem Qh6 {p:PV} {x:V} {u:aB} {n:Nat} (I:Inv X pins σ H s) (g:Jk n p=true) (r:Rep H ρ p x) (j:RelV x u):Kd H ρ s p u:=by
 cases p with
 | non=>cases r; cases j; exact .non
 | bl b=>cases r; cases j; exact .bl b
 | int i=>cases r; obtain ⟨t,rfl⟩:=j; exact .int i t
 | str i=>cases r; obtain ⟨t,rfl⟩:=j; exact .str i t
 | tup ps=>
  obtain ⟨a,vs,rfl,q,_,G⟩:=r;cases j;obtain ⟨its,z,B,_⟩:=I.tuple (SqT.of (K:=X.K) q);exact .tup ps a vs its q G z B
 | lst ps=>
  obtain ⟨a,vs,rfl,q,_,G⟩:=r;cases j;obtain ⟨its,z,B,_⟩:=I.list (SqL.of (K:=X.K) q);exact .lst _ ps a vs its (.inl rfl) G z B.isList
 | fro ps=>
  obtain ⟨a,vs,rfl,q,_,G⟩:=r;cases j;obtain ⟨its,z,B,_⟩:=I.list (show SqL X.K H a vs from .inl q);exact .lst _ ps a vs its (.inr rfl) G z B.isList
 | ref i=>cases n <;> cases g
 | dic=>cases n <;> cases g
theorem Q6k {ps:List PV} {vs:List V} {its:List aB} (r:RepL H ρ ps vs) (v:Vals vs its) {j:Nat} (h:j < its.length):∃ x,Rep H ρ (ps.getD j .non) x/\RelV x its[j]:=by
 have G:=r.length;have B:=v.length;have q:j < ps.length:=by omega
 obtain ⟨x,e1,e2⟩:=r.get (O5 q);obtain ⟨u,e3,z⟩:=v.get e1;rw [O5 h] at e3; cases e3;refine ⟨x,?_,z⟩;rw [ba,O5 q];exact e2
theorem Q2f {ps:List PV} {n:Nat} (g:ps.all (Jk n)=true) (j:Nat) (q:j < ps.length):Jk n (ps.getD j .non)=true:=by
 rw [ba,O5 q];exact (F9.mp g) _ (dk q)
theorem Qfb {ps q:List PV}:((bS (min ps.length q.length)).all (fun j=>peq (ps.getD j .non) (q.getD j .non)) && ps.length == q.length)=peqL ps q:=by
 by_cases e:ps.length=q.length
 ·rw [Q7j e,<- e,fH,beq_self_eq_true,Bool.and_true]
 ·rw [Q7i e,beq_eq_false_iff_ne.mpr e,dg]
theorem Qhf:∀ (n:Nat) {A:aR} {p q:PV} {x y:V} {u v:aB},Inv X pins σ H s->Jk n p=true->Jk n q=true->A.units + n < ae->Rep H ρ p x->RelV x u->Rep H ρ q y->RelV y v ->
  EqAt A s u v (peq p q)/\RcAt A s u v (peq p q)/\RcNeAt A s u v (!peq p q):=by
 intro n
 induction n with
 | zero=>
  intro A p q x y u v I Y J hu rp ru rq rv;have k1:=Qh6 I Y rp ru;have k2:=Qh6 I J rq rv;have hu:A.units < ae:=by omega
  cases k1 with
  | tup=>cases Y
  | lst p ps a vs its h=>rcases h with rfl | rfl <;> cases Y
  | non=>cases k2 with
   | tup=>cases J
   | lst p ps a vs its h=>rcases h with rfl | rfl <;> cases J
   | non=>exact ⟨EqAt.same _,RcAt.none_none,RcNeAt.none_none⟩
   | bl b=>exact ⟨EqAt.none_bool _,RcAt.none_bool _,RcNeAt.none_bool _⟩
   | int i t=>exact ⟨EqAt.none_int _ _,RcAt.none_int _ _,RcNeAt.none_int _ _⟩
   | str i t=>exact ⟨EqAt.none_str _ _,RcAt.none_str _ _,RcNeAt.none_str _ _⟩
  | bl a=>cases k2 with
   | tup=>cases J
   | lst p ps a vs its h=>rcases h with rfl | rfl <;> cases J
   | non=>exact ⟨EqAt.bool_none _,RcAt.bool_none _,RcNeAt.bool_none _⟩
   | bl b=>exact ⟨EqAt.bool_bool _ _,RcAt.bool_bool _ _,RcNeAt.bool_bool _ _⟩
   | int i t=>exact ⟨EqAt.bool_int _ _ _,RcAt.bool_int _ _ _,RcNeAt.bool_int _ _ _⟩
   | str i t=>exact ⟨EqAt.bool_str _ _ _,RcAt.bool_str _ _ _,RcNeAt.bool_str _ _ _⟩
  | int a a4=>cases k2 with
   | tup=>cases J
   | lst p ps a vs its h=>rcases h with rfl | rfl <;> cases J
   | non=>exact ⟨EqAt.int_none _ _,RcAt.int_none _ _,RcNeAt.int_none _ _⟩
   | bl b=>exact ⟨EqAt.int_bool _ _ _,RcAt.int_bool _ _ _,RcNeAt.int_bool _ _ _⟩
   | int i t=>exact ⟨EqAt.int_int _ _ _ _,RcAt.int_int _ _ _ _,RcNeAt.int_int _ _ _ _⟩
   | str i t=>exact ⟨EqAt.int_str _ _ _ _,RcAt.int_str _ _ _ _,RcNeAt.int_str _ _ _ _⟩
  | str a a4=>cases k2 with
   | tup=>cases J
   | lst p ps a vs its h=>rcases h with rfl | rfl <;> cases J
   | non=>exact ⟨EqAt.str_none _ _,RcAt.str_none _ _,RcNeAt.str_none _ _⟩
   | bl b=>exact ⟨EqAt.str_bool _ _ _,RcAt.str_bool _ _ _,RcNeAt.str_bool _ _ _⟩
   | int i t=>exact ⟨EqAt.str_int _ _ _ _,RcAt.str_int _ _ _ _,RcNeAt.str_int _ _ _ _⟩
   | str i t=>exact ⟨EqAt.str_str _ _ _ _,RcAt.str_str _ _ _ _,RcNeAt.str_str _ _ _ _⟩
 | succ n ih=>
  intro A p q x y u v I Y J hu rp ru rq rv;have k1:=Qh6 I Y rp ru;have k2:=Qh6 I J rq rv;have z:A.units < ae:=by omega
  have a5:A.in1.units + n < ae:=by show A.units + 1 + n < ae; omega
  cases k1 with
  | non=>cases k2 with
   | non=>exact ⟨EqAt.same _,RcAt.none_none,RcNeAt.none_none⟩
   | bl b=>exact ⟨EqAt.none_bool _,RcAt.none_bool _,RcNeAt.none_bool _⟩
   | int i t=>exact ⟨EqAt.none_int _ _,RcAt.none_int _ _,RcNeAt.none_int _ _⟩
   | str i t=>exact ⟨EqAt.none_str _ _,RcAt.none_str _ _,RcNeAt.none_str _ _⟩
   | tup ps a vs its ha r U B=>exact ⟨EqAt.none_tuple B z,RcAt.none_tuple B z,RcNeAt.none_tuple B z⟩
   | lst p ps a vs its h r U B=>rcases h with rfl | rfl <;> exact ⟨EqAt.none_list B z,RcAt.none_list B z,RcNeAt.none_list B z⟩
  | bl a=>cases k2 with
   | non=>exact ⟨EqAt.bool_none _,RcAt.bool_none _,RcNeAt.bool_none _⟩
   | bl b=>exact ⟨EqAt.bool_bool _ _,RcAt.bool_bool _ _,RcNeAt.bool_bool _ _⟩
   | int i t=>exact ⟨EqAt.bool_int _ _ _,RcAt.bool_int _ _ _,RcNeAt.bool_int _ _ _⟩
   | str i t=>exact ⟨EqAt.bool_str _ _ _,RcAt.bool_str _ _ _,RcNeAt.bool_str _ _ _⟩
   | tup ps a vs its ha r U B=>exact ⟨EqAt.bool_tuple _ B z,RcAt.bool_tuple _ B z,RcNeAt.bool_tuple _ B z⟩
   | lst p ps a vs its h r U B=>rcases h with rfl | rfl <;> exact ⟨EqAt.bool_list _ B z,RcAt.bool_list _ B z,RcNeAt.bool_list _ B z⟩
  | int a a4=>cases k2 with
   | non=>exact ⟨EqAt.int_none _ _,RcAt.int_none _ _,RcNeAt.int_none _ _⟩
   | bl b=>exact ⟨EqAt.int_bool _ _ _,RcAt.int_bool _ _ _,RcNeAt.int_bool _ _ _⟩
   | int i t=>exact ⟨EqAt.int_int _ _ _ _,RcAt.int_int _ _ _ _,RcNeAt.int_int _ _ _ _⟩
   | str i t=>exact ⟨EqAt.int_str _ _ _ _,RcAt.int_str _ _ _ _,RcNeAt.int_str _ _ _ _⟩
   | tup ps a vs its ha r U B=>exact ⟨EqAt.int_tuple _ _ B z,RcAt.int_tuple _ _ B z,RcNeAt.int_tuple _ _ B z⟩
   | lst p ps a vs its h r U B=>rcases h with rfl | rfl <;> exact ⟨EqAt.int_list _ _ B z,RcAt.int_list _ _ B z,RcNeAt.int_list _ _ B z⟩
  | str a a4=>cases k2 with
   | non=>exact ⟨EqAt.str_none _ _,RcAt.str_none _ _,RcNeAt.str_none _ _⟩
   | bl b=>exact ⟨EqAt.str_bool _ _ _,RcAt.str_bool _ _ _,RcNeAt.str_bool _ _ _⟩
   | int i t=>exact ⟨EqAt.str_int _ _ _ _,RcAt.str_int _ _ _ _,RcNeAt.str_int _ _ _ _⟩
   | str i t=>exact ⟨EqAt.str_str _ _ _ _,RcAt.str_str _ _ _ _,RcNeAt.str_str _ _ _ _⟩
   | tup ps a vs its ha r U B=>exact ⟨EqAt.str_tuple _ _ B z,RcAt.str_tuple _ _ B z,RcNeAt.str_tuple _ _ B z⟩
   | lst p ps a vs its h r U B=>rcases h with rfl | rfl <;> exact ⟨EqAt.str_list _ _ B z,RcAt.str_list _ _ B z,RcNeAt.str_list _ _ B z⟩
  | tup ps a vs its ha r U B=>cases k2 with
   | non=>exact ⟨EqAt.tuple_none B z,RcAt.tuple_none B z,RcNeAt.tuple_none B z⟩
   | bl b=>exact ⟨EqAt.tuple_bool _ B z,RcAt.tuple_bool _ B z,RcNeAt.tuple_bool _ B z⟩
   | int i t=>exact ⟨EqAt.tuple_int _ _ B z,RcAt.tuple_int _ _ B z,RcNeAt.tuple_int _ _ B z⟩
   | str i t=>exact ⟨EqAt.tuple_str _ _ B z,RcAt.tuple_str _ _ B z,RcNeAt.tuple_str _ _ B z⟩
   | tup O b us G hb Z v2 p2=>
    have l1:its.toArray.size=ps.length:=by rw [O3,<- U.length,r.length]
    have l2:G.toArray.size=O.length:=by rw [O3,<- v2.length,Z.length]
    have he:∀ j (h1:j < its.toArray.size) (h2:j < G.toArray.size),EqAt A.in1 s its.toArray[j] G.toArray[j] (peq (ps.getD j .non) (O.getD j .non)):=fun j h1 h2=>by
     obtain ⟨x1,a1,b1⟩:=Q6k r U (j:=j) (by simpa using h1);obtain ⟨x2,a2,b2⟩:=Q6k Z v2 (j:=j) (by simpa using h2);exact (ih I (Q2f Y j (by omega)) (Q2f J j (by omega)) a5 a1 b1 a2 b2).1
    have rc:=RcAt.tuples B p2 z he;have rn:=RcNeAt.tuples B p2 z he;rw [l1,l2,Qfb] at rc rn;refine ⟨?_,rc,rn⟩
    by_cases e:a=b
    ·subst e;have:peqL ps O=true:=by
      rw [ha] at hb; cases hb;exact repL_same Y J r Z
     show EqAt A s _ _ (peqL ps O);rw [this];exact EqAt.same _
    ·exact EqAt.of_refs e rc
   | lst q O b us G h Z v2 p2=>rcases h with rfl | rfl <;> exact ⟨EqAt.tuple_list B p2 z,RcAt.tuple_list B p2 z,RcNeAt.tuple_list B p2 z⟩
  | lst p ps a vs its h r U B=>cases k2 with
   | non=>rcases h with rfl | rfl <;> exact ⟨EqAt.list_none B z,RcAt.list_none B z,RcNeAt.list_none B z⟩
   | bl b=>rcases h with rfl | rfl <;> exact ⟨EqAt.list_bool _ B z,RcAt.list_bool _ B z,RcNeAt.list_bool _ B z⟩
   | int i t=>rcases h with rfl | rfl <;> exact ⟨EqAt.list_int _ _ B z,RcAt.list_int _ _ B z,RcNeAt.list_int _ _ B z⟩
   | str i t=>rcases h with rfl | rfl <;> exact ⟨EqAt.list_str _ _ B z,RcAt.list_str _ _ B z,RcNeAt.list_str _ _ B z⟩
   | tup O b us G hb Z v2 p2=>rcases h with rfl | rfl <;> exact ⟨EqAt.list_tuple B p2 z,RcAt.list_tuple B p2 z,RcNeAt.list_tuple B p2 z⟩
   | lst q O b us G h2 Z v2 p2=>
    have l1:its.toArray.size=ps.length:=by rw [O3,<- U.length,r.length]
    have l2:G.toArray.size=O.length:=by rw [O3,<- v2.length,Z.length]
    have a8:ps.all (Jk n)=true:=by rcases h with rfl | rfl <;> exact Y
    have a7:O.all (Jk n)=true:=by rcases h2 with rfl | rfl <;> exact J
    have ep:peq p q=peqL ps O:=by rcases h with rfl | rfl <;> rcases h2 with rfl | rfl <;> rfl
    have he:∀ j (h1:j < its.toArray.size) (h2:j < G.toArray.size),EqAt A.in1 s its.toArray[j] G.toArray[j] (peq (ps.getD j .non) (O.getD j .non)):=fun j h1 h2=>by
     obtain ⟨x1,a1,b1⟩:=Q6k r U (j:=j) (by simpa using h1);obtain ⟨x2,a2,b2⟩:=Q6k Z v2 (j:=j) (by simpa using h2);exact (ih I (Q2f a8 j (by omega)) (Q2f a7 j (by omega)) a5 a1 b1 a2 b2).1
    rw [ep];have a3:RcAt A s (.ref a) (.ref b) (peqL ps O)/\RcNeAt A s (.ref a) (.ref b) (!peqL ps O):=by
     by_cases e:ps.length=O.length
     ·have rc:=RcAt.lists B p2 (by rw [l1,l2,e]) z he;have rn:=RcNeAt.lists B p2 (by rw [l1,l2,e]) z he;rw [l1,<- Q7j e] at rc rn;exact ⟨rc,rn⟩
     ·have e':(its.toArray.size != G.toArray.size)=true:=by rw [l1,l2]; simpa using e
      rw [Q7i e];exact ⟨RcAt.lists_lengths B p2 e' z,RcNeAt.lists_lengths B p2 e' z⟩
    refine ⟨?_,a3.1,a3.2⟩
    by_cases e:a=b
    ·subst e;have a6:peq p q=true:=by
      have a9:=rp;have b0:=rq;have xa:x=.ref a:=by
       rcases h with rfl | rfl <;> (obtain ⟨b',_,rfl,_⟩:=rp; cases ru; rfl)
      have ya:y=.ref a:=by
       rcases h2 with rfl | rfl <;> (obtain ⟨b',_,rfl,_⟩:=rq; cases rv; rfl)
      subst xa; subst ya;exact Qcw Y J rp rq
     rw [<- ep,a6];exact EqAt.same _
    ·exact EqAt.of_refs e a3.1
end
end Sm
namespace Sm
open PySem PySem.Spec L2
def lim:Nat:=1000000
theorem Qfx:lim<=sizeLine:=by decide
theorem X1 {n:Nat} (h:n<=lim):n<=sizeLine:=F1 h Qfx
def U2 (st:Q0):PV->Option (List PV)
 | .lst xs=>some xs
 | .ref i=>match st[i]? with
  | some (.lst xs)=>some xs
  | _=>none
 | _=>none
def Q0i (st:Q0):PV->Option (List PV)
 | .fro xs=>some xs
 | p=>U2 st p
def Xb (st:Q0):PV->Option (List PV)
 | .tup xs=>some xs
 | p=>Q0i st p
def der (st:Q0):PV->PV
 | .ref i=>match st[i]? with
  | some (.lst xs)=>.lst xs
  | _=>.ref i
 | p=>p
section
variable {H:Hp} {ρ:Tk} {st:Q0} {p:PV} {v:V} {xs:List PV}
theorem Q3q (R:Rel H ρ st) (r:Rep H ρ p v) (e:U2 st p=some xs):∃ a vs,v=.ref a/\H a=some (.lst vs)/\RepL H ρ xs vs:=by
 cases p with
 | lst ys=>
  obtain ⟨a,vs,e1,e2,_,e3⟩:=r;cases e;exact ⟨a,vs,e1,e2,e3⟩
 | ref i=>
  obtain ⟨a,e1,e2⟩:=r;simp only [U2] at e
  split at e
  ·rename_i ys hs;cases e;obtain ⟨b,vs,j,q,z⟩:=R.lst hs;rw [e1] at j; cases j;exact ⟨a,vs,e2,q,z⟩
  ·cases e
 | _=>cases e
theorem Q6h (R:Rel H ρ st) (r:Rep H ρ p v) (e:Q0i st p=some xs):∃ a vs,v=.ref a/\Rd H a (.lst vs)/\RepL H ρ xs vs:=by
 cases p with
 | fro ys=>
  obtain ⟨a,vs,e1,e2,_,e3⟩:=r;cases e;exact ⟨a,vs,e1,e2,e3⟩
 | _=>
  obtain ⟨a,vs,e1,e2,e3⟩:=Q3q R r e;exact ⟨a,vs,e1,.inl e2,e3⟩
theorem Q4p {K:bU} (R:Rel H ρ st) (r:Rep H ρ p v) (e:Xb st p=some xs):∃ (t:Bool) (a:aA) (vs:List V),v=.ref a/\SqK K t H a vs/\RepL H ρ xs vs:=by
 cases p with
 | tup ys=>
  obtain ⟨a,vs,e1,e2,_,e3⟩:=r;cases e;exact ⟨true,a,vs,e1,show SqT K H a vs from SqT.of e2,e3⟩
 | _=>
  obtain ⟨a,vs,e1,e2,e3⟩:=Q6h R r e;exact ⟨false,a,vs,e1,show SqL K H a vs from .inl e2,e3⟩
theorem Qkp {K:bU} {t:Bool} {a:aA} {vs:List V} (h:SqK K t H a vs):SqL K H a vs\/SqT K H a vs:=by
 cases t with
 | true=>exact .inr h
 | false=>exact .inl h
mutual
theorem Qgq:∀ {n:Nat} {q:PV} {u:V},Jk n q=true->Rep H ρ q u->Rep H Tk.nil q u
 | _,.non,_,_,r=>r
 | _,.bl _,_,_,r=>r
 | _,.int _,_,_,r=>r
 | _,.str _,_,_,r=>r
 | 0,.tup _,_,g,_=>by cases g
 | 0,.lst _,_,g,_=>by cases g
 | 0,.fro _,_,g,_=>by cases g
 | n + 1,.tup _,_,g,⟨a,vs,e,h,_,r⟩=>⟨a,vs,e,h,Tk.not_nil _,repL_nil g r⟩
 | n + 1,.lst _,_,g,⟨a,vs,e,h,_,r⟩=>⟨a,vs,e,h,Tk.not_nil _,repL_nil g r⟩
 | n + 1,.fro _,_,g,⟨a,vs,e,h,_,r⟩=>⟨a,vs,e,h,Tk.not_nil _,repL_nil g r⟩
 | 0,.ref _,_,g,_=>by cases g
 | _ + 1,.ref _,_,g,_=>by cases g
 | 0,.dic,_,g,_=>by cases g
 | _ + 1,.dic,_,g,_=>by cases g
theorem repL_nil:∀ {n:Nat} {j:List PV} {us:List V},j.all (Jk n)=true->RepL H ρ j us->RepL H Tk.nil j us
 | _,[],_,_,r=>r
 | n,q :: j,_,g,⟨v,r,e,h1,h2⟩=>by
  rw [cW,G7] at g;exact ⟨v,r,e,Qgq g.1 h1,repL_nil g.2 h2⟩
end
theorem Q2k (R:Rel H ρ st) {n:Nat} (g:Jk n (der st p)=true) (r:Rep H ρ p v):Rep H Tk.nil (der st p) v:=by
 cases p with
 | ref i=>
  obtain ⟨a,e1,e2⟩:=r;simp only [der] at g ⊢
  split at g
  ·rename_i ys hs;obtain ⟨b,vs,j,q,z⟩:=R.lst hs;rw [e1] at j; cases j;cases n with
   | zero=>cases g
   | succ n=>exact ⟨a,vs,e2,q,Tk.not_nil _,repL_nil g z⟩
  ·cases n <;> cases g
 | _=>exact Qgq g r
theorem Q45 {mg:Str->Option aB} {E:XK} {Q:VK} {ps:List PV} {vs:List V} (R:Rel H ρ st) (h:Acc mg E H ρ (QV Q) (.ok (.tup ps) st)) (r:RepL H ρ ps vs):∀ p,H p=none->Q (.ref p) (upd H p (.tup vs)):=
 fun p hp=>h _ ρ (Ext.add hp) (R.add hp) _ ⟨p,vs,rfl,J5,R.fresh hp,r.ext (Ext.add hp)⟩
theorem Q46 {mg:Str->Option aB} {E:XK} {Q:VK} {ps:List PV} {vs:List V} (R:Rel H ρ st) (h:Acc mg E H ρ (QV Q) (.ok (.lst ps) st)) (r:RepL H ρ ps vs):∀ p,H p=none->Q (.ref p) (upd H p (.lst vs)):=
 fun p hp=>h _ ρ (Ext.add hp) (R.add hp) _ ⟨p,vs,rfl,J5,R.fresh hp,r.ext (Ext.add hp)⟩
theorem now {mg:Str->Option aB} {E:XK} {Q:VK} {p:PV} (R:Rel H ρ st) (h:Acc mg E H ρ (QV Q) (.ok p st)) (r:Rep H ρ p v):Q v H:=h H ρ (Ext.refl _ _) R v r
end
section
variable {X:Cx} {E:XK} {pos:Pos}
def Q2 (i:Nat):ME:=fun Γ st=>match Γ[i]? with
 | some (some p)=>.ok p st
 | _=>.stuck
def mC (p:PV):ME:=fun _ st=>.ok p st
theorem Qj (i:Nat) {x:Str} (z:X.N[i]?=some x:=by rfl) (q:Vis X.env.scope x:=by first | exact Or.inl rfl | exact Or.inr (Or.inl rfl) | exact Or.inr (Or.inr rfl)) (hd:(x == ("__debug__" : Str))=false:=by decide)
  (j:(x == ("__classdict__" : Str))=false:=by decide):SimE X E (.Name x pos) (Q2 i):=⟨fun Γ σ H ρ st Q R G h=>WE.of (Qmk z q hd j) (by
 unfold Q2 at h
 split at h
 ·rename_i p e;obtain ⟨v,e1,r⟩:=G.2 i p e;exact ⟨v,e1,now R h r⟩
 ·exact h.elim)⟩
theorem Q4q {i:Int} {j:Nat}:SimE X E (.Constant (.int i) j pos) (mC (.int i)):=⟨fun Γ σ H ρ st Q R G h=>WE.of Qvw (now R h rfl)⟩
theorem Qct {b:Bool} {j:Nat}:SimE X E (.Constant (.bool b) j pos) (mC (.bl b)):=⟨fun Γ σ H ρ st Q R G h=>WE.of Qza (now R h rfl)⟩
theorem Qf1 {x:Str} {j:Nat}:SimE X E (.Constant (.str x) j pos) (mC (.str x)):=⟨fun Γ σ H ρ st Q R G h=>WE.of Q1k (now R h rfl)⟩
theorem Qr4 {x:Str} {i:Int} {t:Tok} (j:Gl X x) (q:X.mg x=some (.int i t)) (hd:(x == ("__debug__" : Str))=false:=by decide):SimE X E (.Name x pos) (mC (.int i)):=
 ⟨fun Γ σ H ρ st Q R G h=>WE.of (Qrx j q (v:=.int i) ⟨t,rfl⟩ hd) (now R h rfl)⟩
variable {a b c:aD} {ma mb mc:ME}
def mOp (o:OP) (ma mb:ME):ME:=fun Γ st=>(ma Γ st).bind fun x st1=>(mb Γ st1).bind fun y st2=>o st2 x y
theorem Qcc {f:aB->aB->Sem aB} {o:OP} {Γ:Gam} {σ:St} {H:Hp} {ρ:Tk} {st:Q0} {P:PV->Q0->Hp->Tk->Prop} {Q:VK} (ho:OpS X E f o) (ha:SimE X E a ma) (hb:SimE X E b mb) (R:Rel H ρ st) (G:EnvR H ρ Γ σ) (h:Acc X.mg E H ρ P (mOp o ma mb Γ st))
  (k:∀ p j H1 ρ1 v,Ext H ρ H1 ρ1->Rel H1 ρ1 j->Rep H1 ρ1 p v->P p j H1 ρ1->Q v H1):tOp (WO X f) (WE X a) (WE X b) σ H Q:=by
 refine ha.use R G h.bind fun p j H1 ρ1 v U R1 G1 r1 h1=>?_
 refine hb.use R1 G1 h1.bind fun q Y H2 a2 u J R2 G2 r2 h2=>?_
 exact ho.use R2 (r1.ext J) r2 h2 fun w B Z I z x3 O r3 p3=>k w B Z I z (U.trans (J.trans x3)) O r3 p3
theorem Qcs {op:Operator} {o:OP} (j:OpS X E (aW op) o) (B:SimE X E a ma) (z:SimE X E b mb):SimE X E (.BinOp a op b pos) (mOp o ma mb):=
 ⟨fun Γ σ H ρ st Q R G h=>WE.of (Qu6 Qfc Ye Ye) (Qcc j B z R G h fun _ _ _ _ v _ _ r q=>q v r)⟩
theorem Qf2 {op:CmpOp} {o:OP} (j:OpS X E (aV op) o) (B:SimE X E a ma) (z:SimE X E b mb) (I:bG op b=false:=by first | exact Qfi _ | rfl):SimE X E (.Compare a [op] [b] pos) (mOp o ma mb):=
 ⟨fun Γ σ H ρ st Q R G h=>WE.of (Qry Qfc Ye Ye I) (Qcc j B z R G h fun _ _ _ _ v _ _ r q=>q v r)⟩
def asB (p:PV) (st:Q0):Res Bool:=match p with
 | .bl k=>.ok k st
 | _=>.stuck
def toB (m:ME):Gam->Q0->Res Bool:=fun Γ st=>(m Γ st).bind asB
theorem Qq8 {mg:Str->Option aB} {H:Hp} {ρ:Tk} {st:Q0} {p:PV} {v:V} {P:Bool->Q0->Hp->Tk->Prop} (R:Rel H ρ st) (r:Rep H ρ p v) (h:Acc mg E H ρ P (asB p st)):∃ k,v=.bl k/\P k st H ρ:=by
 cases p with
 | bl k=>exact ⟨k,r,h H ρ (Ext.refl _ _) R⟩
 | _=>exact h.elim
theorem Q36 {op:CmpOp} {o:OP} (j:OpS X E (aV op) o) (I:SimE X E a ma) (B:SimE X E b mb) (O:bG op b=false:=by first | exact Qfi _ | rfl):SimT X E (.Compare a [op] [b] pos) (toB (mOp o ma mb)):=
 ⟨fun Γ σ H ρ st Q R G h=>WT.of (Qri Qfc Ye Ye O) (Qcc j I B R G h.bind fun _ J _ _ v _ U r q=>by
  obtain ⟨k,e,z⟩:=Qq8 U r q;exact ⟨k,e,z⟩)⟩
theorem Qkh {e:aD} {m:ME} (h:SimE X E e m) (B:∀ j,isTrue e X.env j=(do let v <- j; standAt e.pos; aj [v] (truthy v)):=by intro _; rfl):SimT X E e (toB m):=
 ⟨fun Γ σ H ρ st Q R G q=>WT.of (Qvh Ye B) (h.use R G q.bind fun p I H1 ρ1 v Y O U J h1=>by
  obtain ⟨k,e,z⟩:=Qq8 O J h1;exact ⟨k,e,z⟩)⟩
def Q1v (o o':OP) (ma mb mc:ME):ME:=fun Γ st=>(ma Γ st).bind fun x st1=>(mb Γ st1).bind fun y st2=>(o st2 x y).bind fun k st3=>match k with
 | .bl true=>(mc Γ st3).bind fun z st4=>o' st4 y z
 | .bl false=>.ok (.bl false) st3
 | _=>.stuck
theorem Qas {op B:CmpOp} {o o':OP} {Γ:Gam} {σ:St} {H:Hp} {ρ:Tk} {st:Q0} {P:PV->Q0->Hp->Tk->Prop} {Q:VK} (ho:OpS X E (aV op) o) (a2:OpS X E (aV B) o') (ha:SimE X E a ma) (hb:SimE X E b mb) (hc:SimE X E c mc) (R:Rel H ρ st) (G:EnvR H ρ Γ σ) (h:Acc X.mg E H ρ P (Q1v o o' ma mb mc Γ st))
  (k:∀ p j H1 ρ1 v,Ext H ρ H1 ρ1->Rel H1 ρ1 j->Rep H1 ρ1 p v->P p j H1 ρ1->Q v H1):Qes (WO X (aV op)) (WO X (aV B)) (WE X a) (WE X b) (WE X c) σ H Q:=by
 refine ha.use R G h.bind fun p j H1 ρ1 v x1 R1 G1 r1 h1=>?_
 refine hb.use R1 G1 h1.bind fun q a4 H2 a6 u x2 R2 G2 r2 h2=>?_
 refine ho.use R2 (r1.ext x2) r2 h2.bind fun w a5 H3 I z J O r3 Y=>?_
 cases w with
 | bl b=>
  refine ⟨b,r3,?_⟩;cases b with
  | true=>
   rw [bO rfl];refine hc.use O (G2.ext J) Y.bind fun y a7 H4 a3 yv x4 R4 G4 r4 h4=>?_
   exact a2.use R4 (r2.ext (J.trans x4)) r4 h4 fun w U H5 Z z x5 R5 r5 p5=>k w U H5 Z z (x1.trans (x2.trans (J.trans (x4.trans x5)))) R5 r5 p5
  | false=>
   rw [bP E5];exact k (.bl false) _ H3 I _ (x1.trans (x2.trans J)) O rfl (Y H3 I (Ext.refl _ _) O)
 | _=>exact Y.elim
theorem Qm0 {op j:CmpOp} {o o':OP} (B:OpS X E (aV op) o) (z:OpS X E (aV j) o') (O:SimE X E a ma) (J:SimE X E b mb) (I:SimE X E c mc) (U:lastMarks [op,j] [b,c]=false:=by with_unfolding_all rfl):SimE X E (.Compare a [op,j] [b,c] pos) (Q1v o o' ma mb mc):=
 ⟨fun Γ σ H ρ st Q R G h=>WE.of (Qmr Qfc Qfc Ye Ye Ye U) (Qas B z O J I R G h fun _ _ _ _ v _ _ r q=>q v r)⟩
theorem Qki {op j:CmpOp} {o o':OP} (I:OpS X E (aV op) o) (B:OpS X E (aV j) o') (U:SimE X E a ma) (O:SimE X E b mb) (J:SimE X E c mc) (Z:lastMarks [op,j] [b,c]=false:=by with_unfolding_all rfl):SimT X E (.Compare a [op,j] [b,c] pos) (toB (Q1v o o' ma mb mc)):=
 ⟨fun Γ σ H ρ st Q R G h=>WT.of (Qma Qfc Qfc Ye Ye Ye Z) (Qas I B U O J R G h.bind fun _ Y _ _ v _ R1 r q=>by
  obtain ⟨k,e,z⟩:=Qq8 R1 r q;exact ⟨k,e,z⟩)⟩
variable {rest:List aD}
def Q5a (ma mb:ME):ME:=fun Γ st=>(ma Γ st).bind fun x st1=>match x with
 | .bl true=>mb Γ st1
 | .bl false=>.ok (.bl false) st1
 | _=>.stuck
def mOr (ma mb:ME):ME:=fun Γ st=>(ma Γ st).bind fun x st1=>match x with
 | .bl true=>.ok (.bl true) st1
 | .bl false=>mb Γ st1
 | _=>.stuck
def Qwm (ma:ME):ME:=fun Γ st=>(ma Γ st).bind fun x st1=>match x with
 | .bl k=>.ok (.bl (!k)) st1
 | _=>.stuck
theorem Qkw {op:BoolOp} (j:SimE X E a ma):SimE X E (.BoolOp op [a] pos) ma:=⟨fun Γ σ H ρ st Q R G h=>WE.of (Qvu Ye) (j.use R G h fun _ _ _ _ v _ _ _ r q=>q v r)⟩
theorem Qm1 (I:SimE X E a ma) (z:SimE X E (.BoolOp .And (b :: rest) pos) mb):SimE X E (.BoolOp .And (a :: b :: rest) pos) (Q5a ma mb):=
 ⟨fun Γ σ H ρ st Q R G h=>WE.of (Qvy Ye Ye) (I.use R G h.bind fun p J H1 ρ1 v U j B O h1=>by
  cases p with
  | bl k=>
   refine ⟨k,O,?_⟩;cases k with
   | true=>rw [bO rfl]; exact z.use j B h1 fun _ _ _ _ v _ _ _ r q=>q v r
   | false=>rw [bP E5]; exact now j h1 rfl
  | _=>exact h1.elim)⟩
theorem Qyq (I:SimE X E a ma) (z:SimE X E (.BoolOp .Or (b :: rest) pos) mb):SimE X E (.BoolOp .Or (a :: b :: rest) pos) (mOr ma mb):=
 ⟨fun Γ σ H ρ st Q R G h=>WE.of (Qz7 Ye Ye) (I.use R G h.bind fun p J H1 ρ1 v U j B O h1=>by
  cases p with
  | bl k=>
   refine ⟨k,O,?_⟩;cases k with
   | true=>rw [bO rfl]; exact now j h1 rfl
   | false=>rw [bP E5]; exact z.use j B h1 fun _ _ _ _ v _ _ _ r q=>q v r
  | _=>exact h1.elim)⟩
theorem Qv6 (j:SimE X E a ma):SimE X E (.UnaryOp .Not a pos) (Qwm ma):=
 ⟨fun Γ σ H ρ st Q R G h=>WE.of (Qvv Ye) (j.use R G h.bind fun p q H1 ρ1 v J B I z h1=>by
  cases p with
  | bl k=>exact ⟨k,z,now B h1 rfl⟩
  | _=>exact h1.elim)⟩
def Q2x (ma:ME):ME:=fun Γ st=>(ma Γ st).bind fun x st1=>match x with
 | .int k=>.ok (.int (-k)) st1
 | _=>.stuck
theorem Qv7 (j:SimE X E a ma):SimE X E (.UnaryOp .USub a pos) (Q2x ma):=
 ⟨fun Γ σ H ρ st Q R G h=>WE.of (Qz6 Quk Ye) (j.use R G h.bind fun p q H1 ρ1 v J B I z h1=>by
  cases p with
  | int k=>exact ⟨k,z,now B h1 rfl⟩
  | _=>exact h1.elim)⟩
abbrev MT:=Gam->Q0->Res Bool
variable {ta tb:MT}
def Q10 (ta tb:MT):MT:=fun Γ st=>(ta Γ st).bind fun k st1=>if k=true then tb Γ st1 else .ok false st1
def Q1c (ta tb:MT):MT:=fun Γ st=>(ta Γ st).bind fun k st1=>if k=true then .ok true st1 else tb Γ st1
def Vy (ta:MT):MT:=fun Γ st=>(ta Γ st).bind fun k st1=>.ok (!k) st1
theorem SimW.t {e:aD} (h:SimW X E e ta):SimT X E e ta:=⟨fun Γ σ H ρ st Q R G q pins s I=>h.run Γ σ H ρ st Q R G q _ pins s I⟩
theorem Qqm (j:SimT X E a ta):SimW X E (.BoolOp .And [a] pos) ta:=⟨fun Γ σ H ρ st Q R G h=>WW.of (Qre Qd0) (j.use R G h fun _ _ _ _ _ _ _ q=>q)⟩
theorem Qkd (j:SimT X E a ta):SimW X E (.BoolOp .Or [a] pos) ta:=⟨fun Γ σ H ρ st Q R G h=>WW.of (Qvf Qd0) (j.use R G h fun _ _ _ _ _ _ _ q=>q)⟩
theorem Quw (I:SimT X E a ta) (z:SimW X E (.BoolOp .And (b :: rest) pos) tb):SimW X E (.BoolOp .And (a :: b :: rest) pos) (Q10 ta tb):=
 ⟨fun Γ σ H ρ st Q R G h=>WW.of (Qvg Qd0 Qz0) (I.use R G h.bind fun k J H1 ρ1 O j B h1=>by
  cases k with
  | true=>rw [bO rfl] at h1 ⊢; exact z.use j B h1 fun _ _ _ _ _ _ _ q=>q
  | false=>rw [bP E5] at h1 ⊢; exact h1 H1 ρ1 (Ext.refl _ _) j)⟩
theorem Qke (I:SimT X E a ta) (z:SimW X E (.BoolOp .Or (b :: rest) pos) tb):SimW X E (.BoolOp .Or (a :: b :: rest) pos) (Q1c ta tb):=
 ⟨fun Γ σ H ρ st Q R G h=>WW.of (Qz1 Qd0 Qz0) (I.use R G h.bind fun k J H1 ρ1 O j B h1=>by
  cases k with
  | true=>rw [bO rfl] at h1 ⊢; exact h1 H1 ρ1 (Ext.refl _ _) j
  | false=>rw [bP E5] at h1 ⊢; exact z.use j B h1 fun _ _ _ _ _ _ _ q=>q)⟩
theorem Quy (j:SimT X E a ta):SimT X E (.UnaryOp .Not a pos) (Vy ta):=
 ⟨fun Γ σ H ρ st Q R G h=>WT.of (Qvi Qd0) (j.use R G h.bind fun k q H1 ρ1 B z I h1=>h1 H1 ρ1 (Ext.refl _ _) z)⟩
variable {e:aD} {es:List aD} {m:ME} {mr:Gam->Q0->Res (List PV)}
def Q5:Gam->Q0->Res (List PV):=fun _ st=>.ok [] st
def Q1 (m:ME) (mr:Gam->Q0->Res (List PV)):Gam->Q0->Res (List PV):=fun Γ st=>(m Γ st).bind fun p st1=>(mr Γ st1).bind fun ps st2=>.ok (p :: ps) st2
theorem Yg:SimA X E [] Q5:=⟨fun Γ σ H ρ st Q R G h=>WA.of Q7k (h H ρ (Ext.refl _ _) R [] rfl)⟩
theorem J0 (J:SimE X E e m) (q:SimA X E es mr) (hs:aM (e :: es) X.env=(false,aL e X.env) :: aM es X.env:=by rfl):SimA X E (e :: es) (Q1 m mr):=
 ⟨fun Γ σ H ρ st Q R G h=>WA.of (Q04 Ye Q2t hs) (J.use R G h.bind fun p O H1 ρ1 v x1 Z B U h1=>q.use Z B h1.bind fun ps z H2 j vs Y R2 G2 I h2=>
  h2 H2 j (Ext.refl _ _) R2 (v :: vs) ⟨v,vs,rfl,U.ext Y,I⟩)⟩
def U8 (mr:Gam->Q0->Res (List PV)):ME:=fun Γ st=>(mr Γ st).bind fun ps st1=>if ps.length<=lim then .ok (.tup ps) st1 else .stuck
def Q9q (mr:Gam->Q0->Res (List PV)):ME:=fun Γ st=>(mr Γ st).bind fun ps st1=>if ps.length<=lim then .ok (.lst ps) st1 else .stuck
theorem Qf0 {k:Nat} (h:SimA X E es mr):SimE X E (.Tuple es k pos) (U8 mr):=
 ⟨fun Γ σ H ρ st Q R G z=>WE.of (Qvt Q2t) (h.use R G z.bind fun ps B H1 ρ1 vs O I J q h1=>by
  by_cases j:ps.length<=lim
  ·rw [bO j] at h1;exact ⟨by rw [<- q.length]; exact X1 j,Q45 I h1 q⟩
  ·rw [bP j] at h1; exact h1.elim)⟩
theorem Qv8 (h:SimA X E es mr):SimE X E (.List es pos) (Q9q mr):=
 ⟨fun Γ σ H ρ st Q R G z=>WE.of (Qmp Q2t) (h.use R G z.bind fun ps B H1 ρ1 vs O I J q h1=>by
  by_cases j:ps.length<=lim
  ·rw [bO j] at h1;exact ⟨by rw [<- q.length]; exact X1 j,Q46 I h1 q⟩
  ·rw [bP j] at h1; exact h1.elim)⟩
end
end Sm
namespace HT
open PySem PySem.Spec PyProof.Rows
section
variable {prog:aP} {w:aO} {A:aR} {E:aB->aC->Prop} {s:aC}
theorem getItem_tuple_whole {t sl:aA} {j:Array aB} {O U:aB} {lo hi:Option Int} {Q:aB->aC->Prop} (z:IsTup s.heap t j) (hs:s.heap.IsSliceOf sl O U .none) (pl:IsPart O lo) (Y:IsPart U hi)
  (J:sIx j.size 0 lo=0/\sIx j.size j.size hi=j.size)
  (h:Q (.ref t) s):aI (aJ prog w) A (getItem (.ref t) (.ref sl)) Q E s:=by
 obtain ⟨os,G,B,Z⟩:=id hs;have I:s.TypeIs (.ref sl) "slice" := ⟨os,G,B⟩;unfold getItem
 try with_reducible refine bB ?_
 first | refine aF (aQ ?_) | skip
 refine aF (wpAny_sequenceKey z.typeIs (by decide) ?_);refine aF (wpAny_callSpecial?_slot (name:=bT "__getitem__") z.typeIs db
  (bD db z.typeIs entry_tuple_getitem ?_ (args_tuple_getitem _ _)))
 show aI _ _ (Builtin.Tuple.tupleItemsOf (.ref t) >>= _) _ _ s;refine aF (tupleItemsOf_ z ?_);refine aF (bK I ?_);rw [bO (by decide)];refine aF (yf hs pl Y ?_);have q:(((sIx j.size 0 lo:Nat):Int) == 0 && (1:Int) == 1 && (sIx j.size j.size hi - sIx j.size 0 lo) == j.size)=true:=by
  rw [J.1,J.2]; simp
 show aI _ _ (if (((sIx j.size 0 lo:Nat):Int) == 0 && (1:Int) == 1 && (sIx j.size j.size hi - sIx j.size 0 lo) == j.size)=true then _ else _) _ _ s;rw [bO q];refine aF (aF (bK z.typeIs (aQ ?_)));rw [bO (by rfl)];exact aF (bL (aQ ⟨_,rfl,aQ h⟩))
end
end HT
namespace L2
open PySem PySem.Spec PyProof.Rows
def J24 (K:bU):V->Option Int->Option Int->Hp->VK->Prop:=fun x lo hi H Q=>∃ a xs,x=.ref a/\SqT K H a xs /\
 (HT.sIx xs.length 0 lo=0/\HT.sIx xs.length xs.length hi=xs.length)/\Q (.ref a) H
theorem sl_whole {X:Cx}:SlR X (J24 X.K):=by
 intro pins s σ H x v U Y lo hi sl Q I O hs pl J h;obtain ⟨a,xs,rfl,B,G,q⟩:=h;cases O;obtain ⟨its,r,z,hz⟩:=I.tuple B;have j:its.toArray.size=xs.length:=by rw [O3]; exact r.length.symm
 refine ⟨"tuple",_,PyProof.Rows.slot_tuple_getitem.lookup,z.typeIs,?_⟩;exact HT.getItem_tuple_whole z hs pl J (by rw [j]; exact G) ⟨.ref a,H,I,rfl,q⟩
end L2
namespace Sm
open PySem PySem.Spec L2
section
variable {X:Cx} {E:XK} {pos:Pos}
def oI (g:Int->Int->PV):OP:=fun st p q=>match p,q with
 | .int a,.int b=>.ok (g a b) st
 | _,_=>.stuck
def Yj:OP:=fun st p q=>match p,q with
 | .int a,.int b=>.ok (.int (a + b)) st
 | .str a,.str b=>if a.length + b.length<=lim then .ok (.str (a ++ b)) st else .stuck
 | .tup xs,.tup ys=>if xs.length + ys.length<=lim then .ok (.tup (xs ++ ys)) st else .stuck
 | p,q=>match U2 st p,U2 st q with
  | some xs,some ys=>if xs.length + ys.length<=lim then .ok (.lst (xs ++ ys)) st else .stuck
  | _,_=>.stuck
theorem Qbe:OpS X E (aW .Add) Yj:=⟨fun H ρ st p q x y Q R O J h=>by
 unfold Yj at h
 split at h
 ·cases O; cases J;exact WO.of Qwa ⟨_,_,rfl,rfl,now R h rfl⟩
 ·cases O; cases J
  split at h
  ·rename_i I;exact WO.of Qfd ⟨_,_,rfl,rfl,X1 I,now R h rfl⟩
  ·exact h.elim
 ·split at h
  ·rename_i xs ys I;obtain ⟨a,vs,rfl,G,Y,j⟩:=O;obtain ⟨b,us,rfl,B,U,rb⟩:=J;refine WO.of Qs7 ?_
   by_cases e:xs=[]
   ·subst e;cases j;exact .inr ⟨a,b,us,rfl,rfl,SqT.of G,SqT.of B,now R h ⟨b,us,rfl,B,U,rb⟩⟩
   ·refine .inl ⟨a,b,vs,us,rfl,rfl,SqT.of G,SqT.of B,fun z=>e ?_,by rw [<- j.length,<- rb.length]; exact X1 I,fun z=>?_,fun z=>Q45 R h (j.append rb)⟩
    ·subst z;cases xs with
     | nil=>rfl
     | cons _ _=>have:=j.length; simp at this
    ·subst z;have:ys=[]:=by
      cases ys with
      | nil=>rfl
      | cons _ _=>have:=rb.length; simp at this
     subst this;rw [L6] at h;exact now R h ⟨a,vs,rfl,G,Y,j⟩
  ·exact h.elim
 ·split at h
  ·rename_i xs ys e1 e2
   split at h
   ·rename_i I;obtain ⟨a,vs,rfl,G,j⟩:=Q3q R O e1;obtain ⟨b,us,rfl,B,rb⟩:=Q3q R J e2;exact WO.of Qn0 ⟨a,b,vs,us,rfl,rfl,G,B,by rw [<- j.length,<- rb.length]; exact X1 I,Q46 R h (j.append rb)⟩
   ·exact h.elim
  ·exact h.elim⟩
theorem Qmv:OpS X E (aW .Sub) (oI fun a b=>.int (a - b)):=⟨fun H ρ st p q x y Q R z j h=>by
 unfold oI at h
 split at h
 ·cases z; cases j;exact WO.of Qw4 ⟨_,_,rfl,rfl,now R h rfl⟩
 ·exact h.elim⟩
def Q68:OP:=fun st p q=>match p,q with
 | .int a,.int b=>if (-(2 ^ 64) < a/\a < 2 ^ 64)\/(-(2 ^ 64) < b/\b < 2 ^ 64) then .ok (.int (a * b)) st else .stuck
 | .tup xs,.int b=>if xs≠[]/\1<=b/\xs.length * b.toNat<=4096 then .ok (.tup (bV b.toNat xs).flatten) st else .stuck
 | p,.int b=>match U2 st p with
  | some xs=>if -(2 ^ 63)<=b/\b < 2 ^ 63/\xs.length * b.toNat<=lim then .ok (.lst (bV b.toNat xs).flatten) st else .stuck
  | none=>.stuck
 | _,_=>.stuck
theorem Qw1:OpS X E (aW .Mult) Q68:=⟨fun H ρ st p q x y Q R J I h=>by
 unfold Q68 at h
 split at h
 ·cases J; cases I
  split at h
  ·rename_i j;exact WO.of Qw7 ⟨_,_,rfl,rfl,j,now R h rfl⟩
  ·exact h.elim
 ·cases I
  split at h
  ·rename_i xs b j;obtain ⟨a,vs,rfl,G,O,B⟩:=J;refine WO.of Qs4 ⟨a,b,vs,rfl,rfl,SqT.of G,fun z=>j.1 ?_,j.2.1,by rw [<- B.length]; exact j.2.2,fun z=>?_,fun z=>Q45 R h (B.rep _)⟩
   ·subst z;cases xs with
    | nil=>rfl
    | cons _ _=>have:=B.length; simp at this
   ·subst z;have e1:(bV (Int.toNat 1) xs).flatten=xs:=by simp
    rw [e1] at h;exact now R h ⟨a,vs,rfl,G,O,B⟩
  ·exact h.elim
 ·cases I
  split at h
  ·rename_i xs e1
   split at h
   ·rename_i j;obtain ⟨a,vs,rfl,G,B⟩:=Q3q R J e1;exact WO.of Qw5 ⟨a,_,vs,rfl,rfl,G,j.1,j.2.1,by rw [<- B.length]; exact X1 j.2.2,Q46 R h (B.rep _)⟩
   ·exact h.elim
  ·exact h.elim
 ·exact h.elim⟩
def Q43:OP:=fun st p q=>match p,q with
 | .int a,.int b=>if 0 < b then .ok (.int (a % b)) st else .stuck
 | _,_=>.stuck
theorem Qw2:OpS X E (aW .Mod) Q43:=⟨fun H ρ st p q x y Q R B j h=>by
 unfold Q43 at h
 split at h
 ·cases B; cases j
  split at h
  ·rename_i z;exact WO.of Qw8 ⟨_,_,rfl,rfl,z,now R h rfl⟩
  ·exact h.elim
 ·exact h.elim⟩
def Qse:OP:=fun st p q=>match p,q with
 | .int a,.int b=>if 0 < b/\b < 1073741824 then .ok (.int (a / b)) st else .stuck
 | _,_=>.stuck
theorem Qw3:OpS X E (aW .FloorDiv) Qse:=⟨fun H ρ st p q x y Q R B j h=>by
 unfold Qse at h
 split at h
 ·cases B; cases j
  split at h
  ·rename_i z;exact WO.of Qs6 ⟨_,_,rfl,rfl,z,now R h rfl⟩
  ·exact h.elim
 ·exact h.elim⟩
def Qn7:OP:=fun st p q=>match p,q with
 | .int a,.int b=>if 0<=b/\b<=1000000/\a.natAbs < 2 ^ 64 then .ok (.int (a ^ b.toNat)) st else .stuck
 | _,_=>.stuck
theorem Qw0:OpS X E (aW .Pow) Qn7:=⟨fun H ρ st p q x y Q R B j h=>by
 unfold Qn7 at h
 split at h
 ·cases B; cases j
  split at h
  ·rename_i z;exact WO.of Qw6 ⟨_,_,rfl,rfl,z,now R h rfl⟩
  ·exact h.elim
 ·exact h.elim⟩
theorem Qfg {op:CmpOp} {g:Int->Int->Bool} (B:OpR X (aV op) (rI0 fun i j=>.bl (g i j))):OpS X E (aV op) (oI fun a b=>.bl (g a b)):=⟨fun H ρ st p q x y Q R G z h=>by
 unfold oI at h
 split at h
 ·cases G; cases z;exact WO.of B ⟨_,_,rfl,rfl,now R h rfl⟩
 ·exact h.elim⟩
theorem Qzd:OpS X E (aV .LtE) (oI fun a b=>.bl (decide (a<=b))):=Qfg Qzi
theorem Qze:OpS X E (aV .Gt) (oI fun a b=>.bl (decide (b < a))):=Qfg Qzj
theorem Qzf:OpS X E (aV .GtE) (oI fun a b=>.bl (decide (b<=a))):=Qfg Qzk
def y4:List PV->Option (List Int)
 | []=>some []
 | .int i :: ps=>(y4 ps).map (i :: ·)
 | _ :: _=>none
def Q5x:List PV->Option (List Bool)
 | []=>some []
 | .bl i :: ps=>(Q5x ps).map (i :: ·)
 | _ :: _=>none
theorem Qdz (ns:List Int):y4 (ns.map .int)=some ns:=by
 induction ns with
 | nil=>rfl
 | cons n ns j=>rw [F7,y4,j]; rfl
theorem Qts (ns:List Bool):Q5x (ns.map .bl)=some ns:=by
 induction ns with
 | nil=>rfl
 | cons n ns j=>rw [F7,Q5x,j]; rfl
theorem Q6i:∀ {ps:List PV} {ns:List Int},y4 ps=some ns->ps=ns.map .int
 | [],ns,h=>by cases h; rfl
 | .int i :: ps,ns,h=>by
  rw [y4] at h;cases e:y4 ps with
  | none=>rw [e] at h; cases h
  | some ms=>rw [e] at h; cases h; rw [Q6i e]; rfl
 | .non :: _,_,h | .bl _ :: _,_,h | .str _ :: _,_,h | .tup _ :: _,_,h | .lst _ :: _,_,h | .fro _ :: _,_,h | .ref _ :: _,_,h | .dic :: _,_,h=>by cases h
theorem Qq1:∀ {ps:List PV} {ns:List Bool},Q5x ps=some ns->ps=ns.map .bl
 | [],ns,h=>by cases h; rfl
 | .bl i :: ps,ns,h=>by
  rw [Q5x] at h;cases e:Q5x ps with
  | none=>rw [e] at h; cases h
  | some ms=>rw [e] at h; cases h; rw [Qq1 e]; rfl
 | .non :: _,_,h | .int _ :: _,_,h | .str _ :: _,_,h | .tup _ :: _,_,h | .lst _ :: _,_,h | .fro _ :: _,_,h | .ref _ :: _,_,h | .dic :: _,_,h=>by cases h
def oLt:OP:=fun st p q=>match p,q with
 | .int a,.int b=>.ok (.bl (decide (a < b))) st
 | .tup xs,.tup ys=>match y4 xs,y4 ys with
  | some ns,some ms=>.ok (.bl (HT.lexLt ns ms)) st
  | _,_=>.stuck
 | _,_=>.stuck
theorem Qzc (J:X.A.units + 64 < ae):OpS X E (aV .Lt) oLt:=⟨fun H ρ st p q x y Q R z j h=>by
 unfold oLt at h
 split at h
 ·cases z; cases j;exact WO.of Qzh ⟨_,_,rfl,rfl,now R h rfl⟩
 ·split at h
  ·rename_i ns ms e1 e2;obtain ⟨a,vs,rfl,G,U,I⟩:=z;obtain ⟨b,us,rfl,B,O,rb⟩:=j;rw [Q6i e1] at I;rw [Q6i e2] at rb;rw [I.toInts] at G;rw [rb.toInts] at B;exact WO.of (Qw9 (by omega)) ⟨a,b,ns,ms,rfl,rfl,SqT.of G,SqT.of B,now R h rfl⟩
  ·exact h.elim
 ·exact h.elim⟩
def dep:Nat:=12
def oEq:OP:=fun st p q=>if Jk dep (der st p)=true/\Jk dep (der st q)=true then .ok (.bl (peq (der st p) (der st q))) st else .stuck
def oNe:OP:=fun st p q=>if Jk dep (der st p)=true/\Jk dep (der st q)=true then .ok (.bl (!peq (der st p) (der st q))) st else .stuck
theorem Qmx (J:X.A.units + 64 < ae):OpS X E (aV .Eq) oEq:=⟨fun H ρ st p q x y Q R z j h=>by
 unfold oEq at h
 split at h
 ·rename_i g;intro pins s σ v u I G B;exact (Qhf dep I g.1 g.2 (by unfold dep; omega) (Q2k R g.1 z) G (Q2k R g.2 j) B).2.1 _ _ _ _ ⟨.bl _,H,I,rfl,now R h rfl⟩
 ·exact h.elim⟩
theorem Qaa (J:X.A.units + 64 < ae):OpS X E (aV .NotEq) oNe:=⟨fun H ρ st p q x y Q R z j h=>by
 unfold oNe at h
 split at h
 ·rename_i g;intro pins s σ v u I G B;exact (Qhf dep I g.1 g.2 (by unfold dep; omega) (Q2k R g.1 z) G (Q2k R g.2 j) B).2.2 _ _ _ _ ⟨.bl _,H,I,rfl,now R h rfl⟩
 ·exact h.elim⟩
def Qdy:PV->Bool
 | .non=>true
 | _=>false
theorem Qj5 {H:Hp} {ρ:Tk} {p:PV} {x:V} (r:Rep H ρ p x):decide (x=.non)=Qdy p:=by
 cases p with
 | non=>cases r; rfl
 | bl _=>cases r; rfl
 | int _=>cases r; rfl
 | str _=>cases r; rfl
 | tup _=>obtain ⟨_,_,rfl,_⟩:=r; rfl
 | lst _=>obtain ⟨_,_,rfl,_⟩:=r; rfl
 | fro _=>obtain ⟨_,_,rfl,_⟩:=r; rfl
 | ref _=>obtain ⟨_,_,rfl⟩:=r; rfl
 | dic=>obtain ⟨_,rfl,_⟩:=r; rfl
def oIs:OP:=fun st p q=>match q with
 | .non=>.ok (.bl (Qdy p)) st
 | .bl c=>match p with
  | .bl b=>.ok (.bl (b == c)) st
  | _=>.stuck
 | _=>.stuck
def Q7w:OP:=fun st p q=>match q with
 | .non=>.ok (.bl (!Qdy p)) st
 | .bl c=>match p with
  | .bl b=>.ok (.bl (b != c)) st
  | _=>.stuck
 | _=>.stuck
theorem Qd6:OpS X E (aV .IsNot) Q7w:=⟨fun H ρ st p q x y Q R z j h=>by
 unfold Q7w at h
 split at h
 ·cases j;refine WO.of Qs5 ⟨rfl,?_⟩;rw [Qj5 z];exact now R h rfl
 ·split at h
  ·cases z; cases j;exact WO.of Qd8 ⟨_,_,rfl,rfl,now R h rfl⟩
  ·exact h.elim
 ·exact h.elim⟩
def oIn (neg:Bool):OP:=fun st p q=>match Xb st q with
 | some xs=>if Jk dep (der st p)=true/\xs.all (Jk dep)=true then .ok (.bl ((xs.any fun y=>peq y (der st p)) != neg)) st else .stuck
 | none=>.stuck
open Classical in
theorem Qe0 {pins:List (aA × Obj)} {σ:St} {H:Hp} {ρ:Tk} {s:aC} {A:aR} {st:Q0} {p:PV} {xs:List PV} {x:V} {v:aB} {vs:List V} {its:List aB} (I:Inv X pins σ H s) (U:A.units + dep < ae) (R:Rel H ρ st)
  (gp:Jk dep (der st p)=true) (Z:xs.all (Jk dep)=true) (rp:Rep H ρ p x) (rv:RelV x v) (ra:RepL H ρ xs vs) (vi:Vals vs its):∃ e:aB->Bool,(∀ u,u∈its.toArray->SeqAt.EqAt A s u v (e u))/\its.toArray.any e=xs.any fun y=>peq y (der st p):=by
 have a2:∀ u∈its,∃ q∈xs,∃ y,Rep H Tk.nil q y/\RelV y u:=fun u U=>by
  obtain ⟨j,Y,rfl⟩:=dl U;have l1:=vi.length;have l2:=ra.length;obtain ⟨y,e1,e2⟩:=(repL_nil Z ra).get (O5 (show j < xs.length by omega));obtain ⟨w,e3,e4⟩:=vi.get e1;rw [O5 Y] at e3; cases e3;exact ⟨_,dk _,y,e2,e4⟩
 refine ⟨fun u=>decide (∃ q∈xs,∃ y,Rep H Tk.nil q y/\RelV y u/\peq q (der st p)=true),fun u hm=>?_,?_⟩
 ·have a3:u∈its:=by simpa using hm
  by_cases z:∃ q∈xs,∃ y,Rep H Tk.nil q y/\RelV y u/\peq q (der st p)=true
  ·show SeqAt.EqAt A s u v (decide _);rw [bR z];obtain ⟨q,B,y,J,O,e⟩:=z;have:=(Qhf dep I ((F9.mp Z) q B) gp U J O (Q2k R gp rp) rv).1;rw [e] at this;exact this
  ·show SeqAt.EqAt A s u v (decide _);rw [bQ z];obtain ⟨q,B,y,J,O⟩:=a2 u a3;have:=(Qhf dep I ((F9.mp Z) q B) gp U J O (Q2k R gp rp) rv).1;cases e:peq q (der st p) with
   | true=>exact absurd ⟨q,B,y,J,O,e⟩ z
   | false=>rw [e] at this; exact this
 ·rw [dN,Array.any_eq_true,dO];constructor
  ·rintro ⟨j,Y,e⟩;obtain ⟨q,B,y,J,O,e⟩:=of_decide_eq_true e;exact ⟨q,B,e⟩
  ·rintro ⟨q,B,e⟩;obtain ⟨j,Y,rfl⟩:=dl B;have l1:=vi.length;have l2:=ra.length;have G:j < its.length:=by omega
   obtain ⟨y,e1,e2⟩:=(repL_nil Z ra).get (O5 Y);obtain ⟨w,e3,e4⟩:=vi.get e1;refine ⟨j,by simpa using G,bR ⟨_,B,y,e2,?_,e⟩⟩;rw [O5 G] at e3; cases e3;simpa using e4
theorem Qmw (Z:X.A.units + 64 < ae):OpS X E (aV .NotIn) (oIn true):=⟨fun H ρ st p q x y Q R B U h=>by
 unfold oIn at h
 split at h
 ·rename_i xs es
  split at h
  ·rename_i g;obtain ⟨t,a,vs,rfl,O,G⟩:=Q4p (K:=X.K) R U es;intro pins s σ v u I J Y;cases Y;rw [Bool.bne_true] at h;cases t with
   | true=>
    obtain ⟨its,r,pl,hz⟩:=I.tuple O;obtain ⟨e,j,z⟩:=Qe0 (A:=X.A.in1) I (by show X.A.units + 1 + dep < ae; unfold dep; omega) R g.1 g.2 B J G r;refine SeqAt.notIn_tupleAt e pl j ⟨.bl _,H,I,rfl,?_⟩;rw [z];exact now R h rfl
   | false=>
    obtain ⟨its,r,pl,hz⟩:=I.list O;obtain ⟨e,j,z⟩:=Qe0 (A:=X.A.in1) I (by show X.A.units + 1 + dep < ae; unfold dep; omega) R g.1 g.2 B J G r;refine SeqAt.notIn_listAt e pl.isList j ⟨.bl _,H,I,rfl,?_⟩;rw [z];exact now R h rfl
  ·exact h.elim
 ·exact h.elim⟩
end
section
variable {H:Hp} {ρ:Tk}
theorem RepL.atI {ps:List PV} {vs:List V} {i:Int} {p:PV} (r:RepL H ρ ps vs) (e:atI ps i=some p):∃ v,L2.atI vs i=some v/\Rep H ρ p v:=by
 unfold L2.atI at e ⊢;rw [<- r.length];cases q:ixN ps.length i with
 | none=>rw [q] at e; cases e
 | some j=>
  rw [q] at e;exact r.get e
def cut {α:Type} (xs:List α) (lo hi:Option Int):List α:=(xs.drop (HT.sIx xs.length 0 lo)).take (HT.sIx xs.length xs.length hi - HT.sIx xs.length 0 lo)
theorem RepL.cut {ps:List PV} {vs:List V} (r:RepL H ρ ps vs) (lo hi:Option Int):RepL H ρ (Sm.cut ps lo hi) (Qe8 vs lo hi):=by
 unfold Sm.cut Qe8;rw [<- r.length];exact (r.drop _).take _
end
section
variable {X:Cx} {E:XK} {pos:Pos} {a b:aD} {ma mb:ME}
def oIx:OP:=fun st p q=>match Xb st p,q with
 | some xs,.int i=>okO st (atI xs i)
 | _,_=>.stuck
theorem Up (Z:SimE X E a ma) (hb:SimE X E b mb) (hs:Qhn b:=by exact fun _ _=>rfl):SimE X E (.Subscript a b pos) (mOp oIx ma mb):=
 ⟨fun Γ σ H ρ st Q R G h=>WE.of (Qz8 Qwz Ye Ye hs) (Z.use R G h.bind fun p a2 H1 ρ1 v x1 Y U r1 h1=>hb.use Y U h1.bind fun q O H2 a3 u x2 R2 G2 r2 h2=>by
  unfold oIx at h2
  split at h2
  ·rename_i xs i e;cases r2;cases j:atI xs i with
   | none=>rw [j] at h2; exact h2.elim
   | some w=>
    rw [j] at h2;obtain ⟨t,b,vs,rfl,J,ra⟩:=Q4p (K:=X.K) R2 (r1.ext x2) e;obtain ⟨z,I,B⟩:=ra.atI j;cases t with
    | true=>exact .inr (.inl ⟨b,vs,i,z,rfl,rfl,J,I,now R2 h2 B⟩)
    | false=>exact .inl ⟨b,vs,i,z,rfl,rfl,J,I,now R2 h2 B⟩
  ·exact h2.elim)⟩
structure SimO (X:Cx) (E:XK) (o:Option aD) (m:Gam->Q0->Res (Option Int)):Prop where
 run:∀ (Γ:Gam) (σ:St) (H:Hp) (ρ:Tk) (st:Q0) (P:Option Int->Q0->Hp->Tk->Prop) (Q:Option Int->Hp->Prop),Rel H ρ st->EnvR H ρ Γ σ->Acc X.mg E H ρ P (m Γ st) ->
  (∀ i st1 H1 ρ1,Ext H ρ H1 ρ1->Rel H1 ρ1 st1->EnvR H1 ρ1 Γ σ->P i st1 H1 ρ1->Q i H1)->∃ t,PO X o t/\t σ H Q
def Wc:Gam->Q0->Res (Option Int):=fun _ st=>.ok none st
def X5 (m:ME):Gam->Q0->Res (Option Int):=fun Γ st=>(m Γ st).bind fun p st1=>match p with
 | .int i=>.ok (some i) st1
 | _=>.stuck
theorem Qqt:SimO X E none Wc:=⟨fun Γ σ H ρ st P Q R G h k=>⟨_,Qrn,k none st H ρ (Ext.refl _ _) R G (h H ρ (Ext.refl _ _) R)⟩⟩
theorem Qqs (I:SimE X E a ma):SimO X E (some a) (X5 ma):=⟨fun Γ σ H ρ st P Q R G h k=>⟨_,Qrm Ye,I.use R G h.bind fun p j H1 ρ1 v B q z J h1=>by
 cases p with
 | int i=>exact ⟨i,J,k (some i) j H1 ρ1 B q z (h1 H1 ρ1 (Ext.refl _ _) q)⟩
 | _=>exact h1.elim⟩⟩
def oSl (st:Q0) (p:PV) (lo hi:Option Int):Res PV:=match p with
 | .tup xs=>.ok (.tup (cut xs lo hi)) st
 | p=>match Q0i st p with
  | some xs=>.ok (.lst (cut xs lo hi)) st
  | none=>.stuck
def mSl (ma:ME) (ml mh:Gam->Q0->Res (Option Int)):ME:=fun Γ st=>(ma Γ st).bind fun p st1=>(ml Γ st1).bind fun lo st2=>(mh Γ st2).bind fun hi st3=>oSl st3 p lo hi
def TO.w (X:Cx) (o:Option aD):TO:=fun σ H Q=>∃ t,PO X o t/\t σ H Q
theorem Qz4 {o:Option aD}:PO X o (TO.w X o):=fun pins s σ H Q I ⟨t,h,q⟩=>h pins s σ H Q I q
theorem Qku {lo hi:Option aD} {ml Y:Gam->Q0->Res (Option Int)} {p2:Pos} (q:SimE X E a ma) (hl:SimO X E lo ml) (hh:SimO X E hi Y):SimE X E (.Subscript a (.Slice lo hi none p2) pos) (mSl ma ml Y):=
 ⟨fun Γ σ H ρ st Q R G h=>WE.of (Qmm (sl_tup.or (sl_whole.or Qqu)) Ye Qz4 Qz4) (q.use R G h.bind fun p O H1 ρ1 v x1 R1 G1 r1 h1=>by
  refine hl.run Γ σ H1 ρ1 O _ _ R1 G1 h1.bind fun l J H2 U x2 R2 G2 h2=>?_
  refine hh.run Γ σ H2 U J _ _ R2 G2 h2.bind fun u a2 H3 a3 x3 B G3 j=>?_
  have Z:=r1.ext (x2.trans x3);unfold oSl at j
  split at j
  ·rename_i xs;obtain ⟨a,vs,rfl,q,na,z⟩:=Z
   by_cases I:HT.sIx vs.length 0 l=0/\HT.sIx vs.length vs.length u=vs.length
   ·refine .inr (.inl ⟨a,vs,rfl,SqT.of q,I,?_⟩);have e:cut xs l u=xs:=by
     unfold cut;rw [z.length,I.1,I.2,dq,gP,<- z.length,fC]
    rw [e] at j;exact now B j ⟨a,vs,rfl,q,na,z⟩
   ·exact .inl ⟨a,vs,rfl,SqT.of q,I,Q45 B j (z.cut l u)⟩
  ·split at j
   ·rename_i xs e;obtain ⟨a,vs,rfl,q,z⟩:=Q6h B Z e;exact .inr (.inr ⟨a,vs,rfl,.inl q,Q46 B j (z.cut l u)⟩)
   ·exact j.elim)⟩
variable {es:List aD} {e:aD} {mr:Gam->Q0->Res (List PV)}
def Qm (o:CF) (mr:Gam->Q0->Res (List PV)):ME:=fun Γ st=>(mr Γ st).bind fun ps st1=>o st1 ps
theorem CallS.use {f:aB} {o:CF} (s:CallS X E f o) {P:PV->Q0->Hp->Tk->Prop} {Q:VK} {H:Hp} {ρ:Tk} {st:Q0} {ps:List PV} {xs:List V} (R:Rel H ρ st) (B:RepL H ρ ps xs) (h:Acc X.mg E H ρ P (o st ps))
  (k:∀ p j H1 ρ1 v,Ext H ρ H1 ρ1->Rel H1 ρ1 j->Rep H1 ρ1 p v->P p j H1 ρ1->Q v H1):WC X f xs H Q:=by
 refine s.run H ρ st ps xs Q R B ?_;cases r:o st ps with
 | ok p j=>rw [r] at h; exact fun H' ρ' q z v G=>k p j H' ρ' v q z G (h H' ρ' q z)
 | exc e st=>rw [r] at h; exact h
 | stuck=>rw [r] at h; exact h
theorem Q77 {id:String} {x:Str} {p:Pos} {o:CF} (B:CallS X E (.builtin id) o) (I:Gl X x) (Z:X.mg x=none) (Y:aZ x=some (.builtin id)) (J:SimA X E (e :: es) mr) (hn:x≠"__name__" := by decide) (j:(x == ("__debug__" : Str))=false:=by decide)
  (O:aM (e :: es) X.env=(false,aL e X.env) :: aM es X.env:=by rfl) (z:(aU pos (aM es X.env)).any (·.1)=false:=by rfl):SimE X E (.Call (.Name x p) (e :: es) [] pos) (Qm o mr):=
 ⟨fun Γ σ H ρ st Q R G h=>WE.of (Qd4 Qph I Z Y Q2t hn j O z) (J.use R G h.bind fun ps U H1 ρ1 vs x1 R1 G1 r1 h1=>B.use R1 r1 h1 fun _ _ _ _ v _ _ r q=>q v r)⟩
theorem Q76 {T:String} {x:Str} {p:Pos} {o:CF} (B:CallS X E (.type T) o) (I:Gl X x) (Z:X.mg x=none) (Y:aZ x=some (.type T)) (J:SimA X E (e :: es) mr) (hn:x≠"__name__" := by decide) (j:(x == ("__debug__" : Str))=false:=by decide)
  (O:aM (e :: es) X.env=(false,aL e X.env) :: aM es X.env:=by rfl) (z:(aU pos (aM es X.env)).any (·.1)=false:=by rfl):SimE X E (.Call (.Name x p) (e :: es) [] pos) (Qm o mr):=
 ⟨fun Γ σ H ρ st Q R G h=>WE.of (Qif Qph I Z Y Q2t hn j O z) (J.use R G h.bind fun ps U H1 ρ1 vs x1 R1 G1 r1 h1=>B.use R1 r1 h1 fun _ _ _ _ v _ _ r q=>q v r)⟩
theorem Wa {H:Hp} {ρ:Tk} {p:PV} {xs:List V} (r:RepL H ρ [p] xs):∃ v,xs=[v]/\Rep H ρ p v:=by
 obtain ⟨v,t,rfl,h1,h2⟩:=r;cases h2;exact ⟨v,rfl,h1⟩
theorem Q1i {H:Hp} {ρ:Tk} {p q:PV} {xs:List V} (r:RepL H ρ [p,q] xs):∃ v u,xs=[v,u]/\Rep H ρ p v/\Rep H ρ q u:=by
 obtain ⟨v,t,rfl,h1,h2⟩:=r;obtain ⟨u,rfl,j⟩:=Wa h2;exact ⟨v,u,rfl,h1,j⟩
def Zt:CF:=fun st ps=>match ps with
 | [p]=>match Xb st p with
  | some xs=>.ok (.int xs.length) st
  | none=>match p with
   | .str x=>if x.length<=lim then .ok (.int x.length) st else .stuck
   | _=>.stuck
 | _=>.stuck
theorem Qpd:CallS X E (.builtin "len") Zt:=⟨fun H ρ st ps xs Q R z h=>by
 unfold Zt at h
 split at h
 ·rename_i p;obtain ⟨v,rfl,r⟩:=Wa z
  split at h
  ·rename_i ys e;obtain ⟨t,a,vs,rfl,q,j⟩:=Q4p (K:=X.K) R r e;rw [j.length] at h;exact WC.of Qcb ⟨a,vs,rfl,Qkp q,now R h rfl⟩
  ·split at h
   ·cases r
    split at h
    ·rename_i B;exact WC.of Qca ⟨_,rfl,X1 B,now R h rfl⟩
    ·exact h.elim
   ·exact h.elim
 ·exact h.elim⟩
def Wr (g:List Int->Option PV):CF:=fun st ps=>match ps with
 | [p]=>match (Xb st p).bind y4 with
  | some ns=>okO st (g ns)
  | none=>.stuck
 | _=>.stuck
def yu (g:List Bool->PV):CF:=fun st ps=>match ps with
 | [p]=>match (Xb st p).bind Q5x with
  | some ns=>.ok (g ns) st
  | none=>.stuck
 | _=>.stuck
theorem Q8j {K:bU} {H:Hp} {ρ:Tk} {st:Q0} {p:PV} {v:V} {ns:List Int} (R:Rel H ρ st) (r:Rep H ρ p v) (e:(Xb st p).bind y4=some ns):∃ (t:Bool) (a:aA),v=.ref a/\SqK K t H a (ns.map V.int):=by
 cases q:Xb st p with
 | none=>rw [q] at e; cases e
 | some xs=>
  rw [q] at e;obtain ⟨t,a,vs,rfl,j,z⟩:=Q4p (K:=K) R r q;rw [Q6i e] at z;rw [z.toInts] at j;exact ⟨t,a,rfl,j⟩
theorem Qhj {K:bU} {H:Hp} {ρ:Tk} {st:Q0} {p:PV} {v:V} {ns:List Bool} (R:Rel H ρ st) (r:Rep H ρ p v) (e:(Xb st p).bind Q5x=some ns):∃ (t:Bool) (a:aA),v=.ref a/\SqK K t H a (ns.map V.bl):=by
 cases q:Xb st p with
 | none=>rw [q] at e; cases e
 | some xs=>
  rw [q] at e;obtain ⟨t,a,vs,rfl,j,z⟩:=Q4p (K:=K) R r q;rw [Qq1 e] at z;rw [z.toBls] at j;exact ⟨t,a,rfl,j⟩
theorem Qpc (j:X.calm=true):CallS X E (.builtin "sum") (Wr fun ns=>some (.int ns.sum)):=⟨fun H ρ st ps xs Q R q h=>by
 unfold Wr at h
 split at h
 ·obtain ⟨v,rfl,r⟩:=Wa q
  split at h
  ·rename_i ns e;obtain ⟨t,a,rfl,z⟩:=Q8j (K:=X.K) R r e;exact WC.of (Qpi t j) ⟨a,ns,rfl,z,now R h rfl⟩
  ·exact h.elim
 ·exact h.elim⟩
theorem Qx9 (j:X.calm=true):CallS X E (.builtin "all") (yu fun ns=>.bl (ns.all id)):=⟨fun H ρ st ps xs Q R q h=>by
 unfold yu at h
 split at h
 ·obtain ⟨v,rfl,r⟩:=Wa q
  split at h
  ·rename_i ns e;obtain ⟨t,a,rfl,z⟩:=Qhj (K:=X.K) R r e;exact WC.of (Qpk t j) ⟨a,ns,rfl,z,now R h rfl⟩
  ·exact h.elim
 ·exact h.elim⟩
theorem Qx8 (j:X.calm=true):CallS X E (.builtin "any") (yu fun ns=>.bl (ns.any id)):=⟨fun H ρ st ps xs Q R q h=>by
 unfold yu at h
 split at h
 ·obtain ⟨v,rfl,r⟩:=Wa q
  split at h
  ·rename_i ns e;obtain ⟨t,a,rfl,z⟩:=Qhj (K:=X.K) R r e;exact WC.of (Qpj t j) ⟨a,ns,rfl,z,now R h rfl⟩
  ·exact h.elim
 ·exact h.elim⟩
def maxI:List Int->Option Int
 | []=>none
 | n :: ns=>some (ns.foldl (fun a b=>if b > a then b else a) n)
def Qwg:List Int->Option Int
 | []=>none
 | n :: ns=>some (ns.foldl (fun a b=>if b < a then b else a) n)
theorem Qam:∀ (ns:List Int) (n:Int),(ns.foldl (fun a b=>if b > a then b else a) n=n\/ns.foldl (fun a b=>if b > a then b else a) n∈ns)/\n<=ns.foldl (fun a b=>if b > a then b else a) n/\∀ k∈ns,k<=ns.foldl (fun a b=>if b > a then b else a) n
 | [],n=>⟨.inl rfl,bc _,fun k h=>by cases h⟩
 | m :: ns,n=>by
  obtain ⟨h1,h2,z⟩:=Qam ns (if m > n then m else n);rw [cU];refine ⟨?_,?_,fun k q=>?_⟩
  ·rcases h1 with e | e
   ·by_cases j:m > n
    ·rw [bO j] at e ⊢; exact .inr (by rw [e]; exact D6)
    ·rw [bP j] at e ⊢; exact .inl e
   ·exact .inr (D1 _ e)
  ·by_cases j:m > n
   ·rw [bO j] at h2 ⊢; omega
   ·rw [bP j] at h2 ⊢; exact h2
  ·rcases E3.mp q with rfl | q
   ·by_cases j:k > n
    ·rw [bO j] at h2 ⊢; exact h2
    ·rw [bP j] at h2 ⊢; omega
   ·exact z k q
theorem Qak:∀ (ns:List Int) (n:Int),(ns.foldl (fun a b=>if b < a then b else a) n=n\/ns.foldl (fun a b=>if b < a then b else a) n∈ns)/\ns.foldl (fun a b=>if b < a then b else a) n<=n/\∀ k∈ns,ns.foldl (fun a b=>if b < a then b else a) n<=k
 | [],n=>⟨.inl rfl,bc _,fun k h=>by cases h⟩
 | m :: ns,n=>by
  obtain ⟨h1,h2,z⟩:=Qak ns (if m < n then m else n);rw [cU];refine ⟨?_,?_,fun k q=>?_⟩
  ·rcases h1 with e | e
   ·by_cases j:m < n
    ·rw [bO j] at e ⊢; exact .inr (by rw [e]; exact D6)
    ·rw [bP j] at e ⊢; exact .inl e
   ·exact .inr (D1 _ e)
  ·by_cases j:m < n
   ·rw [bO j] at h2 ⊢; omega
   ·rw [bP j] at h2 ⊢; exact h2
  ·rcases E3.mp q with rfl | q
   ·by_cases j:k < n
    ·rw [bO j] at h2 ⊢; exact h2
    ·rw [bP j] at h2 ⊢; omega
   ·exact z k q
def Q8x:CF:=fun st ps=>match ps with
 | [.int a,.int b]=>.ok (.int (if b > a then b else a)) st
 | ps=>Wr (fun ns=>(maxI ns).map .int) st ps
def Qed:CF:=fun st ps=>match ps with
 | [.int a,.int b]=>.ok (.int (if b < a then b else a)) st
 | ps=>Wr (fun ns=>(Qwg ns).map .int) st ps
theorem Qx7 (q:X.calm=true):CallS X E (.builtin "max") Q8x:=⟨fun H ρ st ps xs Q R B h=>by
 unfold Q8x at h
 split at h
 ·obtain ⟨v,u,rfl,O,J⟩:=Q1i B;cases O; cases J;exact WC.of (Qjk q) ⟨_,_,rfl,now R h rfl⟩
 ·unfold Wr at h
  split at h
  ·obtain ⟨v,rfl,r⟩:=Wa B
   split at h
   ·rename_i ns e;cases ns with
    | nil=>exact h.elim
    | cons n ns=>
     obtain ⟨t,a,rfl,G⟩:=Q8j (K:=X.K) R r e;refine WC.of (Qjj t q) ⟨a,_,rfl,G,by simp,fun m j z=>?_⟩;have U:m=ns.foldl (fun a b=>if b > a then b else a) n:=by
      obtain ⟨h1,h2,I⟩:=Qam ns n;have Y:ns.foldl (fun a b=>if b > a then b else a) n<=m:=by
       rcases h1 with e | e
       ·rw [e]; exact z _ D6
       ·exact z _ (D1 _ e)
      have g2:m<=ns.foldl (fun a b=>if b > a then b else a) n:=by
       rcases E3.mp j with rfl | j
       ·exact h2
       ·exact I m j
      omega
     subst U;exact now R h rfl
   ·exact h.elim
  ·exact h.elim⟩
theorem Qx6 (q:X.calm=true):CallS X E (.builtin "min") Qed:=⟨fun H ρ st ps xs Q R B h=>by
 unfold Qed at h
 split at h
 ·obtain ⟨v,u,rfl,O,J⟩:=Q1i B;cases O; cases J;exact WC.of (Qji q) ⟨_,_,rfl,now R h rfl⟩
 ·unfold Wr at h
  split at h
  ·obtain ⟨v,rfl,r⟩:=Wa B
   split at h
   ·rename_i ns e;cases ns with
    | nil=>exact h.elim
    | cons n ns=>
     obtain ⟨t,a,rfl,G⟩:=Q8j (K:=X.K) R r e;refine WC.of (Qjh t q) ⟨a,_,rfl,G,by simp,fun m j z=>?_⟩;have U:m=ns.foldl (fun a b=>if b < a then b else a) n:=by
      obtain ⟨h1,h2,I⟩:=Qak ns n;have Y:m<=ns.foldl (fun a b=>if b < a then b else a) n:=by
       rcases h1 with e | e
       ·rw [e]; exact z _ D6
       ·exact z _ (D1 _ e)
      have g2:ns.foldl (fun a b=>if b < a then b else a) n<=m:=by
       rcases E3.mp j with rfl | j
       ·exact h2
       ·exact I m j
      omega
     subst U;exact now R h rfl
   ·exact h.elim
  ·exact h.elim⟩
def Q34:CF:=fun st ps=>match ps with
 | [p]=>match Xb st p with
  | some xs=>.ok (.lst xs) st
  | none=>.stuck
 | _=>.stuck
def Vh:CF:=fun st ps=>match ps with
 | [p]=>match Xb st p with
  | some xs=>.ok (.tup xs) st
  | none=>.stuck
 | _=>.stuck
theorem Qth:CallS X E (.type "list") Q34:=⟨fun H ρ st ps xs Q R q h=>by
 unfold Q34 at h
 split at h
 ·obtain ⟨v,rfl,r⟩:=Wa q
  split at h
  ·rename_i ys e;obtain ⟨t,a,vs,rfl,j,z⟩:=Q4p (K:=X.K) R r e;exact WC.of Qc9 ⟨a,vs,rfl,Qkp j,Q46 R h z⟩
  ·exact h.elim
 ·exact h.elim⟩
theorem Qpb:CallS X E (.type "tuple") Vh:=⟨fun H ρ st ps xs Q R B h=>by
 unfold Vh at h
 split at h
 ·rename_i p;obtain ⟨v,rfl,r⟩:=Wa B
  split at h
  ·rename_i ys e;cases p with
   | tup zs=>
    cases e;obtain ⟨a,vs,rfl,j,z,q⟩:=r;exact WC.of Q33 ⟨a,vs,rfl,.inr ⟨SqT.of j,now R h ⟨a,vs,rfl,j,z,q⟩⟩⟩
   | _=>
    obtain ⟨a,vs,rfl,j,q⟩:=Q6h R r e;exact WC.of Q33 ⟨a,vs,rfl,.inl ⟨.inl j,Q45 R h q⟩⟩
  ·exact h.elim
 ·exact h.elim⟩
def tyN:PV->String
 | .non => "NoneType"
 | .bl _ => "bool"
 | .int _ => "int"
 | .str _ => "str"
 | .tup _ => "tuple"
 | .lst _ => "list"
 | .fro _ => "list"
 | .ref _ => "list"
 | .dic => "dict"
def dpv (st:Q0):PV->PV
 | .ref i=>match st[i]? with
  | some (.dic _)=>.dic
  | some (.dtp _)=>.dic
  | _=>.ref i
 | p=>p
def isI (T:String) (p:PV):Bool:=tyN p == T || (T == "int" && tyN p == "bool")
def Q2y (st:Q0):PV->Bool
 | .ref i=>match st[i]? with
  | some (.frd _)=>true
  | some (.obj _ _)=>true
  | _=>false
 | _=>false
theorem Qy8 {K:bU} {H:Hp} {ρ:Tk} {st:Q0} {p:PV} {v:V} (z:Q2y st p=false) (R:Rel H ρ st) (r:Rep H ρ p v):TyOf K H v (.type (tyN (dpv st p))):=by
 cases p with
 | non=>cases r; exact .non
 | bl b=>cases r; exact .bl b
 | int i=>cases r; exact .int i
 | str x=>cases r; exact .str x
 | tup ps=>obtain ⟨a,vs,rfl,h,_⟩:=r; exact .tup h
 | lst ps=>obtain ⟨a,vs,rfl,h,_⟩:=r; exact .lst h
 | fro ps=>
  obtain ⟨a,vs,rfl,h,_⟩:=r;rcases h with h | ⟨o,h⟩
  ·exact .lst h
  ·exact .frz h
 | ref i=>
  obtain ⟨a,e,rfl⟩:=r;have B:i < st.length:=by rw [<- R.len]; exact (O0.mp e).1
  have hs:=O5 B;have q:=R.cell i a st[i] e hs;cases j:st[i] with
  | lst xs=>rw [j] at q hs; simp only [dpv,hs]; obtain ⟨vs,h,_⟩:=q; exact .lst h
  | dic xs=>rw [j] at q hs; simp only [dpv,hs]; obtain ⟨vs,h,_⟩:=q; exact .dK h
  | dtp xs=>rw [j] at q hs; simp only [dpv,hs]; obtain ⟨vs,h,_⟩:=q; exact .dT h
  | frd xs=>rw [j] at hs; simp only [Q2y,hs] at z; cases z
  | obj C xs=>rw [j] at hs; simp only [Q2y,hs] at z; cases z
 | dic=>obtain ⟨a,rfl,h,_⟩:=r; exact .dK h
def Q8g:List String:=["int", "bool", "str", "tuple", "list", "dict"]
theorem Qwt (K:bU) {T:String} (j:T∈Q8g) (p:PV):eT K (.type (tyN p)) (.type T)=some (isI T p):=by
 have j:T = "int" \/ T = "bool" \/ T = "str" \/ T = "tuple" \/ T = "list" \/ T = "dict" := by simpa [Q8g] using j
 rcases j with rfl | rfl | rfl | rfl | rfl | rfl <;> cases p <;> first | rfl | kernel_rfl
def Q9r (T:String) (m:ME):ME:=fun Γ st=>(m Γ st).bind fun p st1=>if Q2y st1 p=true then .stuck else .ok (.bl (isI T (dpv st1 p))) st1
theorem Qv9 {T:String} {j:Str} {a:aD} {ma:ME} {p z:Pos} (hT:T∈Q8g) (ha:SimE X E a ma) (hg:Gl X "isinstance") (hm:X.mg "isinstance" = none) (O:Gl X j) (U:X.mg j=none) (J:aZ j=some (.type T))
  (hn:j≠"__name__" := by decide) (hd:(j == ("__debug__" : Str))=false:=by decide)
  (he:aM [a,.Name j z] X.env=(false,aL a X.env) :: aM [.Name j z] X.env:=by rfl) (I:aM [.Name j z] X.env=(false,aL (.Name j z) X.env) :: aM [] X.env:=by rfl) (Z:(aU pos (aM [.Name j z] X.env)).any (·.1)=false:=by rfl) :
  SimE X E (.Call (.Name "isinstance" p) [a,.Name j z] [] pos) (Q9r T ma):=
 ⟨fun Γ σ H ρ st Q R G h=>WE.of (Qd4 Qec hg hm Q6b (Q04 Ye (Q04 (Qs0 O U J (v:=.ty T) rfl hn hd) Q7k I) he) (by decide) (by decide) he Z)
  (ha.use R G h.bind fun q B H1 ρ1 v x1 R1 G1 r1 h1=>by
   by_cases Y:Q2y B q=true
   ·rw [bO Y] at h1; exact h1.elim
   ·rw [bP Y] at h1;exact ⟨v,.ty T,.type T,_,_,rfl,rfl,Qy8 (by simpa using Y) R1 r1,Qwt X.K hT (dpv B q),now R1 h1 rfl⟩)⟩
end
abbrev GA:=PV->Gam->Option Gam
abbrev GAs:=List PV->Gam->Option Gam
structure SimG (X:Cx) (tg:aD) (ga:GA):Prop where
 run:∀ (Γ Γ':Gam) (σ:St) (H:Hp) (ρ:Tk) (p:PV) (v:V) (Q:St->Hp->Prop),EnvR H ρ Γ σ->Rep H ρ p v->ga p Γ=some Γ'->(∀ σ',EnvR H ρ Γ' σ'->Q σ' H)->∃ t,PG X tg t/\t v σ H Q
structure SimGs (X:Cx) (tgs:List aD) (n:Nat) (ga:GAs):Prop where
 run:∀ (Γ Γ':Gam) (σ:St) (H:Hp) (ρ:Tk) (ps:List PV) (vs:List V) (Q:St->Hp->Prop),EnvR H ρ Γ σ->RepL H ρ ps vs->ga ps Γ=some Γ'->(∀ σ',EnvR H ρ Γ' σ'->Q σ' H)->∃ t,PGs X tgs t/\t vs σ H Q
 len:∀ ps Γ Γ',ga ps Γ=some Γ'->ps.length=n
def Q8 (i:Nat):GA:=fun p Γ=>some (Γ.set i (some p))
def V0:GAs:=fun ps Γ=>match ps with
 | []=>some Γ
 | _=>none
def J1 (g:GA) (gs:GAs):GAs:=fun ps Γ=>match ps with
 | p :: r=>(g p Γ).bind (gs r)
 | []=>none
def Wz (gs:GAs):GA:=fun p Γ=>match p with
 | .tup ps=>gs ps Γ
 | _=>none
section
variable {X:Cx} {pos:Pos}
theorem U5 {i:Nat} {x:Str} (z:X.N.Nodup) (hi:X.N[i]?=some x:=by rfl) (j:Loc X.env.scope x:=by first | exact Or.inl rfl | exact Or.inr rfl) (q:X.fn x=true\/X.env.scope.names.lookup x=some .local:=by first | exact .inl rfl | exact .inr rfl):SimG X (.Name x pos) (Q8 i):=
 ⟨fun Γ B σ H ρ p v Q G r e k=>⟨_,Qrt z hi j q,by cases e; exact k _ (G.set r i)⟩⟩
theorem Qqw:SimGs X [] 0 V0:=⟨fun Γ j σ H ρ ps vs Q G r e k=>⟨_,Qrr,by
 cases ps with
 | nil=>cases e; cases r; exact ⟨rfl,k σ G⟩
 | cons _ _=>cases e⟩,fun ps Γ j e=>by
 cases ps with
 | nil=>rfl
 | cons _ _=>cases e⟩
def WGx (X:Cx) (tg:aD):TG:=fun v σ H Q=>∃ t,PG X tg t/\t v σ H Q
theorem Qrs {tg:aD}:PG X tg (WGx X tg):=fun pins s σ H v u Q I r ⟨t,h,q⟩=>h pins s σ H v u Q I r q
def J2r (X:Cx) (tgs:List aD):TGs:=fun v σ H Q=>∃ t,PGs X tgs t/\t v σ H Q
theorem Qu5 {j:List aD}:PGs X j (J2r X j):=fun pins s σ H v u Q I r ⟨t,h,q⟩=>h pins s σ H v u Q I r q
theorem Qkr {e:aD} {es:List aD} {g:GA} {gs:GAs} {n:Nat} (h1:SimG X e g) (h2:SimGs X es n gs) (hs:(aq (e :: es) X.env).map (·.2)=assign e X.env :: (aq es X.env).map (·.2):=by rfl):SimGs X (e :: es) (n + 1) (J1 g gs):=
 ⟨fun Γ j σ H ρ ps vs Q G r eq k=>⟨_,Qmi Qrs Qu5 hs,by
  cases ps with
  | nil=>cases eq
  | cons p ps=>
   obtain ⟨v,t,rfl,B,z⟩:=r;have eq:(g p Γ).bind (gs ps)=some j:=eq;cases e1:g p Γ with
   | none=>rw [e1] at eq; cases eq
   | some Γ1=>
    rw [e1] at eq;exact ⟨v,t,rfl,h1.run Γ Γ1 σ H ρ p v _ G B e1 fun q I=>h2.run Γ1 j q H ρ ps t _ I z eq k⟩⟩,fun ps Γ j e=>by
  cases ps with
  | nil=>cases e
  | cons p ps=>
   have e:(g p Γ).bind (gs ps)=some j:=e;cases e1:g p Γ with
   | none=>rw [e1] at e; cases e
   | some Γ1=>rw [e1] at e; rw [D8,h2.len ps Γ1 j e]⟩
theorem Qv5 {es:List aD} {k n:Nat} {gs:GAs} (I:X.calm=true) (h:SimGs X es n gs) (O:(aq es X.env).length=n:=by rfl) (z:(aq es X.env).findIdx? (·.1)=none:=by rfl):SimG X (.Tuple es k pos) (Wz gs):=
 ⟨fun Γ j σ H ρ p v Q G r e q=>⟨_,Qvr I Qu5 O z,by
  cases p with
  | tup ps=>
   obtain ⟨a,vs,rfl,J,U,B⟩:=r;exact ⟨a,vs,rfl,SqT.of J,by rw [<- B.length]; exact h.len ps Γ j e,h.run Γ j σ H ρ ps vs Q G B e q⟩
  | _=>cases e⟩⟩
end
abbrev Wt:=List (Nat × Cell)
def wOk (w:Wt) (st:Q0):Prop:=∀ x∈w,st[x.1]?=some x.2
theorem Zu (st:Q0):wOk [] st:=fun x h=>by cases h
structure Src (J:It) (items:List PV) (w:Wt) (H:Hp) (ρ:Tk):Prop where
 stop:∀ H2 ρ2 st2,Ext H ρ H2 ρ2->Rel H2 ρ2 st2->wOk w st2->J.stop items.length H2
 go:∀ H2 ρ2 st2,Ext H ρ H2 ρ2->Rel H2 ρ2 st2->wOk w st2->∀ i,i < items.length->J.go i H2
 yld:∀ H2 ρ2 st2,Ext H ρ H2 ρ2->Rel H2 ρ2 st2->wOk w st2->∀ i p,items[i]?=some p->∀ x H3,J.yld i H2 x H3->Same H2 H3/\Rep H3 ρ2 p x
abbrev MI:=Gam->Q0->Res (List PV × Wt)
structure SimI (X:Cx) (E:XK) (tg iter:aD) (mi:MI):Prop where
 run:∀ (Γ:Gam) (σ:St) (H:Hp) (ρ:Tk) (st:Q0) (P:List PV × Wt->Q0->Hp->Tk->Prop) (R':It->Hp->Prop),Rel H ρ st->EnvR H ρ Γ σ->Acc X.mg E H ρ P (mi Γ st) ->
  (∀ iw st1 H1 ρ1 J,mi Γ st=.ok iw st1->Ext H ρ H1 ρ1->Rel H1 ρ1 st1->EnvR H1 ρ1 Γ σ->wOk iw.2 st1->iw.1.length<=sizeLine->Src J iw.1 iw.2 H1 ρ1->P iw st1 H1 ρ1->R' J H1)->WI X tg iter σ H R'
def Vn (st:Q0):PV->Option (List PV × Wt)
 | .tup xs=>some (xs,[])
 | .lst xs=>some (xs,[])
 | .fro xs=>some (xs,[])
 | .ref i=>match st[i]? with
  | some (.lst xs)=>some (xs,[(i,.lst xs)])
  | _=>none
 | _=>none
theorem Q71 {K:bU} {H:Hp} {ρ:Tk} {st:Q0} {p:PV} {v:V} {xs:List PV} {w:Wt} (R:Rel H ρ st) (r:Rep H ρ p v) (e:Vn st p=some (xs,w)) :
  wOk w st/\∃ (t:Bool) (a:aA),v=.ref a/\(t=true->∃ ys,p=.tup ys)/\(t=false->∀ ys,p≠.tup ys)/\∀ H2 j q,Ext H ρ H2 j->Rel H2 j q->wOk w q->∃ vs,SqK K t H2 a vs/\RepL H2 j xs vs:=by
 cases p with
 | tup ys=>
  obtain ⟨a,vs,rfl,B,G,I⟩:=r;cases e;exact ⟨Zu _,true,a,rfl,fun _=>⟨_,rfl⟩,(fun z=>by cases z),fun H2 j q x R2 _=>⟨vs,show SqT K H2 a vs from SqT.of (x.kp B G),I.ext x⟩⟩
 | lst ys=>
  obtain ⟨a,vs,rfl,B,G,I⟩:=r;cases e;exact ⟨Zu _,false,a,rfl,(fun z=>by cases z),(fun _ _ z=>by cases z),fun H2 j q x R2 _=>⟨vs,show SqL K H2 a vs from SqL.of (x.kp B G),I.ext x⟩⟩
 | fro ys=>
  obtain ⟨a,vs,rfl,B,G,I⟩:=r;cases e;refine ⟨Zu _,false,a,rfl,(fun z=>by cases z),(fun _ _ z=>by cases z),fun H2 j q x R2 _=>⟨vs,show SqL K H2 a vs from ?_,I.ext x⟩⟩
  rcases B with B | ⟨o,B⟩
  ·exact .inl (.inl (x.kp B G))
  ·exact .inl (.inr ⟨o,x.kp B G⟩)
 | ref i=>
  obtain ⟨a,U,rfl⟩:=r;simp only [Vn] at e
  split at e
  ·rename_i ys hs;cases e;refine ⟨fun x Z=>?_,false,a,rfl,(fun z=>by cases z),(fun _ _ z=>by cases z),fun H2 j q x R2 ok=>?_⟩
   ·have:x=(i,.lst xs):=by simpa using Z
    subst this; exact hs
   ·have J:=ok (i,.lst xs) (by simp);obtain ⟨b,vs,O,f2,Y⟩:=R2.lst J;obtain ⟨t,et⟩:=x.pre;rw [<- et,O4 (O0.mp U).1,U] at O;cases O;exact ⟨vs,show SqL K H2 a vs from SqL.of f2,Y⟩
  ·cases e
 | _=>cases e
section
variable {X:Cx} {E:XK} {pos:Pos} {tg:aD} {e:aD} {m:ME}
def Ke (m:ME):MI:=fun Γ st=>(m Γ st).bind fun p st1=>match Vn st1 p with
 | some (xs,w)=>if xs.length<=lim then .ok (xs,w) st1 else .stuck
 | none=>.stuck
theorem RepL.i {H:Hp} {ρ:Tk} {ps:List PV} {vs:List V} {i:Nat} {p:PV} {x:V} (r:RepL H ρ ps vs) (h:ps[i]?=some p) (h':vs[i]?=some x):Rep H ρ p x:=by
 obtain ⟨v,e,q⟩:=r.get h;rw [h'] at e; cases e;exact q
theorem Qgn {K:bU} {H:Hp} {ρ:Tk} {t:Bool} {a:aA} {xs:List PV} {w:Wt} (h:∀ H2 j q,Ext H ρ H2 j->Rel H2 j q->wOk w q->∃ vs,SqK K t H2 a vs/\RepL H2 j xs vs):Src (if t=true then Itt K a else Itl K a) xs w H ρ:=by
 cases t with
 | true=>
  rw [bO rfl];refine ⟨fun H2 j q x R ok=>?_,fun H2 j q x R ok i hi=>?_,fun H2 j q x R ok i p hp y I G=>?_⟩
  ·obtain ⟨vs,s,r⟩:=h H2 j q x R ok;exact ⟨vs,s,by rw [r.length]; exact O7 _⟩
  ·obtain ⟨vs,s,r⟩:=h H2 j q x R ok;have z:i < vs.length:=by rw [<- r.length]; exact hi
   exact ⟨vs,vs[i],s,O5 z⟩
  ·obtain ⟨vs,s,r⟩:=h H2 j q x R ok;obtain ⟨rfl,B⟩:=G;exact ⟨Same.refl _,r.i hp (B vs s)⟩
 | false=>
  rw [bP E5];refine ⟨fun H2 j q x R ok=>?_,fun H2 j q x R ok i hi=>?_,fun H2 j q x R ok i p hp y I G=>?_⟩
  ·obtain ⟨vs,s,r⟩:=h H2 j q x R ok;exact ⟨vs,s,by rw [r.length]; exact O7 _⟩
  ·obtain ⟨vs,s,r⟩:=h H2 j q x R ok;have z:i < vs.length:=by rw [<- r.length]; exact hi
   exact ⟨vs,vs[i],s,O5 z⟩
  ·obtain ⟨vs,s,r⟩:=h H2 j q x R ok;obtain ⟨rfl,B⟩:=G;exact ⟨Same.refl _,r.i hp (B vs s)⟩
theorem Qh2 {mg:Str->Option aB} {H:Hp} {ρ:Tk} {st:Q0} {p:PV} {P:List PV × Wt->Q0->Hp->Tk->Prop} (R:Rel H ρ st) (h:Acc mg E H ρ P (match Vn st p with | some (xs,w)=>if xs.length<=lim then .ok (xs,w) st else .stuck | none=>.stuck)) :
  ∃ xs w,Vn st p=some (xs,w)/\xs.length<=lim/\P (xs,w) st H ρ:=by
 split at h
 ·rename_i xs w e
  split at h
  ·rename_i j;exact ⟨xs,w,e,j,h H ρ (Ext.refl _ _) R⟩
  ·exact h.elim
 ·exact h.elim
theorem Qb7 (ha:SimE X E e m):SimI X E tg e (Ke m):=⟨fun Γ σ H ρ st P R' R G h k=>by
 have Z:Acc X.mg E H ρ _ (m Γ st):=Acc.bind h
 by_cases ht:∃ ys j,m Γ st=.ok (.tup ys) j
 ·obtain ⟨ys,a2,Y⟩:=ht;refine WI.of (Qvq Ye) (ha.use' R G Z fun p j H1 ρ1 v eq U q I J h1=>?_);obtain ⟨xs,w,e,B,O⟩:=Qh2 q h1;obtain ⟨ok,t,a,rfl,t1,t2,z⟩:=Q71 (K:=X.K) q J e;have ep:p=.tup ys:=by rw [eq] at Y; injection Y
  cases t with
  | false=>exact absurd ep (t2 rfl ys)
  | true=>
   obtain ⟨vs,s,_⟩:=z H1 ρ1 j (Ext.refl _ _) q ok;exact ⟨a,rfl,⟨vs,s⟩,k (xs,w) j H1 ρ1 _ (by simp only [Ke,eq,Res.bind,e,bO B]) U q I ok (X1 B) (Qgn z) O⟩
 ·refine WI.of (Qrp Ye) (ha.use' R G Z fun p j H1 ρ1 v eq U q I J h1=>?_);obtain ⟨xs,w,e,B,O⟩:=Qh2 q h1;obtain ⟨ok,t,a,rfl,t1,t2,z⟩:=Q71 (K:=X.K) q J e;cases t with
  | true=>
   obtain ⟨ys,rfl⟩:=t1 rfl;exact absurd ⟨ys,j,eq⟩ ht
  | false=>
   obtain ⟨vs,s,_⟩:=z H1 ρ1 j (Ext.refl _ _) q ok;exact ⟨a,rfl,⟨vs,s⟩,k (xs,w) j H1 ρ1 _ (by simp only [Ke,eq,Res.bind,e,bO B]) U q I ok (X1 B) (Qgn z) O⟩⟩
def Jb (lo:Int) (n:Nat):List PV:=(bS n).map fun (k:Nat)=>PV.int (lo + (k:Int))
theorem Qa0 {H:Hp} {ρ:Tk} {lo:Int} {n:Nat}:Src (Itr lo n) (Jb lo n) [] H ρ:=by
 have z:(Jb lo n).length=n:=by unfold Jb; rw [O2,D5]
 refine ⟨fun H2 q j x R ok=>?_,fun H2 q j x R ok i hi=>?_,fun H2 q j x R ok i p hp y G B=>?_⟩
 ·show n<=(Jb lo n).length;omega
 ·show i < n;omega
 ·obtain ⟨rfl,rfl⟩:=B;have hi:i < n:=by rw [<- z]; exact (O0.mp hp).1
  unfold Jb at hp;rw [E2,E4 hi] at hp;cases hp;exact ⟨Same.refl _,rfl⟩
def J7 (mr:Gam->Q0->Res (List PV)):MI:=fun Γ st=>(mr Γ st).bind fun ps st1=>match ps with
 | [.int j]=>if -(lim:Int)<=j/\j<=lim then .ok (Jb 0 j.toNat,[]) st1 else .stuck
 | _=>.stuck
def Q0h (mr:Gam->Q0->Res (List PV)):MI:=fun Γ st=>(mr Γ st).bind fun ps st1=>match ps with
 | [.int i,.int j]=>if -(lim:Int)<=i/\i<=lim/\-(lim:Int)<=j/\j<=lim then .ok (Jb i (j - i).toNat,[]) st1 else .stuck
 | _=>.stuck
variable {a b:aD} {mr:Gam->Q0->Res (List PV)} {p:Pos}
theorem Q7f (lo:Int) (n:Nat):(Jb lo n).length=n:=by unfold Jb; rw [O2,D5]
theorem V5 (B:Gl X "range") (U:X.mg "range" = none) (O:SimA X E [a] mr) (hs:aM [a] X.env=[(false,aL a X.env)]:=by rfl):SimI X E tg (.Call (.Name "range" p) [a] [] pos) (J7 mr):=⟨fun Γ σ H ρ st P R' R G h k=>by
 refine WI.of (Qie B U Q2t hs) (O.use' R G h.bind fun ps q H1 ρ1 vs eq x1 z J Y h1=>?_)
 split at h1
 ·rename_i j
  split at h1
  ·rename_i Z;obtain ⟨v,rfl,I⟩:=Wa Y;cases I;have hl:(lim:Int)=1000000:=rfl;refine ⟨j,rfl,by omega,by omega,k (Jb 0 j.toNat,[]) q H1 ρ1 _ (by simp only [J7,eq,Res.bind,bO Z]) x1 z J (Zu _) ?_ Qa0 (h1 H1 ρ1 (Ext.refl _ _) z)⟩;show (Jb 0 j.toNat).length<=sizeLine;rw [Q7f];exact X1 (by omega)
  ·exact h1.elim
 ·exact h1.elim⟩
theorem Qhz (I:Gl X "range") (hm:X.mg "range" = none) (Z:SimA X E [a,b] mr) (hs:aM [a,b] X.env=[(false,aL a X.env),(false,aL b X.env)]:=by rfl) (z:aM [b] X.env=[(false,aL b X.env)]:=by rfl):SimI X E tg (.Call (.Name "range" p) [a,b] [] pos) (Q0h mr):=⟨fun Γ σ H ρ st P R' R G h k=>by
 refine WI.of (Qid I hm Q2t hs z) (Z.use' R G h.bind fun ps q H1 ρ1 vs eq Y B O r1 h1=>?_)
 split at h1
 ·rename_i i j
  split at h1
  ·rename_i hj;obtain ⟨v,u,rfl,J,U⟩:=Q1i r1;cases J; cases U;have hl:(lim:Int)=1000000:=rfl;refine ⟨i,j,rfl,⟨by omega,by omega,by omega,by omega⟩,k (Jb i (j - i).toNat,[]) q H1 ρ1 _ (by simp only [Q0h,eq,Res.bind,bO hj]) Y B O (Zu _) ?_ Qa0 (h1 H1 ρ1 (Ext.refl _ _) B)⟩;show (Jb i (j - i).toNat).length<=sizeLine;rw [Q7f];exact F1 (show (j - i).toNat<=2000000 by omega) (by decide)
  ·exact h1.elim
 ·exact h1.elim⟩
def Q5z:List PV->List PV->List PV
 | x :: xs,y :: ys=>.tup [x,y] :: Q5z xs ys
 | _,_=>[]
theorem Qb0 (xs ys:List PV):Q5z xs ys=(xs.zip ys).map fun z=>.tup [z.1,z.2]:=by
 induction xs generalizing ys with
 | nil=>rfl
 | cons x xs j=>
  cases ys with
  | nil=>rfl
  | cons y ys=>rw [Q5z,j]; rfl
theorem Q6s (xs ys:List PV):(Q5z xs ys).length=min xs.length ys.length:=by rw [Qb0,O2,du]
theorem Qjy {xs ys:List PV} {i:Nat} {p:PV} (h:(Q5z xs ys)[i]?=some p):∃ x y,p=.tup [x,y]/\xs[i]?=some x/\ys[i]?=some y:=by
 rw [Qb0,E2] at h;cases e:(xs.zip ys)[i]? with
 | none=>rw [e] at h; cases h
 | some z=>
  rw [e] at h; cases h;rw [cx] at e;exact ⟨z.1,z.2,rfl,e.1,e.2⟩
def Q48 (mr:Gam->Q0->Res (List PV)):MI:=fun Γ st=>(mr Γ st).bind fun ps st1=>match ps with
 | [p,q]=>match Vn st1 p,Vn st1 q with
  | some (xs,w),some (ys,w')=>if xs.length<=lim then .ok (Q5z xs ys,w ++ w') st1 else .stuck
  | _,_=>.stuck
 | _=>.stuck
theorem Q27 {w q:Wt} {st:Q0} (h:wOk (w ++ q) st):wOk w st/\wOk q st:=⟨fun x j=>h x (G8 _ j),fun x j=>h x (F2 _ j)⟩
theorem Qqq {K:bU} {H:Hp} {ρ:Tk} {t1 t2:Bool} {a b:aA} {xs ys:List PV} {w J:Wt} (h:∀ H2 j z,Ext H ρ H2 j->Rel H2 j z->wOk w z->∃ vs,SqK K t1 H2 a vs/\RepL H2 j xs vs)
  (h':∀ H2 j z,Ext H ρ H2 j->Rel H2 j z->wOk J z->∃ vs,SqK K t2 H2 b vs/\RepL H2 j ys vs):Src (Itz K t1 t2 a b) (Q5z xs ys) (w ++ J) H ρ:=by
 refine ⟨fun H2 j z x R ok=>?_,fun H2 j z x R ok i hi=>?_,fun H2 j z x R ok i p hp y H3 U=>?_⟩
 ·obtain ⟨vs,s,r⟩:=h H2 j z x R (Q27 ok).1;obtain ⟨us,s',B⟩:=h' H2 j z x R (Q27 ok).2;refine ⟨vs,us,s,s',?_⟩;rw [Q6s,<- r.length,<- B.length];omega
 ·obtain ⟨vs,s,r⟩:=h H2 j z x R (Q27 ok).1;obtain ⟨us,s',B⟩:=h' H2 j z x R (Q27 ok).2;rw [Q6s,r.length,B.length] at hi;have h1:i < vs.length:=by omega
  have h2:i < us.length:=by omega
  exact ⟨vs,us,vs[i],us[i],s,s',O5 h1,O5 h2⟩
 ·obtain ⟨vs,s,r⟩:=h H2 j z x R (Q27 ok).1;obtain ⟨us,s',B⟩:=h' H2 j z x R (Q27 ok).2;obtain ⟨q,u,v,I,rfl,rfl,O⟩:=U;obtain ⟨e1,e2⟩:=O vs us s s';obtain ⟨Z,yp,rfl,Y,p2⟩:=Qjy hp;have G:Same H2 (upd H2 q (.tup [u,v])):=Qcu I;exact ⟨G,q,[u,v],rfl,J5,R.fresh I,RepL.cons ((r.i Y e1).ext (Ext.same G)) (RepL.cons ((B.i p2 e2).ext (Ext.same G)) RepL.nil)⟩
theorem Qv4 {I:List aD} {kt:Nat} {tp:Pos} (hg:Gl X "zip") (hm:X.mg "zip" = none) (ha:SimA X E [a,b] mr) (hs:aM [a,b] X.env=[(false,aL a X.env),(false,aL b X.env)]:=by rfl) (a4:aM [b] X.env=[(false,aL b X.env)]:=by rfl) :
  SimI X E (.Tuple I kt tp) (.Call (.Name "zip" p) [a,b] [] pos) (Q48 mr):=⟨fun Γ σ H ρ st P R' R G h k=>by
 have hb:Acc X.mg E H ρ _ (mr Γ st):=Acc.bind h;have B:∀ t1 t2:Bool,(∀ p q j,mr Γ st=.ok [p,q] j->(t1=true <-> ∃ ys,p=.tup ys)/\(t2=true <-> ∃ ys,q=.tup ys))->WI X (.Tuple I kt tp) (.Call (.Name "zip" p) [a,b] [] pos) σ H R':=fun t1 t2 ht=>by
  refine WI.of (Qvn t1 t2 hg hm Q2t hs a4) (ha.use' R G hb fun ps j H1 ρ1 vs eq x1 J G1 r1 h1=>?_)
  split at h1
  ·rename_i p' q'
   split at h1
   ·rename_i xs w ys w' e1 e2
    split at h1
    ·rename_i hl;obtain ⟨v,u,rfl,rv,ru⟩:=Q1i r1;obtain ⟨Z,b1,a1,rfl,z1,b0,U⟩:=Q71 (K:=X.K) J rv e1;obtain ⟨Y,b2,a2,rfl,z2,a8,a3⟩:=Q71 (K:=X.K) J ru e2;obtain ⟨g1,g2⟩:=ht _ _ _ eq;have a6:b1=t1:=by
      cases b1 with
      | true=>exact (g1.mpr (z1 rfl)).symm
      | false=>
       cases t1 with
       | false=>rfl
       | true=>obtain ⟨ys,e⟩:=g1.mp rfl; exact absurd e (b0 rfl ys)
     have a9:b2=t2:=by
      cases b2 with
      | true=>exact (g2.mpr (z2 rfl)).symm
      | false=>
       cases t2 with
       | false=>rfl
       | true=>obtain ⟨ys,e⟩:=g2.mp rfl; exact absurd e (a8 rfl ys)
     subst a6; subst a9;obtain ⟨a5,s1,_⟩:=U H1 ρ1 j (Ext.refl _ _) J Z;obtain ⟨a7,s2,_⟩:=a3 H1 ρ1 j (Ext.refl _ _) J Y;refine ⟨a1,a2,a5,a7,rfl,s1,s2,k (Q5z xs ys,w ++ w') j H1 ρ1 _ (by simp only [Q48,eq,Res.bind,e1,e2,bO hl]) x1 J G1 (fun x O=>?_) ?_ (Qqq U a3) (h1 H1 ρ1 (Ext.refl _ _) J)⟩
     ·rcases F6.mp O with O | O
      ·exact Z x O
      ·exact Y x O
     ·show (Q5z xs ys).length<=sizeLine;rw [Q6s];exact X1 (F1 (gQ _ _) hl)
    ·exact h1.elim
   ·exact h1.elim
  ·exact h1.elim
 have tt:∀ p:PV,∃ t:Bool,t=true <-> ∃ ys,p=.tup ys:=fun p=>by
  cases p with
  | tup ys=>exact ⟨true,fun _=>⟨ys,rfl⟩,fun _=>rfl⟩
  | _=>exact ⟨false,⟨fun z=>(by cases z),fun ⟨_,z⟩=>(by cases z)⟩⟩
 by_cases hz:∃ p q j,mr Γ st=.ok [p,q] j
 ·obtain ⟨p0,q0,b3,e0⟩:=hz;obtain ⟨t1,g1⟩:=tt p0;obtain ⟨t2,g2⟩:=tt q0;refine B t1 t2 fun p q j e=>?_
  rw [e0] at e; cases e;exact ⟨g1,g2⟩
 ·exact B true true fun p q j e=>absurd ⟨p,q,j,e⟩ hz⟩
def qd:Nat->List PV->List PV
 | _,[]=>[]
 | n,x :: xs=>.tup [.int n,x] :: qd (n + 1) xs
theorem Q2h:∀ (n:Nat) (xs:List PV),(qd n xs).length=xs.length
 | _,[]=>rfl
 | n,x :: xs=>by rw [qd,D8,Q2h (n + 1) xs,D8]
theorem Qap:∀ {n:Nat} {xs:List PV} {i:Nat} {p:PV},(qd n xs)[i]?=some p->∃ x,p=.tup [.int (n + i:Nat),x]/\xs[i]?=some x
 | n,[],i,p,h=>by simp [qd] at h
 | n,x :: xs,0,p,h=>by
  simp [qd] at h;exact ⟨x,h.symm,rfl⟩
 | n,x :: xs,i + 1,p,h=>by
  rw [qd,gR] at h;obtain ⟨y,e1,e2⟩:=Qap h;exact ⟨y,by rw [e1,show n + 1 + i=n + (i + 1) by omega],by simpa using e2⟩
def Q89 (mr:Gam->Q0->Res (List PV)):MI:=fun Γ st=>(mr Γ st).bind fun ps st1=>match ps with
 | [p]=>match Vn st1 p with
  | some (xs,w)=>if xs.length<=lim then .ok (qd 0 xs,w) st1 else .stuck
  | none=>.stuck
 | _=>.stuck
theorem Qkn {K:bU} {H:Hp} {ρ:Tk} {t:Bool} {a:aA} {xs:List PV} {w:Wt} (h:∀ H2 j z,Ext H ρ H2 j->Rel H2 j z->wOk w z->∃ vs,SqK K t H2 a vs/\RepL H2 j xs vs):Src (Ite K t a) (qd 0 xs) w H ρ:=by
 refine ⟨fun H2 j z x R ok=>?_,fun H2 j z x R ok i hi=>?_,fun H2 j z x R ok i p hp y Y O=>?_⟩
 ·obtain ⟨vs,s,r⟩:=h H2 j z x R ok;exact ⟨vs,s,by rw [Q2h,r.length]; exact O7 _⟩
 ·obtain ⟨vs,s,r⟩:=h H2 j z x R ok;rw [Q2h,r.length] at hi;exact ⟨vs,vs[i],s,O5 hi⟩
 ·obtain ⟨vs,s,r⟩:=h H2 j z x R ok;obtain ⟨q,u,G,rfl,rfl,I⟩:=O;have e1:=I vs s;obtain ⟨U,rfl,J⟩:=Qap hp;have B:Same H2 (upd H2 q (.tup [.int i,u])):=Qcu G;exact ⟨B,q,[.int i,u],rfl,J5,R.fresh G,RepL.cons (by rw [gS]; rfl) (RepL.cons ((r.i J e1).ext (Ext.same B)) RepL.nil)⟩
theorem Qqv {B:List aD} {kt:Nat} {tp:Pos} (hg:Gl X "enumerate") (hm:X.mg "enumerate" = none) (ha:SimA X E [a] mr) (hs:aM [a] X.env=[(false,aL a X.env)]:=by rfl) :
  SimI X E (.Tuple B kt tp) (.Call (.Name "enumerate" p) [a] [] pos) (Q89 mr):=⟨fun Γ σ H ρ st P R' R G h k=>by
 have hb:Acc X.mg E H ρ _ (mr Γ st):=Acc.bind h;have q:∀ t1:Bool,(∀ p j,mr Γ st=.ok [p] j->(t1=true <-> ∃ ys,p=.tup ys))->WI X (.Tuple B kt tp) (.Call (.Name "enumerate" p) [a] [] pos) σ H R':=fun t1 ht=>by
  refine WI.of (Qrq t1 hg hm Q2t hs) (ha.use' R G hb fun ps j H1 ρ1 vs eq x1 O G1 r1 h1=>?_)
  split at h1
  ·rename_i p'
   split at h1
   ·rename_i xs w e1
    split at h1
    ·rename_i hl;obtain ⟨v,rfl,rv⟩:=Wa r1;obtain ⟨J,b1,a1,rfl,z1,a2,I⟩:=Q71 (K:=X.K) O rv e1;have U:=ht _ _ eq;have Z:b1=t1:=by
      cases b1 with
      | true=>exact (U.mpr (z1 rfl)).symm
      | false=>
       cases t1 with
       | false=>rfl
       | true=>obtain ⟨ys,e⟩:=U.mp rfl; exact absurd e (a2 rfl ys)
     subst Z;obtain ⟨Y,s1,_⟩:=I H1 ρ1 j (Ext.refl _ _) O J;refine ⟨a1,Y,rfl,s1,k (qd 0 xs,w) j H1 ρ1 _ (by simp only [Q89,eq,Res.bind,e1,bO hl]) x1 O G1 J ?_ (Qkn I) (h1 H1 ρ1 (Ext.refl _ _) O)⟩;show (qd 0 xs).length<=sizeLine;rw [Q2h];exact X1 hl
    ·exact h1.elim
   ·exact h1.elim
  ·exact h1.elim
 have tt:∀ p:PV,∃ t:Bool,t=true <-> ∃ ys,p=.tup ys:=fun p=>by
  cases p with
  | tup ys=>exact ⟨true,fun _=>⟨ys,rfl⟩,fun _=>rfl⟩
  | _=>exact ⟨false,⟨fun z=>(by cases z),fun ⟨_,z⟩=>(by cases z)⟩⟩
 by_cases hz:∃ p j,mr Γ st=.ok [p] j
 ·obtain ⟨p0,a3,e0⟩:=hz;obtain ⟨t1,U⟩:=tt p0;refine q t1 fun p j e=>?_
  rw [e0] at e; cases e;exact U
 ·exact q true fun p j e=>absurd ⟨p,j,e⟩ hz⟩
end
section
abbrev ML:=Gam->Q0->Res (List PV)
structure SimN (X:Cx) (E:XK) (e:aD) (m:ML):Prop where
 run:∀ (Γ:Gam) (σ:St) (H:Hp) (ρ:Tk) (st:Q0) (P:List PV->Q0->Hp->Tk->Prop) (Q:VK),Rel H ρ st->EnvR H ρ Γ σ->Acc X.mg E H ρ P (m Γ st) ->
  (∀ ps st1 H1 ρ1 a vs,m Γ st=.ok ps st1->Ext H ρ H1 ρ1->Rel H1 ρ1 st1->a∈ρ1.hid->H a=none->H1 a=some (.lst vs)->RepL H1 ρ1 ps vs->Q (.ref a) H1)->WE X e σ H Q
def Yz (m:ML):ME:=fun Γ st=>(m Γ st).bind fun ps st1=>.ok (.lst ps) st1
def y0 (m:ML):ME:=fun Γ st=>(m Γ st).bind fun ps st1=>.ok (.ref st1.length) (st1 ++ [.lst ps])
section
variable {H0 H:Hp} {ρ0 ρ:Tk} {st:Q0} {a:aA} {ps:List PV} {vs:List V}
theorem Qgw (q:Rel H0 ρ0 st) (x:Ext H0 ρ0 H ρ) {j:Q0} (R:Rel H ρ j) (B:a∈ρ.hid) (G:H0 a=none) (I:H a=some (.lst vs)) (r:RepL H ρ ps vs) :
  Ext H0 ρ0 H ⟨ρ.tr,ρ0.hid⟩/\Rel H ⟨ρ.tr,ρ0.hid⟩ j/\Rep H ⟨ρ.tr,ρ0.hid⟩ (.lst ps) (.ref a):=
 ⟨x.unhide,R.unhide x.hidM,a,vs,rfl,I,(fun z=>by
  rcases z with z | z
  ·exact R.ap a B z
  ·obtain ⟨o,e,_⟩:=q.hd a z;rw [G] at e; cases e),r.unhide x.hidM⟩
mutual
theorem Rep.trk {b:aA} {hs:List aA} (q:b∈ρ.hid) (j:∀ c,c∈hs->c∈ρ.hid):∀ {p:PV} {v:V},Rep H ρ p v->Rep H ⟨ρ.tr ++ [b],hs⟩ p v
 | .non,_,r=>r
 | .bl _,_,r=>r
 | .int _,_,r=>r
 | .str _,_,r=>r
 | .tup ps,v,⟨c,vs,e,s,n,r⟩=>⟨c,vs,e,s,fun z=>by
   rcases z with z | z
   ·rcases F6.mp z with z | z
    ·exact n (.inl z)
    ·have:c=b:=by simpa using z
     subst this; exact n (.inr q)
   ·exact n (.inr (j _ z)),RepL.trk q j r⟩
 | .lst ps,v,⟨c,vs,e,s,n,r⟩=>⟨c,vs,e,s,fun z=>by
   rcases z with z | z
   ·rcases F6.mp z with z | z
    ·exact n (.inl z)
    ·have:c=b:=by simpa using z
     subst this; exact n (.inr q)
   ·exact n (.inr (j _ z)),RepL.trk q j r⟩
 | .fro ps,v,⟨c,vs,e,s,n,r⟩=>⟨c,vs,e,s,fun z=>by
   rcases z with z | z
   ·rcases F6.mp z with z | z
    ·exact n (.inl z)
    ·have:c=b:=by simpa using z
     subst this; exact n (.inr q)
   ·exact n (.inr (j _ z)),RepL.trk q j r⟩
 | .ref i,v,⟨c,e,e2⟩=>⟨c,by show (ρ.tr ++ [b])[i]?=some c; rw [O4 (O0.mp e).1]; exact e,e2⟩
 | .dic,v,⟨c,e,s,n⟩=>⟨c,e,s,fun z=>by
   rcases z with z | z
   ·rcases F6.mp z with z | z
    ·exact n (.inl z)
    ·have:c=b:=by simpa using z
     subst this; exact n (.inr q)
   ·exact n (.inr (j _ z))⟩
theorem RepL.trk {b:aA} {hs:List aA} (q:b∈ρ.hid) (j:∀ c,c∈hs->c∈ρ.hid):∀ {ps:List PV} {vs:List V},RepL H ρ ps vs->RepL H ⟨ρ.tr ++ [b],hs⟩ ps vs
 | [],_,r=>r
 | p :: ps,_,⟨v,t,e,z,B⟩=>⟨v,t,e,Rep.trk q j z,RepL.trk q j B⟩
end
theorem Qs2 (Z:Rel H0 ρ0 st) (x:Ext H0 ρ0 H ρ) {j:Q0} (R:Rel H ρ j) (G:a∈ρ.hid) (U:H0 a=none) (ha:H a=some (.lst vs)) (r:RepL H ρ ps vs) :
  Ext H0 ρ0 H ⟨ρ.tr ++ [a],ρ0.hid⟩/\Rel H ⟨ρ.tr ++ [a],ρ0.hid⟩ (j ++ [.lst ps])/\Rep H ⟨ρ.tr ++ [a],ρ0.hid⟩ (.ref j.length) (.ref a):=by
 have J:a∉ρ0.hid:=fun z=>by
  obtain ⟨o,e,_⟩:=Z.hd a z;rw [U] at e; cases e
 refine ⟨⟨x.pre.trans (dM _ _),fun _ h=>h,fun _ h=>.inl h,x.keep,fun b B=>?_,x.old,x.frz⟩,⟨?_,?_,fun b B=>R.hd b (x.hidM b B),fun b B z=>?_,fun i b c h1 h2=>?_⟩,a,?_,rfl⟩
 ·rcases F6.mp B with z | z
  ·exact x.new b z
  ·have:b=a:=by simpa using z
   subst this; exact .inr U
 ·show (ρ.tr ++ [a]).length=_;rw [O6,O6,R.len]; rfl
 ·show (ρ.tr ++ [a]).Nodup;refine dm.mpr ⟨R.nd,by simp,fun b B c Y e=>?_⟩;have:c=a:=by simpa using Y
  subst this; subst e;exact R.ap b G B
 ·rcases F6.mp z with z | z
  ·exact R.ap b (x.hidM b B) z
  ·have:b=a:=by simpa using z
   subst this; exact J B
 ·have h1:(ρ.tr ++ [a])[i]?=some b:=h1
  by_cases hi:i < j.length
  ·rw [O4 (by rw [R.len]; exact hi)] at h1;rw [O4 hi] at h2;have q:=R.cell i b c h1 h2;cases c with
   | lst I=>
    obtain ⟨us,e1,e2⟩:=q;exact ⟨us,e1,e2.trk G x.hidM⟩
   | dic I=>
    obtain ⟨us,e1,e2⟩:=q;exact ⟨us,e1,e2.1,e2.2.trk G x.hidM⟩
   | dtp I=>
    obtain ⟨us,e1,e2⟩:=q;exact ⟨us,e1,e2.1,e2.2.trk G x.hidM⟩
   | frd I=>
    obtain ⟨us,e1,e2⟩:=q;exact ⟨us,e1,e2.1,e2.2.trk G x.hidM⟩
   | obj C I=>
    obtain ⟨us,e1,e2⟩:=q;exact ⟨us,e1,e2.1,e2.2.trk G x.hidM⟩
  ·rw [D2 (by rw [R.len]; omega)] at h1;rw [D2 (by omega)] at h2;have O:i - j.length=0:=by
    rcases fG (i - j.length) with z | z
    ·exact z
    ·rw [F3 (by simp; omega)] at h2; cases h2
   rw [R.len,O] at h1;rw [O] at h2;simp at h1 h2;subst h1; subst h2;exact ⟨vs,ha,r.trk G x.hidM⟩
 ·show (ρ.tr ++ [a])[j.length]?=some a;rw [<- R.len,D2 (O7 _),cY]; rfl
end
section
variable {X:Cx} {E:XK} {pos:Pos} {e:aD} {m:ML}
theorem Q75 (h:SimN X E e m):SimE X E e (Yz m):=⟨fun Γ σ H ρ st Q R G j=>h.run Γ σ H ρ st _ Q R G j.bind fun ps B H1 ρ1 a vs eq x U z I J r=>by
 obtain ⟨O,R2,q⟩:=Qgw R x U z I J r;unfold Yz at j;rw [eq] at j;exact j _ _ O R2 _ q⟩
theorem Qkt (h:SimN X E e m):SimE X E e (y0 m):=⟨fun Γ σ H ρ st Q R G j=>h.run Γ σ H ρ st _ Q R G j.bind fun ps B H1 ρ1 a vs eq x U z I J r=>by
 obtain ⟨O,R2,q⟩:=Qs2 R x U z I J r;unfold y0 at j;rw [eq] at j;exact j _ _ O R2 _ q⟩
variable {es:List aD} {mr:Gam->Q0->Res (List PV)} {a b:aD} {ma mb:ME}
theorem Qna {H1:Hp} {ρ1:Tk} {j:Q0} {H:Hp} {ρ:Tk} {Q:VK} {ps:List PV} {vs:List V} (x:Ext H ρ H1 ρ1) (z:Rel H1 ρ1 j) (r:RepL H1 ρ1 ps vs)
  (k:∀ H1 ρ1 a vs,Ext H ρ H1 ρ1->Rel H1 ρ1 j->a∈ρ1.hid->H a=none->H1 a=some (.lst vs)->RepL H1 ρ1 ps vs->Q (.ref a) H1):∀ p,H1 p=none->Q (.ref p) (upd H1 p (.lst vs)):=fun p hp=>by
 refine k _ (ρ1.hide p) p vs (x.trans (Ext.hide hp)) (z.hide hp) D6 ?_ J5 (r.hide hp);cases e:H p with
 | none=>rfl
 | some o=>
  obtain ⟨o',q⟩:=x.old p o e;rw [hp] at q; cases q
def z9 (mr:Gam->Q0->Res (List PV)):ML:=fun Γ st=>(mr Γ st).bind fun ps st1=>if ps.length<=lim then .ok ps st1 else .stuck
theorem Qv1 (h:SimA X E es mr):SimN X E (.List es pos) (z9 mr):=
 ⟨fun Γ σ H ρ st P Q R G I k=>WE.of (Qmp Q2t) (h.use' R G I.bind fun ps j H1 ρ1 vs eq J O U B h1=>by
  by_cases z:ps.length<=lim
  ·refine ⟨by rw [<- B.length]; exact X1 z,Qna J O B fun H2 q a us=>k ps j H2 q a us ?_⟩;unfold z9;rw [eq];exact bO z
  ·rw [bP z] at h1; exact h1.elim)⟩
def Qh0 (st:Q0) (p q:PV):Res (List PV):=match U2 st p,U2 st q with
 | some xs,some ys=>if xs.length + ys.length<=lim then .ok (xs ++ ys) st else .stuck
 | _,_=>.stuck
def Qaf (ma mb:ME):ML:=fun Γ st=>(ma Γ st).bind fun x st1=>(mb Γ st1).bind fun y st2=>Qh0 st2 x y
theorem Qv2 (ha:SimE X E a ma) (hb:SimE X E b mb):SimN X E (.BinOp a .Add b pos) (Qaf ma mb):=
 ⟨fun Γ σ H ρ st P Q R G hq k=>WE.of (Qu6 Qn0 Ye Ye) (ha.use' R G hq.bind fun p z H1 ρ1 v e1 Y R1 G1 r1 h1=>hb.use' R1 G1 h1.bind fun q j H2 a2 u e2 O R2 G2 r2 h2=>by
  unfold Qh0 at h2
  split at h2
  ·rename_i xs ys I J
   split at h2
   ·rename_i U;obtain ⟨c,vs,rfl,hc,rc⟩:=Q3q R2 (r1.ext O) I;obtain ⟨d,us,rfl,hd,rd⟩:=Q3q R2 r2 J;refine ⟨c,d,vs,us,rfl,rfl,hc,hd,by rw [<- rc.length,<- rd.length]; exact X1 U,Qna (Y.trans O) R2 (rc.append rd) fun H3 B a Z=>k (xs ++ ys) j H3 B a Z ?_⟩;unfold Qaf Qh0;rw [e1];show (mb Γ z).bind _=_;rw [e2];show (match U2 j p,U2 j q with | some xs,some ys=>if xs.length + ys.length<=lim then Res.ok (xs ++ ys) j else .stuck | _,_=>.stuck)=_
    rw [I,J];exact bO U
   ·exact h2.elim
  ·exact h2.elim)⟩
end
end
def Jx (cap:List (Option Nat)) (Γ:Gam):Gam:=cap.map fun c=>c.bind fun j=>(Γ[j]?).join
theorem EnvR.cap {H:Hp} {ρ:Tk} {Γ:Gam} {σ:St} (h:EnvR H ρ Γ σ) (cap:List (Option Nat)):EnvR H ρ (Jx cap Γ) (Q4i cap σ):=by
 refine ⟨by unfold Jx Q4i; rw [O2,O2],fun i p e=>?_⟩;unfold Jx at e;unfold Q4i;rw [E2] at e ⊢;cases q:cap[i]? with
 | none=>rw [q] at e; cases e
 | some c=>
  rw [q] at e;cases c with
  | none=>cases e
  | some j=>
   have z:(Γ[j]?).join=some p:=bf e;cases r:Γ[j]? with
   | none=>rw [r] at z; cases z
   | some o=>
    rw [r] at z;have:o=some p:=z;subst this;obtain ⟨v,e1,e2⟩:=h.2 j p r;exact ⟨v,by show some ((σ[j]?).join)=some (some v); rw [e1]; rfl,e2⟩
def Q5y (cap:List (Option Nat)) (ga:GA):Prop:=∀ Γ p Γ1,ga p (Jx cap Γ)=some Γ1->Γ1.length=(Jx cap Γ).length/\∀ (i:Nat) (q:PV),(Jx cap Γ)[i]?=some (some q)->Γ1[i]?=some (some q)
theorem Qat {cap:List (Option Nat)} {i:Nat} (h:cap[i]?=some none) (Γ:Gam):(Jx cap Γ)[i]?=some none:=by
 unfold Jx;rw [E2,h]; rfl
theorem V6 {cap:List (Option Nat)} {i:Nat} (h:cap[i]?=some none:=by rfl):Q5y cap (Q8 i):=fun Γ p Γ1 e=>by
 cases e;refine ⟨D9 ..,fun j q B=>?_⟩;rw [O9 fun z=>?_]
 ·exact B
 ·subst z; rw [Qat h] at B; cases B
def Qhp (cap:List (Option Nat)) (ga:GAs):Prop:=∀ Γ ps Γ0 Γ1,(∀ (i:Nat) (q:PV),(Jx cap Γ)[i]?=some (some q)->Γ0[i]?=some (some q))->ga ps Γ0=some Γ1->Γ1.length=Γ0.length/\∀ (i:Nat) (q:PV),(Jx cap Γ)[i]?=some (some q)->Γ1[i]?=some (some q)
theorem Qp1 {cap:List (Option Nat)}:Qhp cap V0:=fun Γ ps Γ0 Γ1 h e=>by
 cases ps with
 | nil=>cases e; exact ⟨rfl,h⟩
 | cons _ _=>cases e
theorem Qja {cap:List (Option Nat)} {i:Nat} {gs:GAs} (hs:Qhp cap gs) (h:cap[i]?=some none:=by rfl):Qhp cap (J1 (Q8 i) gs):=fun Γ ps Γ0 Γ1 h0 e=>by
 cases ps with
 | nil=>cases e
 | cons p ps=>
  obtain ⟨a,b⟩:=hs Γ ps (Γ0.set i (some p)) Γ1 (fun k r j=>by
   rw [O9 fun z=>?_]
   ·exact h0 k r j
   ·subst z; rw [Qat h] at j; cases j) e
  exact ⟨by rw [a,D9],b⟩
theorem Qp0 {cap:List (Option Nat)} {gs:GAs} (hs:Qhp cap gs):Q5y cap (Wz gs):=fun Γ p Γ1 e=>by
 cases p with
 | tup ps=>exact hs Γ ps _ Γ1 (fun _ _ h=>h) e
 | _=>cases e
open Classical in
def Qw (ga:GA) (mt:MT) (me:ME) (w:Wt) (Γ0:Gam):List PV->Q0->Res (List PV)
 | [],st=>if wOk w st then .ok [] st else .stuck
 | x :: xs,st=>if wOk w st then (match ga x Γ0 with
  | none=>.stuck
  | some Γ1=>(mt Γ1 st).bind fun b st1=>if b=true then (me Γ1 st1).bind fun y st2=>(Qw ga mt me w Γ0 xs st2).bind fun ys st3=>.ok (y :: ys) st3 else Qw ga mt me w Γ0 xs st1) else .stuck
def noX {α:Type}:Res α->Res α
 | .exc _ _=>.stuck
 | r=>r
def Qs (cap:List (Option Nat)) (ga:GA) (mi:MI) (mt:MT) (me:ME):ML:=fun Γ st=>(mi Γ st).bind fun iw st1=>noX (Qw ga mt me iw.2 (Jx cap Γ) iw.1 st1)
structure SimTs (X:Cx) (ifs:List aD) (m:MT):Prop where
 run:∀ (Γ:Gam) (σ:St) (H:Hp) (ρ:Tk) (st:Q0) (P:Bool->Q0->Hp->Tk->Prop) (Q:Bool->Hp->Prop),Rel H ρ st->EnvR H ρ Γ σ->Acc X.mg E0 H ρ P (m Γ st) ->
  (∀ b st1 H1 ρ1,m Γ st=.ok b st1->Ext H ρ H1 ρ1->Rel H1 ρ1 st1->EnvR H1 ρ1 Γ σ->Q b H1)->∃ t,PTs X ifs t/\t σ H Q
def Qp:MT:=fun _ st=>.ok true st
theorem K4 {X:Cx}:SimTs X [] Qp:=⟨fun Γ σ H ρ st P Q R G h k=>⟨_,Qrh,k true st H ρ rfl (Ext.refl _ _) R G⟩⟩
theorem Qqp {X:Cx} {c:aD} {m:MT} (q:SimT X E0 c m):SimTs X [c] m:=⟨fun Γ σ H ρ st P Q R G h k=>⟨_,Qrg Qd0,q.use' R G h fun b j H1 ρ1 e B I z p=>k b j H1 ρ1 e B I z⟩⟩
theorem Qtv {α:Type} {mg:Str->Option aB} {E E':XK} {H:Hp} {ρ:Tk} {P:α->Q0->Hp->Tk->Prop} {r:Res α} (h:Acc mg E H ρ P (noX r)):Acc mg E' H ρ P r:=by
 cases r with
 | ok a st=>exact h
 | exc x st=>exact h.elim
 | stuck=>exact h
theorem Res.assoc {α β j:Type} (r:Res α) (f:α->Q0->Res β) (g:β->Q0->Res j):(r.bind f).bind g=r.bind fun a st=>(f a st).bind g:=by cases r <;> rfl
theorem Acc.assoc {α β j:Type} {mg:Str->Option aB} {E:XK} {H:Hp} {ρ:Tk} {P:j->Q0->Hp->Tk->Prop} {r:Res α} {f:α->Q0->Res β} {g:β->Q0->Res j} (h:Acc mg E H ρ P ((r.bind f).bind g)):Acc mg E H ρ P (r.bind fun a st=>(f a st).bind g):=by
 rw [<- Res.assoc]; exact h
theorem EnvR.le {H:Hp} {ρ:Tk} {Γ j:Gam} {σ:St} (h:EnvR H ρ j σ) (z:Γ.length=σ.length) (k:∀ (i:Nat) (q:PV),Γ[i]?=some (some q)->j[i]?=some (some q)):EnvR H ρ Γ σ:=⟨z,fun i p e=>h.2 i p (k i p e)⟩
section
variable {X:Cx} {E:XK} {pos:Pos} {tg iter elt:aD} {ifs:List aD} {N N':List Str} {sc scE:Scope} {cap:List (Option Nat)} {ga:GA} {mi:MI} {mt:MT} {me:ME}
def aE (X:Cx) (N':List Str) (sc:Scope) (e:aD):TE:=fun σ H Q=>∀ cl C s0 H0 ex,WE (Vi X N' sc cl C s0 H0 ex) e σ H Q
def aG (X:Cx) (N':List Str) (sc:Scope) (tg:aD):TG:=fun v σ H Q=>∀ cl C s0 H0 ex,WGx (Vi X N' sc cl C s0 H0 ex) tg v σ H Q
def aT (X:Cx) (N':List Str) (sc:Scope) (ifs:List aD):TT:=fun σ H Q=>∀ cl C s0 H0 ex,∃ t,PTs (Vi X N' sc cl C s0 H0 ex) ifs t/\t σ H Q
theorem Qjc {Γ:Gam} {σ:St} {H1:Hp} {ρ1:Tk} {O:Q0} {J:It} {j:List PV} {w:Wt} {Q:VK} {P:List PV->Q0->Hp->Tk->Prop} (hg:∀ cl C s0 H0 ex,SimG (Vi X N' sc cl C s0 H0 ex) tg ga) (he:∀ cl C s0 H0 ex,SimE (Vi X N' sc cl C s0 H0 ex) E0 elt me) (ht:∀ cl C s0 H0 ex,SimTs (Vi X N' sc cl C s0 H0 ex) ifs mt)
  (hf:Q5y cap ga) (R1:Rel H1 ρ1 O) (G1:EnvR H1 ρ1 Γ σ) (src:Src J j w H1 ρ1) (c3:j.length<=sizeLine) (h:Acc X.mg E0 H1 ρ1 P (Qw ga mt me w (Jx cap Γ) j O))
  (k:∀ ys b4 H2 a5 q vs,Qw ga mt me w (Jx cap Γ) j O=.ok ys b4->Ext H1 ρ1 H2 a5->Rel H2 a5 b4->q∈a5.hid->H1 q=none->H2 q=some (.lst vs)->RepL H2 a5 ys vs->Q (.ref q) H2):Qar J cap (aG X N' sc tg) (aT X N' sc ifs) (aE X N' sc elt) σ H1 Q:=by
 intro q B;let W:Nat->Nat->List V->St->Hp->Prop:=fun i m vs a8 H'=>m=j.length - i/\i<=j.length/\vs.length<=i/\∃ ρ' st' ys,Ext H1 ρ1 H' ρ'/\q∈ρ'.hid/\Rel H' ρ' st'/\EnvR H' ρ' (Jx cap Γ) a8/\H' q=some (.lst vs)/\RepL H' ρ' ys vs /\
  Qw ga mt me w (Jx cap Γ) j O=(Qw ga mt me w (Jx cap Γ) (j.drop i) st').bind fun zs Y=>.ok (ys ++ zs) Y
 refine ⟨W,⟨_,rfl,cg _,O7 _,ρ1.hide q,O,[],Ext.hide B,D6,R1.hide B,(G1.cap cap).hide B,J5,rfl,?_⟩,?_⟩
 ·rw [dq];cases r:Qw ga mt me w (Jx cap Γ) j O with
  | ok zs Y=>rfl
  | exc x Y=>rfl
  | stuck=>rfl
 rintro i m vs a8 H' ⟨hm,hi,c4,ρ',st',ys,x,a2,R',G',ha,ry,I⟩;have G:Acc X.mg E0 H1 ρ1 P ((Qw ga mt me w (Jx cap Γ) (j.drop i) st').bind fun zs Y=>.ok (ys ++ zs) Y):=by rw [<- I]; exact h
 refine ⟨ha,?_⟩
 by_cases Z:i < j.length
 ·right
  have hd:j.drop i=j[i] :: j.drop (i + 1):=gT Z;rw [hd,Qw] at G I
  by_cases hw:wOk w st'
  ·rw [bO hw] at G I;refine ⟨src.go H' _ st' x R' hw i Z,by omega,fun y H2 hy=>?_⟩;obtain ⟨sm,c1⟩:=src.yld H' _ st' x R' hw i _ (O5 Z) y H2 hy;cases eg:ga j[i] (Jx cap Γ) with
   | none=>rw [eg] at G; exact G.elim
   | some Γ1=>
    rw [eg] at G I;have x2:Ext H' ρ' H2 ρ':=Ext.same sm;have R2:=R'.same sm;intro cl C s0 H0 ex;refine (hg cl C s0 H0 ex).run (Jx cap Γ) Γ1 a8 H2 ρ' _ y _ (G'.ext x2) c1 eg fun a6 G3=>?_
    intro cl C s0 H0 ex;have c0:=Acc.later G (x.trans x2);refine (ht cl C s0 H0 ex).run Γ1 a6 H2 ρ' st' _ _ R2 G3 (Acc.bind (Acc.assoc c0)) fun b c2 H4 a3 e4 x4 R4 G4=>?_
    simp only [e4,Res.bind] at G I;have G0:∀ {b0:Hp} {U:Tk},EnvR b0 U Γ1 a6->EnvR b0 U (Jx cap Γ) a6:=fun {b0 U} g=>g.le (by
     rw [<- G3.1];exact (hf Γ _ Γ1 eg).1.symm) (hf Γ _ Γ1 eg).2
    have a9:Ext H1 ρ1 H4 a3:=x.trans (x2.trans x4);have a7:q∈a3.hid:=x4.hidM q a2;have na:q∉ρ'.tr:=R'.ap q a2;have b3:H4 q=some (.lst vs):=x4.keep q _ (sm q _ ha) na;have b6:RepL H4 a3 ys vs:=ry.ext (x2.trans x4);cases b with
    | false=>
     rw [bP E5] at G I ⊢;exact ⟨_,show j.length - (i + 1) < m by omega,rfl,Z,by omega,a3,c2,ys,a9,a7,R4,G0 G4,b3,b6,I⟩
    | true=>
     rw [bO rfl] at G I ⊢;intro cl C s0 H0 ex;have b8:=Acc.later G a9;refine (he cl C s0 H0 ex).use' R4 G4 (Acc.bind (Acc.assoc b8)) fun z b5 H5 b1 zv e5 x5 R5 G5 r5 h5=>?_
     simp only [e5,Res.bind] at G I;have a4:q∈b1.hid:=x5.hidM q a7;have b9:H5 q=some (.lst vs):=x5.keep q _ b3 (R4.ap q a7);have b7:Ext H1 ρ1 H5 b1:=a9.trans x5;refine ⟨b9,_,show j.length - (i + 1) < m by omega,rfl,Z,by rw [O6]; simp; omega,b1,b5,ys ++ [z],b7.put0 B,a4,R5.rehide a4,(G0 G5).rehide a4,J5,((b6.ext x5).append (RepL.cons r5 RepL.nil)).rehide a4,?_⟩;refine I.trans ?_;cases rr:Qw ga mt me w (Jx cap Γ) (j.drop (i + 1)) b5 with
     | ok zs b2=>
      show Res.ok (ys ++ z :: zs) b2=Res.ok ((ys ++ [z]) ++ zs) b2;rw [L5]; rfl
     | exc x6 b2=>rfl
     | stuck=>rfl
  ·rw [bP hw] at G; exact G.elim
 ·left
  have ei:i=j.length:=by omega
  subst ei;rw [fJ,Qw] at G I
  by_cases hw:wOk w st'
  ·rw [bO hw] at G I;refine ⟨src.stop H' _ st' x R' hw,?_⟩;have I:Qw ga mt me w (Jx cap Γ) j O=.ok (ys ++ []) st':=I;rw [L6] at I;exact k ys st' H' ρ' q vs I x R' a2 B ha ry
  ·rw [bP hw] at G; exact G.elim
theorem Qe9 {Γ:Gam} {σ:St} {H:Hp} {ρ:Tk} {st:Q0} {Q:VK} {P:List PV->Q0->Hp->Tk->Prop} (hi:SimI X E tg iter mi) (U:∀ cl C s0 H0 ex,SimG (Vi X N' sc cl C s0 H0 ex) tg ga) (he:∀ cl C s0 H0 ex,SimE (Vi X N' sc cl C s0 H0 ex) E0 elt me) (Y:∀ cl C s0 H0 ex,SimTs (Vi X N' sc cl C s0 H0 ex) ifs mt)
  (hf:Q5y cap ga) (R:Rel H ρ st) (G:EnvR H ρ Γ σ) (h:Acc X.mg E H ρ P (Qs cap ga mi mt me Γ st)) (k:∀ ps q H2 j a vs,Qs cap ga mi mt me Γ st=.ok ps q->Ext H ρ H2 j->Rel H2 j q->a∈j.hid->H a=none->H2 a=some (.lst vs)->RepL H2 j ps vs->Q (.ref a) H2):Qb2 cap (WI X tg iter) (aG X N' sc tg) (aT X N' sc ifs) (aE X N' sc elt) σ H Q:=by
 refine hi.run Γ σ H ρ st _ _ R G h.bind fun iw a2 H1 ρ1 J eq I R1 G1 ok hl src h1=>?_
 refine Qjc U he Y hf R1 G1 src hl (Qtv (E':=E0) h1) fun ys q H2 j z vs B x2 R2 hm Z ha ry=>?_
 refine k ys q H2 j z vs ?_ (I.trans x2) R2 hm ?_ ha ry
 ·unfold Qs;rw [eq];show noX _=_;rw [B]; rfl
 cases e:H z with
 | none=>rfl
 | some o=>
  obtain ⟨o',O⟩:=I.old z o e;rw [Z] at O; cases O
theorem Qz5 {N':List Str} {sc:Scope} {tg:aD}:∀ cl C s0 H0 ex,PG (Vi X N' sc cl C s0 H0 ex) tg (aG X N' sc tg):=fun cl C s0 H0 ex pins s σ H v u Q I r h=>Qrs pins s σ H v u Q I r (h cl C s0 H0 ex)
theorem Qzb {N':List Str} {sc:Scope} {e:aD}:∀ cl C s0 H0 ex,PE (Vi X N' sc cl C s0 H0 ex) e (aE X N' sc e):=fun cl C s0 H0 ex pins s σ H Q I h=>h cl C s0 H0 ex pins s I
theorem Qu4 {N':List Str} {sc:Scope} {ifs:List aD}:∀ cl C s0 H0 ex,PTs (Vi X N' sc cl C s0 H0 ex) ifs (aT X N' sc ifs):=fun cl C s0 H0 ex pins s σ H Q I h=>by
 obtain ⟨t,a,b⟩:=h cl C s0 H0 ex;exact a pins s σ H Q I b
theorem Q29 (cap:List (Option Nat)) (N':List Str) (j:X.calm=true) (hi:SimI X E tg iter mi) (z:∀ cl C s0 H0 ex,SimG (Vi X N' sc cl C s0 H0 ex) tg ga) (J:∀ cl C s0 H0 ex,SimE (Vi X N' sc cl C s0 H0 ex) E0 elt me) (I:∀ cl C s0 H0 ex,SimTs (Vi X N' sc cl C s0 H0 ex) ifs mt)
  (B:Q5y cap ga) (U:X.N=N:=by rfl) (O:X.env.scope=scE:=by rfl) (q:compOkC N N' sc scE cap=true:=by kernel_rfl) (hs:∀ x,au iter X.env x=pure x:=by intro _; rfl) :
  SimN X E (.ListComp elt [⟨tg,iter,ifs,0⟩] sc pos) (Qs cap ga mi mt me):=
 ⟨fun Γ σ H ρ st P Q R G h k=>WE.of (Qmq j Qvp Qz5 Qzb Qu4 U O q hs) (Qe9 hi z J I B R G h k)⟩
end
inductive SR where
 | nx (Γ:Gam) (st:Q0) | rt (v:PV) (st:Q0) | bk (Γ:Gam) (st:Q0) | ct (Γ:Gam) (st:Q0) | exc (x:Exc) (st:Q0) | stuck
abbrev MS:=Gam->Q0->SR
def Res.sbind {α:Type} (r:Res α) (f:α->Q0->SR):SR:=match r with
 | .ok a st=>f a st
 | .exc x st=>.exc x st
 | .stuck=>.stuck
def AccS (mg:Str->Option aB) (E:XK) (D:Ends) (H:Hp) (ρ:Tk):SR->Prop
 | .nx Γ st=>∀ σ' H' ρ',Ext H ρ H' ρ'->Rel H' ρ' st->EnvR H' ρ' Γ σ'->D.nx σ' H'
 | .bk Γ st=>∀ σ' H' ρ',Ext H ρ H' ρ'->Rel H' ρ' st->EnvR H' ρ' Γ σ'->D.bk σ' H'
 | .ct Γ st=>∀ σ' H' ρ',Ext H ρ H' ρ'->Rel H' ρ' st->EnvR H' ρ' Γ σ'->D.ct σ' H'
 | .rt p st=>∀ v H' ρ',Ext H ρ H' ρ'->Rel H' ρ' st->Rep H' ρ' p v->D.rt v H'
 | .exc x st=>∀ C dv H' ρ',mg x.cls=some (.ref C)->Ext H ρ H' ρ'->Rel H' ρ' st->XFs H' ρ' x.fs dv->E (.ref C) dv H'
 | .stuck=>False
section
variable {α:Type} {mg:Str->Option aB} {E:XK} {D:Ends} {H H1:Hp} {ρ ρ1:Tk}
theorem AccS.later {r:SR} (h:AccS mg E D H ρ r) (x:Ext H ρ H1 ρ1):AccS mg E D H1 ρ1 r:=by
 cases r with
 | nx Γ st=>exact fun j H' ρ' q=>h j H' ρ' (x.trans q)
 | bk Γ st=>exact fun j H' ρ' q=>h j H' ρ' (x.trans q)
 | ct Γ st=>exact fun j H' ρ' q=>h j H' ρ' (x.trans q)
 | rt p st=>exact fun v H' ρ' q=>h v H' ρ' (x.trans q)
 | exc y st=>exact fun C z H' ρ' m q=>h C z H' ρ' m (x.trans q)
 | stuck=>exact h
theorem AccS.bind {r:Res α} {f:α->Q0->SR} (h:AccS mg E D H ρ (r.sbind f)):Acc mg E H ρ (fun a j H1 ρ1=>AccS mg E D H1 ρ1 (f a j)) r:=by
 cases r with
 | ok a st=>exact fun H' ρ' q z=>AccS.later (show AccS mg E D H ρ (f a st) from h) q
 | exc e st=>exact h
 | stuck=>exact h
end
theorem Res.sassoc {α β:Type} (r:Res α) (f:α->Q0->Res β) (g:β->Q0->SR):(r.bind f).sbind g=r.sbind fun a st=>(f a st).sbind g:=by cases r <;> rfl
theorem AccS.assoc {α β:Type} {mg:Str->Option aB} {E:XK} {D:Ends} {H:Hp} {ρ:Tk} {r:Res α} {f:α->Q0->Res β} {g:β->Q0->SR} (h:AccS mg E D H ρ ((r.bind f).sbind g)):AccS mg E D H ρ (r.sbind fun a st=>(f a st).sbind g):=by
 rw [<- Res.sassoc]; exact h
structure SimS (X:Cx) (E:XK) (s:aK) (m:MS):Prop where
 run:∀ (Γ:Gam) (σ:St) (H:Hp) (ρ:Tk) (st:Q0) (D:Ends),Rel H ρ st->EnvR H ρ Γ σ->AccS X.mg E D H ρ (m Γ st)->WS X s D σ H
structure SimB (X:Cx) (E:XK) (ss:List aK) (m:MS):Prop where
 run:∀ (Γ:Gam) (σ:St) (H:Hp) (ρ:Tk) (st:Q0) (D:Ends),Rel H ρ st->EnvR H ρ Γ σ->AccS X.mg E D H ρ (m Γ st)->WB X ss D σ H
section
variable {X:Cx} {E:XK} {pos:Pos} {e:aD} {m:ME}
def Ze:MS:=fun Γ st=>.nx Γ st
def Qf (m1 m2:MS):MS:=fun Γ st=>match m1 Γ st with
 | .nx Γ1 st1=>m2 Γ1 st1
 | r=>r
theorem Q4r:SimB X E [] Ze:=⟨fun Γ σ H ρ st D R G h=>WB.of Qrj (h σ H ρ (Ext.refl _ _) R G)⟩
theorem Wj {s:aK} {rest:List aK} {m1 m2:MS} (h1:SimS X E s m1) (h2:SimB X E rest m2):SimB X E (s :: rest) (Qf m1 m2):=
 ⟨fun Γ σ H ρ st D R G h=>WB.of (Qd1 Qz2 Q7g) (h1.run Γ σ H ρ st _ R G (by
  unfold Qf at h;cases r:m1 Γ st with
  | nx Γ1 j=>rw [r] at h; exact fun q H' ρ' z B I=>h2.run Γ1 q H' ρ' j D B I (AccS.later h z)
  | bk Γ1 j=>rw [r] at h; exact h
  | ct Γ1 j=>rw [r] at h; exact h
  | rt p j=>rw [r] at h; exact h
  | exc x j=>rw [r] at h; exact h
  | stuck=>rw [r] at h; exact h))⟩
theorem j9 {s:aK} {m1:MS} (h1:SimS X E s m1):SimB X E [s] m1:=⟨fun Γ σ H ρ st D R G h=>WB.of (Qbc Qz2) (h1.run Γ σ H ρ st D R G h)⟩
def W1 (m:ME):MS:=fun Γ st=>(m Γ st).sbind fun _ st1=>.nx Γ st1
theorem Qgm (q:SimE X E e m) (hs:swapsWith e none pos.line X.env=pure false:=by rfl):SimS X E (.Expr e pos) (W1 m):=
 ⟨fun Γ σ H ρ st D R G h=>WS.of (Qgr Ye hs) (q.use R G h.bind fun p z H1 ρ1 v I B j J h1=>h1 σ H1 ρ1 (Ext.refl _ _) B j)⟩
def J9 (m:ME):MS:=fun Γ st=>(m Γ st).sbind fun p st1=>.rt p st1
theorem Q37 (j:SimE X E e m):SimS X E (.Return (some e) pos) (J9 m):=
 ⟨fun Γ σ H ρ st D R G h=>WS.of (Qmd Ye) (j.use R G h.bind fun p q H1 ρ1 v J B I z h1=>h1 v H1 ρ1 (Ext.refl _ _) B z)⟩
def J2 (i:Nat) (m:ME):MS:=fun Γ st=>(m Γ st).sbind fun p st1=>.nx (Γ.set i (some p)) st1
theorem xg (i:Nat) {x:Str} {pos':Pos} (J:X.N.Nodup) (B:SimE X E e m) (hi:X.N[i]?=some x:=by rfl) (j:Loc X.env.scope x:=by first | exact Or.inl rfl | exact Or.inr rfl) (hs:swapsWith e (some (.Name x pos')) pos.line X.env=pure false:=by rfl) (z:X.fn x=true\/X.env.scope.names.lookup x=some .local:=by first | exact .inl rfl | exact .inr rfl) :
  SimS X E (.Assign [.Name x pos'] e pos) (J2 i m):=
 ⟨fun Γ σ H ρ st D R G h=>WS.of (Qvj J hi j Ye hs z) (B.use R G h.bind fun p I H1 ρ1 v Y U q O h1=>h1 _ H1 ρ1 (Ext.refl _ _) U (q.set O i))⟩
section
variable {tg iter elt:aD} {ifs:List aD} {N N':List Str} {sc scE:Scope} {ga:GA} {mi:MI} {mt:MT} {me:ME}
theorem Q3x (cap:List (Option Nat)) (N':List Str) (i:Nat) {x:Str} {px cpos:Pos} (I:X.N.Nodup) (j:X.calm=true) (hi:SimI X E tg iter mi) (O:∀ cl C s0 H0 ex,SimG (Vi X N' sc cl C s0 H0 ex) tg ga) (he:∀ cl C s0 H0 ex,SimE (Vi X N' sc cl C s0 H0 ex) E0 elt me) (Y:∀ cl C s0 H0 ex,SimTs (Vi X N' sc cl C s0 H0 ex) ifs mt)
  (hf:Q5y cap ga) (B:X.N[i]?=some x:=by rfl) (U:Loc X.env.scope x:=by first | exact Or.inl rfl | exact Or.inr rfl) (z:swapsWith (.ListComp elt [⟨tg,iter,ifs,0⟩] sc cpos) (some (.Name x px)) pos.line X.env=pure true:=by rfl)
  (hN:X.N=N:=by rfl) (hE:X.env.scope=scE:=by rfl) (hc:compOkC N N' sc scE cap=true:=by kernel_rfl) (hs:∀ x,au iter X.env x=pure x:=by intro _; rfl) (q:X.fn x=true\/X.env.scope.names.lookup x=some .local:=by first | exact .inl rfl | exact .inr rfl) :
  SimS X E (.Assign [.Name x px] (.ListComp elt [⟨tg,iter,ifs,0⟩] sc cpos) pos) (J2 i (Yz (Qs cap ga mi mt me))):=
 ⟨fun Γ σ H ρ st D R G h=>WS.of (Qme I B U j Qvp Qz5 Qzb Qu4 z hN hE hc hs q) (Qe9 hi O he Y hf R G (AccS.bind (by unfold J2 Yz at h; exact AccS.assoc h)) fun ps a2 H1 ρ1 a vs eq x R1 hm Z ha r=>by
  obtain ⟨J,R2,r2⟩:=Qgw R x R1 hm Z ha r;simp only [J2,Yz,eq,Res.bind,Res.sbind] at h;exact h _ _ _ J R2 ((G.ext J).set r2 i))⟩
end
def Qnk (ga:GA) (m:ME):MS:=fun Γ st=>(m Γ st).sbind fun p st1=>match ga p Γ with
 | some Γ1=>.nx Γ1 st1
 | none=>.stuck
theorem Qv0 {tg:aD} {ga:GA} (J:SimE X E e m) (z:SimG X tg ga) (hs:swapsWithSole [tg] e pos.line X.env=pure false:=by rfl) (I:swappedStores [tg] e X.env=pure none:=by rfl) (h1:(aq [tg] X.env).map (·.2)=[assign tg X.env]:=by rfl):SimS X E (.Assign [tg] e pos) (Qnk ga m):=
 ⟨fun Γ σ H ρ st D R G h=>WS.of (Qmf Ye Qrs hs I h1) (J.use R G h.bind fun p O H1 ρ1 v x1 Y B U h1=>by
  cases j:ga p Γ with
  | none=>rw [j] at h1; exact h1.elim
  | some Γ1=>
   rw [j] at h1;exact z.run Γ Γ1 σ H1 ρ1 p v _ B U j fun q Z=>h1 q H1 ρ1 (Ext.refl _ _) Y Z)⟩
def Q11 (st:Q0) (o i p:PV):Option Q0:=match o,i with
 | .ref k,.int j=>match st[k]? with
  | some (.lst xs)=>(ixN xs.length j).map fun n=>st.set k (.lst (xs.set n p))
  | _=>none
 | _,_=>none
def y3 (mo mi m:ME):MS:=fun Γ st=>(m Γ st).sbind fun p st1=>(mo Γ st1).sbind fun o st2=>(mi Γ st2).sbind fun i st3=>match Q11 st3 o i p with
 | some st4=>.nx Γ st4
 | none=>.stuck
theorem Qqx {H:Hp} {ρ:Tk} {st st':Q0} {o i p:PV} {x y z:V} (R:Rel H ρ st) (U:Rep H ρ o x) (ri:Rep H ρ i y) (O:Rep H ρ p z) (e:Q11 st o i p=some st') :
  ∃ a vs k j,x=.ref a/\y=.int k/\H a=some (.lst vs)/\ixN vs.length k=some j/\Ext H ρ (upd H a (.lst (vs.set j z))) ρ/\Rel (upd H a (.lst (vs.set j z))) ρ st':=by
 unfold Q11 at e
 split at e
 ·rename_i k j
  split at e
  ·rename_i xs hs;cases q:ixN xs.length j with
   | none=>rw [q] at e; cases e
   | some n=>
    rw [q] at e;have e:st.set k (.lst (xs.set n p))=st':=bf e;subst e;obtain ⟨a,G,rfl⟩:=U;cases ri;obtain ⟨b,vs,J,B,I⟩:=R.lst hs;rw [G] at J; cases J;exact ⟨a,vs,j,n,rfl,rfl,B,by rw [<- I.length]; exact q,Ext.put (D4 G) B,R.put G B (I.set O n)⟩
  ·cases e
 ·cases e
theorem Qkk {o i:aD} {mo mi:ME} {tpos:Pos} (he:SimE X E e m) (ho:SimE X E o mo) (hi:SimE X E i mi)
  (ha:∀ v,assign (.Subscript o i tpos) X.env v=(do
   let q <- aj [v] (aL o X.env)
   let B <- aj [v,q] (aL i X.env)
   standAt tpos
   aj [v,q,B] (setItem q B v)
   release [v,q,B] []):=by intro _; rfl)
  (hs:swapsWithSole [.Subscript o i tpos] e pos.line X.env=pure false:=by rfl) (hw:swappedStores [.Subscript o i tpos] e X.env=pure none:=by rfl) (h1:(aq [.Subscript o i tpos] X.env).map (·.2)=[assign (.Subscript o i tpos) X.env]:=by rfl) :
  SimS X E (.Assign [.Subscript o i tpos] e pos) (y3 mo mi m):=
 ⟨fun Γ σ H ρ st D R G h=>WS.of (Qmf Ye (Qvs Ye Ye Qks ha) hs hw h1) (he.use R G h.bind fun p a3 H1 ρ1 z x1 R1 G1 r1 h1=>ho.use R1 G1 h1.bind fun q a2 H2 a4 x x2 R2 G2 r2 h2=>hi.use R2 G2 h2.bind fun B J H3 O y U Z G3 r3 I=>by
  cases es:Q11 J q B p with
  | none=>rw [es] at I; exact I.elim
  | some a5=>
   rw [es] at I;obtain ⟨a,vs,k,j,rfl,rfl,f1,f2,Y,R4⟩:=Qqx Z (r2.ext U) r3 (r1.ext (x2.trans U)) es;exact ⟨a,vs,k,j,rfl,rfl,f1,f2,I σ _ O Y R4 (G3.ext Y)⟩)⟩
def Y2 (mt:MT) (ma mb:MS):MS:=fun Γ st=>(mt Γ st).sbind fun b st1=>if b=true then ma Γ st1 else mb Γ st1
theorem Q9z {c:aD} {a b:List aK} {mt:MT} {ma mb:MS} (B:SimT X E c mt) (J:SimB X E a ma) (I:SimB X E b mb):SimS X E (.If c a b pos) (Y2 mt ma mb):=
 ⟨fun Γ σ H ρ st D R G h=>WS.of (Qz3 Qd0 Q7g Q7g) (B.use R G h.bind fun k j H1 ρ1 O z q h1=>by
  cases k with
  | true=>rw [bO rfl] at h1 ⊢; exact J.run Γ σ H1 ρ1 j D z q h1
  | false=>rw [bP E5] at h1 ⊢; exact I.run Γ σ H1 ρ1 j D z q h1)⟩
open Classical in
def yq (ga:GA) (body:MS) (w:Wt):List PV->Gam->Q0->SR
 | [],Γ,st=>if wOk w st then .nx Γ st else .stuck
 | x :: xs,Γ,st=>if wOk w st then (match ga x Γ with
  | none=>.stuck
  | some Γ1=>match body Γ1 st with
   | .nx Γ2 st2=>yq ga body w xs Γ2 st2
   | .ct Γ2 st2=>yq ga body w xs Γ2 st2
   | .bk Γ2 st2=>.nx Γ2 st2
   | .rt v st2=>.rt v st2
   | .exc x st2=>.exc x st2
   | .stuck=>.stuck) else .stuck
def Q1u (ga:GA) (mi:MI) (body:MS):MS:=fun Γ st=>(mi Γ st).sbind fun iw st1=>yq ga body iw.2 iw.1 Γ st1
theorem Qb4 {tg iter:aD} {bd:List aK} {ga:GA} {mi:MI} {body:MS} (hp:PassesOwn (aJ X.prog X.w) X.A X.env X.xe) (hc:X.calm=true) (hi:SimI X E tg iter mi) (hg:SimG X tg ga) (hb:SimB X E bd body)
  (hs:∀ x,au iter X.env x=pure x:=by intro _; rfl):SimS X E (.For tg iter bd [] pos) (Q1u ga mi body):=
 ⟨fun Γ σ H ρ st D R G h=>WS.of (Qvk hp hc Qvp Qrs Q7g hs) (hi.run Γ σ H ρ st _ _ R G h.bind fun B a6 H1 ρ1 J eq x1 R1 G1 ok hl src h1=>by
  let W:Nat->Nat->St->Hp->Prop:=fun i m O H'=>m=B.1.length - i/\i<=B.1.length/\∃ Z ρ' st',Ext H1 ρ1 H' ρ'/\Rel H' ρ' st'/\EnvR H' ρ' Z O/\AccS X.mg E D H' ρ' (yq ga body B.2 (B.1.drop i) Z st')
  refine ⟨W,⟨_,rfl,cg _,Γ,ρ1,a6,Ext.refl _ _,R1,G1,by rw [dq]; exact h1⟩,?_⟩;rintro i m O H' ⟨hm,a7,Z,ρ',st',x,R',G',U⟩
  by_cases a2:i < B.1.length
  ·right
   have hd:B.1.drop i=B.1[i] :: B.1.drop (i + 1):=gT a2;rw [hd,yq] at U
   by_cases hw:wOk B.2 st'
   ·rw [bO hw] at U;refine ⟨src.go H' ρ' st' x R' hw i a2,fun a4 H2=>W (i + 1) (B.1.length - (i + 1)) a4 H2,fun a4 H2 z=>⟨_,by omega,z⟩,fun y H2 hy=>?_⟩
    obtain ⟨sm,ry⟩:=src.yld H' ρ' st' x R' hw i _ (O5 a2) y H2 hy;have x2:Ext H' ρ' H2 ρ':=Ext.same sm;cases eg:ga B.1[i] Z with
    | none=>rw [eg] at U; exact U.elim
    | some Γ1=>
     rw [eg] at U;refine hg.run Z Γ1 O H2 ρ' _ y _ (G'.ext x2) ry eg fun a5 G3=>?_
     have j:=AccS.later U x2;simp only at j;refine hb.run Γ1 a5 H2 ρ' st' _ (R'.same sm) G3 ?_;have again:∀ {I:Gam} {q:Q0},AccS X.mg E D H2 ρ' (yq ga body B.2 (B.1.drop (i + 1)) I q)->∀ O a3 Y,Ext H2 ρ' a3 Y->Rel a3 Y q->EnvR a3 Y I O->W (i + 1) (B.1.length - (i + 1)) O a3:=fun {I q} a σ4 H4 ρ4 x4 R4 G4=>
      ⟨rfl,a2,I,ρ4,q,x.trans (x2.trans x4),R4,G4,AccS.later a x4⟩
     cases rb:body Γ1 st' with
     | nx I q=>rw [rb] at j; exact again j
     | ct I q=>rw [rb] at j; exact again j
     | bk I q=>rw [rb] at j; exact j
     | rt v q=>rw [rb] at j; exact j
     | exc y q=>rw [rb] at j; exact j
     | stuck=>rw [rb] at j; exact j.elim
   ·rw [bP hw] at U; exact U.elim
  ·left
   have ei:i=B.1.length:=by omega
   subst ei;rw [fJ,yq] at U
   by_cases hw:wOk B.2 st'
   ·rw [bO hw] at U;exact ⟨src.stop H' ρ' st' x R' hw,U O H' ρ' (Ext.refl _ _) R' G'⟩
   ·rw [bP hw] at U; exact U.elim)⟩
def j4 (mt:MT) (body:MS):Nat->Gam->Q0->SR
 | 0,_,_=>.stuck
 | n + 1, Γ, st => (mt Γ st).sbind fun b st1 => if b = true then (match body Γ st1 with
   | .nx Γ2 st2=>j4 mt body n Γ2 st2
   | .ct Γ2 st2=>j4 mt body n Γ2 st2
   | .bk Γ2 st2=>.nx Γ2 st2
   | .rt v st2=>.rt v st2
   | .exc x st2=>.exc x st2
   | .stuck=>.stuck) else .nx Γ st1
theorem Qkj (n:Nat) {c:aD} {bd:List aK} {mt:MT} {body:MS} (hp:PassesOwn (aJ X.prog X.w) X.A X.env X.xe) (hc:SimT X E c mt) (hb:SimB X E bd body):SimS X E (.While c bd [] pos) (j4 mt body n):=
 ⟨fun Γ σ H ρ st D R G h=>WS.of (Qmb hp Qd0 Q7g) (by
  let W:Nat->St->Hp->Prop:=fun m B H'=>∃ J ρ' st',Rel H' ρ' st'/\EnvR H' ρ' J B/\AccS X.mg E D H' ρ' (j4 mt body m J st')
  refine ⟨W,⟨n,Γ,ρ,st,R,G,h⟩,?_⟩;rintro m B H' ⟨J,ρ',st',R',G',Z⟩;cases m with
  | zero=>exact Z.elim
  | succ m=>
   rw [j4] at Z;refine hc.use R' G' Z.bind fun b U H1 ρ1 x1 R1 G1 h1=>?_
   cases b with
   | false=>rw [bP E5] at h1 ⊢; exact h1 B H1 ρ1 (Ext.refl _ _) R1 G1
   | true=>
    rw [bO rfl] at h1 ⊢;refine ⟨fun Y H2=>W m Y H2,fun Y H2 z=>⟨m,cO _,z⟩,hb.run J B H1 ρ1 U _ R1 G1 ?_⟩
    have again:∀ {q:Gam} {j:Q0},AccS X.mg E D H1 ρ1 (j4 mt body m q j)->∀ B O I,Ext H1 ρ1 O I->Rel O I j->EnvR O I q B->W m B O:=fun {q j} a σ4 H4 ρ4 x4 R4 G4=>⟨q,ρ4,j,R4,G4,AccS.later a x4⟩
    cases rb:body J U with
    | nx q j=>rw [rb] at h1; exact again h1
    | ct q j=>rw [rb] at h1; exact again h1
    | bk q j=>rw [rb] at h1; exact h1
    | rt v j=>rw [rb] at h1; exact h1
    | exc y j=>rw [rb] at h1; exact h1
    | stuck=>rw [rb] at h1; exact h1.elim)⟩
def Um (x:Str) (m:ME):MS:=fun Γ st=>(m Γ st).sbind fun _ st1=>.exc ⟨x,none⟩ st1
theorem Qkm {x:Str} {C:aA} {U cpos:Pos} (j:X.calm=true) (J:Q91 X E) (O:Gl X x) (I:X.mg x=some (.ref C)) (q:bY X.K C Vw "ValueError.__new__" = true) (Y:SimE X E e m)
  (B:(x == ("__debug__" : Str))=false:=by decide) (z:aM [e] X.env=[(false,aL e X.env)]:=by rfl):SimS X E (.Raise (some (.Call (.Name x U) [e] [] cpos)) none pos) (Um x m):=
 ⟨fun Γ σ H ρ st D R G h=>WS.of (Qia j J O I q (Q04 Ye Q7k (by rw [z]; rfl)) B z) (Y.use R G h.bind fun p Z H1 ρ1 v x1 R1 G1 r1 h1=>⟨F1 (show 1<=lim by decide) Qfx,h1 C none H1 ρ1 I (Ext.refl _ _) R1 rfl⟩)⟩
end
def WM (X:Cx) (id:String):V->List V->Hp->VK->Prop:=fun x xs H Q=>∀ (pins:List (aA × Obj)) (s:aC) (σ:St) (v:aB) (us:List aB),Inv X pins σ H s->RelV x v->Vals xs us->aI (aJ X.prog X.w) X.A (call (.builtin id) (v :: us)) (EP X pins σ Q) X.xe s
theorem J2e {X:Cx} {id:String}:MtR X id (WM X id):=fun pins s σ _ _ _ v us _ I r j h=>h pins s σ v us I r j
theorem WM.of {X:Cx} {id:String} {r:V->List V->Hp->VK->Prop} {x:V} {xs:List V} {H:Hp} {Q:VK} (h:MtR X id r) (q:r x xs H Q):WM X id x xs H Q:=fun pins s σ v us I j z=>h pins s σ H x xs v us Q I j z q
abbrev MF:=Q0->PV->List PV->Res PV
structure MtS (X:Cx) (E:XK) (id:String) (o:MF):Prop where
 run:∀ (H:Hp) (ρ:Tk) (st:Q0) (p:PV) (ps:List PV) (x:V) (xs:List V) (Q:VK),Rel H ρ st->Rep H ρ p x->RepL H ρ ps xs->Acc X.mg E H ρ (QV Q) (o st p ps)->WM X id x xs H Q
section
variable {X:Cx} {E:XK} {o e:aD} {es:List aD} {mo:ME} {mr:Gam->Q0->Res (List PV)} {name:Str} {apos cpos:Pos} {T id:String} {f:MF}
def mBM (f:MF) (mo:ME) (mr:Gam->Q0->Res (List PV)):ME:=fun Γ st=>(mo Γ st).bind fun p st1=>match Q0i st1 p with
 | some _=>(mr Γ st1).bind fun ps st2=>f st2 p ps
 | none=>.stuck
theorem Qu0 (pa:PlainAttrs "list") (slot:Slot "list" name id) (J:typeOf (.builtin id)=pure (.type "method_descriptor")) (hm:MtS X E id f) (ho:SimE X E o mo) (ha:SimA X E (e :: es) mr)
  (z:ak o name X.env (aL o X.env)=aL o X.env:=by rfl)
  (B:((aU cpos (aM (e :: es) X.env)).all (fun x=>!x.1) && (backToKw cpos (keywordEach [] X.env)).all (fun x=>x.1.isSome)
   && decide ((e :: es).length + ([]:List Keyword).length + (if ([]:List Keyword).isEmpty then 0 else 1) < 30))=true:=by rfl)
  (q:(apos.endLine == cpos.line)=true:=by rfl) (hs:aM (e :: es) X.env=(false,aL e X.env) :: aM es X.env:=by rfl) (j:(aU cpos (aM es X.env)).any (·.1)=false:=by rfl) :
  SimE X E (.Call (.Attribute o name apos) (e :: es) [] cpos) (mBM f mo mr):=
 ⟨fun Γ σ H ρ st Q R G h=>WE.of (Qz9 pa slot J J2e Ye Q2t z B q hs j) (ho.use R G h.bind fun p a2 H1 ρ1 v x1 U G1 Y h1=>by
  split at h1
  ·rename_i ys el;obtain ⟨a,vs,rfl,Z,_⟩:=Q6h U Y el;exact ⟨.inl ⟨rfl,vs,.inl Z⟩,ha.use U G1 h1.bind fun ps I H2 O us x2 R2 G2 r2 h2=>hm.run H2 O I p ps _ us Q R2 (Y.ext x2) r2 h2⟩
  ·exact h1.elim)⟩
def chg (st:Q0) (p:PV) (g:List PV->Option (PV × List PV)):Res PV:=match p with
 | .ref i=>match st[i]? with
  | some (.lst xs)=>match g xs with
   | some (r,ys)=>.ok r (st.set i (.lst ys))
   | none=>.stuck
  | _=>.stuck
 | _=>.stuck
theorem Qhh {mg:Str->Option aB} {H:Hp} {ρ:Tk} {st:Q0} {p:PV} {x:V} {g:List PV->Option (PV × List PV)} {Q:VK} (R:Rel H ρ st) (G:Rep H ρ p x) (h:Acc mg E H ρ (QV Q) (chg st p g)) :
  ∃ a xs vs r ys,x=.ref a/\H a=some (.lst vs)/\RepL H ρ xs vs/\g xs=some (r,ys)/\∀ us v,RepL H ρ ys us->Rep H ρ r v->Q v (upd H a (.lst us)):=by
 unfold chg at h
 split at h
 ·rename_i i
  split at h
  ·rename_i xs hs
   split at h
   ·rename_i r ys I;obtain ⟨a,q,rfl⟩:=G;obtain ⟨b,vs,z,j,B⟩:=R.lst hs;rw [q] at z; cases z;refine ⟨a,xs,vs,r,ys,rfl,j,B,I,fun us v J O=>?_⟩;have x:=Ext.put (o':=.lst us) (D4 q) j;exact h _ ρ x (R.put q j J) v (O.ext x)
   ·exact h.elim
  ·exact h.elim
 ·exact h.elim
def Wv:MF:=fun st p ps=>match ps with
 | [y]=>chg st p fun xs=>if xs.length < lim then some (.non,xs ++ [y]) else none
 | _=>.stuck
theorem Qit:MtS X E "list.append" Wv:=⟨fun H ρ st p ps x xs Q R z I h=>by
 unfold Wv at h
 split at h
 ·obtain ⟨v,rfl,r⟩:=Wa I;obtain ⟨a,ys,vs,J,zs,rfl,B,q,j,k⟩:=Qhh R z h
  split at j
  ·rename_i G;cases j;exact WM.of Qir ⟨a,vs,v,rfl,rfl,B,by rw [<- q.length]; exact D3 G Qfx,k _ _ (q.append (RepL.cons r RepL.nil)) rfl⟩
  ·cases j
 ·exact h.elim⟩
def jj:MF:=fun st p ps=>match ps with
 | [q]=>match U2 st q with
  | some ys=>chg st p fun xs=>if xs.length + ys.length<=lim then some (.non,xs ++ ys) else none
  | none=>.stuck
 | _=>.stuck
theorem Qis:MtS X E "list.extend" jj:=⟨fun H ρ st p ps x xs Q R z O h=>by
 unfold jj at h
 split at h
 ·obtain ⟨v,rfl,r⟩:=Wa O
  split at h
  ·rename_i Y I;obtain ⟨b,us,rfl,B,rb⟩:=Q3q R r I;obtain ⟨a,ys,vs,U,zs,rfl,G,q,j,k⟩:=Qhh R z h
   split at j
   ·rename_i J;cases j;exact WM.of Qiq ⟨a,b,vs,us,rfl,rfl,G,B,by rw [<- q.length,<- rb.length]; exact X1 J,k _ _ (q.append rb) rfl⟩
   ·cases j
  ·exact h.elim
 ·exact h.elim⟩
theorem Qi3 (B:SimE X E o mo) (G:SimA X E [e] mr) (j:ak o "append" X.env (aL o X.env)=aL o X.env:=by rfl)
  (z:((aU cpos (aM [e] X.env)).all (fun x=>!x.1) && (backToKw cpos (keywordEach [] X.env)).all (fun x=>x.1.isSome) && decide ([e].length + ([]:List Keyword).length + (if ([]:List Keyword).isEmpty then 0 else 1) < 30))=true:=by rfl)
  (q:(apos.endLine == cpos.line)=true:=by rfl) (hs:aM [e] X.env=(false,aL e X.env) :: aM [] X.env:=by rfl):SimE X E (.Call (.Attribute o "append" apos) [e] [] cpos) (mBM Wv mo mr):=
 Qu0 gU PySem.F.slot_list_append PySem.F.type_list_append Qit B G j z q hs
theorem Qi2 (B:SimE X E o mo) (G:SimA X E [e] mr) (j:ak o "extend" X.env (aL o X.env)=aL o X.env:=by rfl)
  (z:((aU cpos (aM [e] X.env)).all (fun x=>!x.1) && (backToKw cpos (keywordEach [] X.env)).all (fun x=>x.1.isSome) && decide ([e].length + ([]:List Keyword).length + (if ([]:List Keyword).isEmpty then 0 else 1) < 30))=true:=by rfl)
  (q:(apos.endLine == cpos.line)=true:=by rfl) (hs:aM [e] X.env=(false,aL e X.env) :: aM [] X.env:=by rfl):SimE X E (.Call (.Attribute o "extend" apos) [e] [] cpos) (mBM jj mo mr):=
 Qu0 gU PySem.F.slot_list_extend PySem.F.type_list_extend Qis B G j z q hs
end
section
mutual
def fz (n:Nat) (st:Q0):Nat->PV->Option PV
 | 0,_=>none
 | _ + 1,.non=>some .non
 | _ + 1,.bl b=>some (.bl b)
 | _ + 1,.int i=>some (.int i)
 | _ + 1,.str x=>some (.str x)
 | k + 1,.tup xs=>(fzL n st k xs).map .tup
 | k + 1,.lst xs=>(fzL n st k xs).map .lst
 | k + 1,.fro xs=>(fzL n st k xs).map .fro
 | _ + 1,.dic=>some .dic
 | k + 1,.ref i=>if i < n then some (.ref i) else match st[i]? with
  | some (.lst xs)=>(fzL n st k xs).map .lst
  | _=>none
def fzL (n:Nat) (st:Q0):Nat->List PV->Option (List PV)
 | _,[]=>some []
 | k,x :: xs=>(fz n st k x).bind fun y=>(fzL n st k xs).map (y :: ·)
end
theorem Q6m {n:Nat} {st:Q0}:∀ {m k:Nat} {p:PV},Jk m p=true->m < k->fz n st k p=some p:=by
 intro m
 induction m with
 | zero=>
  intro k p g B;obtain ⟨k,rfl⟩:∃ j,k=j + 1:=⟨k - 1,by omega⟩;cases p with
  | tup _=>cases g
  | lst _=>cases g
  | fro _=>cases g
  | ref _=>cases g
  | dic=>cases g
  | _=>rw [fz]
 | succ m G=>
  intro k p g B;obtain ⟨k,rfl⟩:∃ j,k=j + 1:=⟨k - 1,by omega⟩;have q:∀ xs:List PV,xs.all (Jk m)=true->fzL n st k xs=some xs:=by
   intro xs
   induction xs with
   | nil=>intro _; rw [fzL]
   | cons x xs z=>
    intro g;rw [cW,G7] at g;rw [fzL,G g.1 (by omega),z g.2]; rfl
  cases p with
  | tup xs=>rw [fz,q xs g]; rfl
  | lst xs=>rw [fz,q xs g]; rfl
  | fro xs=>rw [fz,q xs g]; rfl
  | ref _=>cases g
  | dic=>cases g
  | _=>rw [fz]
section
variable {H:Hp} {ρ:Tk} {st:Q0} {tr0 rest hs:List aA}
theorem Qny (R:Rel H ρ st) (Z:ρ.tr=tr0 ++ rest) (hh:∀ a,a∈hs->a∈ρ.hid):∀ (k:Nat) {p U:PV} {v:V},Rep H ρ p v->fz tr0.length st k p=some U->Rep H ⟨tr0,hs⟩ U v:=by
 have B:∀ a,a∉ρ->a∉(⟨tr0,hs⟩:Tk):=fun a n z=>by
  rcases z with z | z
  ·exact n (.inl (by rw [Z]; exact G8 _ z))
  ·exact n (.inr (hh a z))
 intro k
 induction k with
 | zero=>intro p U v r e; rw [fz] at e; cases e
 | succ k ih=>
  have Y:∀ {ps q:List PV} {vs:List V},RepL H ρ ps vs->fzL tr0.length st k ps=some q->RepL H ⟨tr0,hs⟩ q vs:=by
   intro ps
   induction ps with
   | nil=>intro q vs r e; rw [fzL] at e; cases e; exact r
   | cons x xs a2=>
    intro q vs r e;obtain ⟨v,t,rfl,r1,r2⟩:=r;rw [fzL] at e;cases e1:fz tr0.length st k x with
    | none=>rw [e1] at e; cases e
    | some y=>
     rw [e1] at e;have e:(fzL tr0.length st k xs).map (y :: ·)=some q:=e;cases e2:fzL tr0.length st k xs with
     | none=>rw [e2] at e; cases e
     | some ys=>
      rw [e2] at e;cases e;exact ⟨v,t,rfl,ih r1 e1,a2 r2 e2⟩
  intro p U v r e;cases p with
  | non=>rw [fz] at e; cases e; exact r
  | bl b=>rw [fz] at e; cases e; exact r
  | int i=>rw [fz] at e; cases e; exact r
  | str x=>rw [fz] at e; cases e; exact r
  | tup xs=>
   rw [fz] at e;obtain ⟨a,vs,e1,I,G,O⟩:=r;cases e2:fzL tr0.length st k xs with
   | none=>rw [e2] at e; cases e
   | some ys=>rw [e2] at e; cases e; exact ⟨a,vs,e1,I,B a G,Y O e2⟩
  | lst xs=>
   rw [fz] at e;obtain ⟨a,vs,e1,I,G,O⟩:=r;cases e2:fzL tr0.length st k xs with
   | none=>rw [e2] at e; cases e
   | some ys=>rw [e2] at e; cases e; exact ⟨a,vs,e1,I,B a G,Y O e2⟩
  | fro xs=>
   rw [fz] at e;obtain ⟨a,vs,e1,I,G,O⟩:=r;cases e2:fzL tr0.length st k xs with
   | none=>rw [e2] at e; cases e
   | some ys=>rw [e2] at e; cases e; exact ⟨a,vs,e1,I,B a G,Y O e2⟩
  | dic=>
   rw [fz] at e;cases e;obtain ⟨a,e1,I,G⟩:=r;exact ⟨a,e1,I,B a G⟩
  | ref i=>
   rw [fz] at e;obtain ⟨a,J,rfl⟩:=r
   by_cases hi:i < tr0.length
   ·rw [bO hi] at e;cases e;rw [Z,O4 hi] at J;exact ⟨a,J,rfl⟩
   ·rw [bP hi] at e
    split at e
    ·rename_i xs a3;obtain ⟨b,vs,f1,f2,f3⟩:=R.lst a3;rw [J] at f1; cases f1;cases e2:fzL tr0.length st k xs with
     | none=>rw [e2] at e; cases e
     | some ys=>
      rw [e2] at e; cases e;refine ⟨a,vs,rfl,f2,fun z=>?_,Y f3 e2⟩;rcases z with z | z
      ·have z:a∈tr0:=z;obtain ⟨j,hj,ej⟩:=dl z;have g1:ρ.tr[j]?=some a:=by rw [Z,O4 hj,O5 hj,ej]
       have l1:=O0.mp g1;have l2:=O0.mp J;have:=Qac R.nd l1.1 l2.1 (l1.2.trans l2.2.symm);omega
      ·exact R.ap a (hh a z) (D4 J)
    ·cases e
mutual
def bel (n:Nat):PV->Prop
 | .tup xs=>belL n xs
 | .lst xs=>belL n xs
 | .fro xs=>belL n xs
 | .ref i=>i < n
 | _=>True
def belL (n:Nat):List PV->Prop
 | []=>True
 | x :: xs=>bel n x/\belL n xs
end
mutual
theorem Rep.bel:∀ {p:PV} {v:V},Rep H ρ p v->bel ρ.tr.length p
 | .non,_,_=>by simp [Sm.bel]
 | .bl _,_,_=>by simp [Sm.bel]
 | .int _,_,_=>by simp [Sm.bel]
 | .str _,_,_=>by simp [Sm.bel]
 | .tup ps,_,⟨_,_,_,_,_,r⟩=>by rw [Sm.bel]; exact RepL.bel r
 | .lst ps,_,⟨_,_,_,_,_,r⟩=>by rw [Sm.bel]; exact RepL.bel r
 | .fro ps,_,⟨_,_,_,_,_,r⟩=>by rw [Sm.bel]; exact RepL.bel r
 | .ref i,_,⟨_,e,_⟩=>by rw [Sm.bel]; exact (O0.mp e).1
 | .dic,_,_=>by simp [Sm.bel]
theorem RepL.bel:∀ {ps:List PV} {vs:List V},RepL H ρ ps vs->belL ρ.tr.length ps
 | [],_,_=>by simp [belL]
 | p :: ps,_,⟨_,_,_,j,q⟩=>by rw [belL]; exact ⟨Rep.bel j,RepL.bel q⟩
end
mutual
theorem Rep.less (j:ρ.tr=tr0 ++ rest) (q:∀ a,a∈hs->a∈ρ.hid):∀ {p:PV} {v:V},Sm.bel tr0.length p->Rep H ρ p v->Rep H ⟨tr0,hs⟩ p v
 | .non,_,_,r=>r
 | .bl _,_,_,r=>r
 | .int _,_,_,r=>r
 | .str _,_,_,r=>r
 | .tup ps,_,b,⟨a,vs,e,B,G,r⟩=>⟨a,vs,e,B,fun z=>G (z.imp (fun z=>by rw [j]; exact G8 _ z) (q a)),RepL.less j q (by rw [Sm.bel] at b; exact b) r⟩
 | .lst ps,_,b,⟨a,vs,e,B,G,r⟩=>⟨a,vs,e,B,fun z=>G (z.imp (fun z=>by rw [j]; exact G8 _ z) (q a)),RepL.less j q (by rw [Sm.bel] at b; exact b) r⟩
 | .fro ps,_,b,⟨a,vs,e,B,G,r⟩=>⟨a,vs,e,B,fun z=>G (z.imp (fun z=>by rw [j]; exact G8 _ z) (q a)),RepL.less j q (by rw [Sm.bel] at b; exact b) r⟩
 | .ref i,_,b,⟨a,e,e2⟩=>⟨a,by rw [Sm.bel] at b; rw [j,O4 b] at e; exact e,e2⟩
 | .dic,_,_,⟨a,e,B,G⟩=>⟨a,e,B,fun z=>G (z.imp (fun z=>by rw [j]; exact G8 _ z) (q a))⟩
theorem RepL.less (q:ρ.tr=tr0 ++ rest) (j:∀ a,a∈hs->a∈ρ.hid):∀ {ps:List PV} {vs:List V},belL tr0.length ps->RepL H ρ ps vs->RepL H ⟨tr0,hs⟩ ps vs
 | [],_,_,r=>r
 | p :: ps,_,b,⟨v,t,e,z,B⟩=>by
  rw [belL] at b;exact ⟨v,t,e,Rep.less q j b.1 z,RepL.less q j b.2 B⟩
end
end
theorem Qcy {H H':Hp} {ρ ρ':Tk} {st st':Q0} (R:Rel H ρ st) (x:Ext H ρ H' ρ') (I:Rel H' ρ' st') (hp:st <+: st'):Ext H ρ H' ρ/\Rel H' ρ st:=by
 obtain ⟨rest,z⟩:=x.pre;obtain ⟨more,J⟩:=hp;refine ⟨⟨cX _,fun _ h=>h,fun _ h=>.inl h,x.keep,fun _ h=>.inl h,x.old,x.frz⟩,R.len,R.nd,fun a G=>let ⟨o,e,n⟩:=R.hd a G; ⟨o,x.keep a o e (R.ap a G),n⟩,R.ap,fun i a c h1 h2=>?_⟩
 have hi:i < st.length:=(O0.mp h2).1;have q:=I.cell i a c (by rw [<- z,O4 (O0.mp h1).1]; exact h1) (by rw [<- J,O4 hi]; exact h2);have B:=R.cell i a c h1 h2;cases c with
 | lst ps=>
  obtain ⟨vs,e1,e2⟩:=q;obtain ⟨us,_,j⟩:=B;exact ⟨vs,e1,RepL.less (ρ:=ρ') (tr0:=ρ.tr) (hs:=ρ.hid) z.symm x.hidM j.bel e2⟩
 | dic ps=>
  obtain ⟨vs,e1,e2⟩:=q;obtain ⟨us,_,j⟩:=B;exact ⟨vs,e1,e2.1,RepL.less (ρ:=ρ') (tr0:=ρ.tr) (hs:=ρ.hid) z.symm x.hidM j.2.bel e2.2⟩
 | dtp ps=>
  obtain ⟨vs,e1,e2⟩:=q;obtain ⟨us,_,j⟩:=B;exact ⟨vs,e1,e2.1,RepL.less (ρ:=ρ') (tr0:=ρ.tr) (hs:=ρ.hid) z.symm x.hidM j.2.bel e2.2⟩
 | frd ps=>
  obtain ⟨vs,e1,e2⟩:=q;obtain ⟨us,_,j⟩:=B;exact ⟨vs,e1,e2.1,RepL.less (ρ:=ρ') (tr0:=ρ.tr) (hs:=ρ.hid) z.symm x.hidM j.2.bel e2.2⟩
 | obj C ps=>
  obtain ⟨vs,e1,e2⟩:=q;obtain ⟨us,_,j⟩:=B;exact ⟨vs,e1,e2.1,RepL.less (ρ:=ρ') (tr0:=ρ.tr) (hs:=ρ.hid) z.symm x.hidM j.2.bel e2.2⟩
abbrev FN:=List PV->Q0->Res PV
open Classical in
def fin (st:Q0) (v:PV) (st':Q0):Res PV:=if st <+: st' then okO st (fz st.length st' 16 v) else .ok v st'
open Classical in
def Qp2 (st:Q0) (x:Exc) (st':Q0):Res PV:=if st <+: st' then (match x.fs with
 | none=>.exc x st
 | some (n,p)=>match fz st.length st' 16 p with
  | some q=>.exc ⟨x.cls,some (n,q)⟩ st
  | none=>.stuck) else .exc x st'
def Qh (body:MS) (nl:Nat):FN:=fun ps st=>match body (ps.map some ++ bV (nl - ps.length) none) st with
 | .rt v st'=>fin st v st'
 | .nx _ st'=>fin st .non st'
 | .exc x st'=>Qp2 st x st'
 | _=>.stuck
theorem Qhe {mg:Str->Option aB} {E:XK} {H:Hp} {ρ:Tk} {st st':Q0} {Q:VK} {p:PV} (R:Rel H ρ st) (h:Acc mg E H ρ (QV Q) (fin st p st')):∀ v H' ρ',Ext H ρ H' ρ'->Rel H' ρ' st'->Rep H' ρ' p v->Q v H':=fun v H' ρ' x j r=>by
 unfold fin at h
 by_cases hp:st <+: st'
 ·rw [bO hp] at h;cases e:fz st.length st' 16 p with
  | none=>rw [e] at h; exact h.elim
  | some q=>
   rw [e] at h;obtain ⟨z,R2⟩:=Qcy R x j hp;obtain ⟨rest,B⟩:=x.pre;rw [<- R.len] at e;exact h H' ρ z R2 v (Qny (tr0:=ρ.tr) (hs:=ρ.hid) j B.symm x.hidM 16 r e)
 ·rw [bP hp] at h;exact h H' ρ' x j v r
def spF (mg:Str->Option aB) (n:Nat) (F:FN):Sp:=fun vs H Q E=>vs.length=n/\∃ ρ st ps,Rel H ρ st/\RepL H ρ ps vs/\Acc mg E H ρ (QV Q) (F ps st)
theorem Q9y {H:Hp} {ρ:Tk} {N:List Str} {ps:List PV} {vs:List V} (r:RepL H ρ ps vs):EnvR H ρ (ps.map some ++ bV (N.length - ps.length) none) (L2.start N vs):=by
 have j:=r.length;unfold L2.start;refine ⟨by simp [j],fun i p e=>?_⟩
 by_cases hi:i < ps.length
 ·rw [O4 (by simpa using hi),E2] at e;rw [O4 (by simp; omega),E2];cases q:ps[i]? with
  | none=>rw [q] at e; cases e
  | some z=>
   rw [q] at e;cases e;obtain ⟨v,e1,e2⟩:=r.get q;exact ⟨v,by rw [e1]; rfl,e2⟩
 ·rw [D2 (by simpa using hi),G9] at e
  split at e <;> cases e
section
variable {P:aP} {w:aO} {K:bU} {mg:Str->Option aB} {base:Heap}
theorem Qx2 {x qual:Str} {st:aK} {f:aA} {fd:aN} {N ps:List Str} {k:Nat} {m:MS} (F:Fun K x qual st f fd) (S:FnScope N ps (Q6 st))
  (hb:∀ (I:aB) (A:aR) (outer:List dw) (s:aC) (H:Hp) (E:XK),Room k (A.deeper (dy qual (Q6 st) s.heap.objs.size f I))->SimB (cxD P w K mg base N qual (Q6 st) f I A outer s H E) E (Yd st) m) :
  FnOk P w K mg base (CXD P w) (k + 1) f fd ps (spF mg ps.length (Qh m N.length)):=by
 refine Fun.okD F S (fun vs H Q E h=>h.1) fun I A outer s H vs Q E hr a2=>⟨_,Q7g,?_⟩
 obtain ⟨hl,ρ,G,U,R,rl,j⟩:=a2;refine (hb I A outer s H E hr).run _ (L2.start N vs) H ρ G _ R (Q9y rl) ?_;unfold Qh at j;cases O:m (U.map some ++ bV (N.length - U.length) none) G with
 | rt v B=>rw [O] at j; exact Qhe R j
 | nx Γ B=>rw [O] at j; exact fun a3 H' ρ' J Y G'=>Qhe R j .non H' ρ' J Y rfl
 | bk Γ B=>rw [O] at j; exact j.elim
 | ct Γ B=>rw [O] at j; exact j.elim
 | stuck=>rw [O] at j; exact j.elim
 | exc y B=>
  rw [O] at j;have j:Acc mg E H ρ (QV Q) (Qp2 G y B):=j;intro C Z H' ρ' hm J Y hf;unfold Qp2 at j
  by_cases hp:G <+: B
  ·rw [bO hp] at j;obtain ⟨x2,R2⟩:=Qcy R J Y hp;obtain ⟨cls,fs⟩:=y;cases fs with
   | none=>exact j C Z H' ρ hm x2 R2 hf
   | some np=>
    obtain ⟨nm,p⟩:=np;simp only at j;cases e:fz G.length B 16 p with
    | none=>rw [e] at j; exact j.elim
    | some q=>
     rw [e] at j;obtain ⟨rest,ht⟩:=J.pre;rw [<- R.len] at e;obtain ⟨dx,v,e1,e2,e3,e4⟩:=hf;refine j C Z H' ρ hm x2 R2 ⟨dx,v,e1,e2,fun z=>e3 (z.imp (fun z=>by rw [<- ht]; exact G8 _ z) (J.hidM dx)),Qny (tr0:=ρ.tr) (hs:=ρ.hid) Y ht.symm J.hidM 16 e4 e⟩
  ·rw [bP hp] at j;exact j C Z H' ρ' hm J Y hf
end
theorem Qhd {P:aP} {w:aO} {K:bU} {mg:Str->Option aB} {base:Heap} {x qual:Str} {st:aK} {f:aA} {fd:aN} {N ps:List Str} {k n nl:Nat} {m:MS} {z:FN} (F:Fun K x qual st f fd) (S:FnScope N ps (Q6 st)) (G:ps.length=n) (q:N.length=nl) (I:z=Qh m nl)
  (B:∀ (j:aB) (A:aR) (outer:List dw) (s:aC) (H:Hp) (E:XK),Room k (A.deeper (dy qual (Q6 st) s.heap.objs.size f j))->SimB (cxD P w K mg base N qual (Q6 st) f j A outer s H E) E (Yd st) m) :
  FnOk P w K mg base (CXD P w) (k + 1) f fd ps (spF mg n z):=by
 subst G; subst q; subst I;exact Qx2 F S B
structure DefS (P:aP) (w:aO) (K:bU) (mg:Str->Option aB) (base:Heap) (k:Nat) (x:Str) (n:Nat) (F:FN):Prop where
 ex:∃ (f:aA) (fd:aN) (ps:List Str),FnOk P w K mg base (CXD P w) k f fd ps (spF mg n F)/\mg x=some (.ref f)/\bi K (.ref f)=true/\Binds K fd ps []/\ps.length=n
def Q9 (n:Nat) (F:FN) (mr:Gam->Q0->Res (List PV)):ME:=fun Γ st=>(mr Γ st).bind fun ps st1=>if ps.length=n then F ps st1 else .stuck
section
variable {X:Cx} {E:XK} {k n:Nat} {x:Str} {F:FN} {p pos:Pos} {e:aD} {es:List aD} {mr:Gam->Q0->Res (List PV)}
theorem U6 (D:DefS X.prog X.w X.K X.mg X.base k x n F) (U:Room k X.A) (Z:Kx (CXD X.prog X.w) X E) (Y:Gl X x) (ha:SimA X E (e :: es) mr) (j:(x == ("__debug__" : Str))=false:=by decide)
  (he:aM (e :: es) X.env=(false,aL e X.env) :: aM es X.env:=by rfl) (z:(aU pos (aM es X.env)).any (·.1)=false:=by rfl):SimE X E (.Call (.Name x p) (e :: es) [] pos) (Q9 n F mr):=by
 obtain ⟨f,fd,ps,hF,hm,O,hb,hl⟩:=D.ex;exact ⟨fun Γ σ H ρ st Q R G h=>WE.of (Qrz hF U Y hm O hb .nil Z Q2t j he z) (ha.use R G h.bind fun I q H1 ρ1 vs x1 R1 G1 J h1=>by
  by_cases B:I.length=n
  ·rw [bO B] at h1;show spF X.mg n F (vs ++ []) H1 Q E;rw [L6];exact ⟨by rw [<- J.length]; exact B,ρ1,q,I,R1,J,h1⟩
  ·rw [bP B] at h1; exact h1.elim)⟩
end
end
@[simp] theorem Qn {α β:Type} (a:α) (st:Q0) (f:α->Q0->Res β):(Res.ok a st).bind f=f a st:=rfl
@[simp] theorem Qxd {α β:Type} (f:α->Q0->Res β):(Res.stuck:Res α).bind f=.stuck:=rfl
@[simp] theorem J0u {α β:Type} (x:Exc) (st:Q0) (f:α->Q0->Res β):(Res.exc x st:Res α).bind f=.exc x st:=rfl
@[simp] theorem Vz {α:Type} (a:α) (st:Q0) (f:α->Q0->SR):(Res.ok a st).sbind f=f a st:=rfl
@[simp] theorem Qu1 {α:Type} (f:α->Q0->SR):(Res.stuck:Res α).sbind f=.stuck:=rfl
@[simp] theorem Qxs {α:Type} (x:Exc) (st:Q0) (f:α->Q0->SR):(Res.exc x st:Res α).sbind f=.exc x st:=rfl
@[simp] theorem J1a (i:Nat) (Γ:Gam) (st:Q0):Q2 i Γ st=(match Γ[i]? with | some (some p)=>.ok p st | _=>.stuck):=rfl
@[simp] theorem J2v (p:PV) (Γ:Gam) (st:Q0):mC p Γ st=.ok p st:=rfl
@[simp] theorem Qwk (o:OP) (a b:ME) (Γ:Gam) (st:Q0):mOp o a b Γ st=(a Γ st).bind fun x j=>(b Γ j).bind fun y q=>o q x y:=rfl
@[simp] theorem J2p (b:Bool) (st:Q0):asB (.bl b) st=.ok b st:=rfl
@[simp] theorem Quq (m:ME) (Γ:Gam) (st:Q0):toB m Γ st=(m Γ st).bind asB:=rfl
def Qr1 {α:Type} (x:PV) (A B:Res α):Res α:=match x with
 | .bl true=>A
 | .bl false=>B
 | _=>.stuck
@[simp] theorem J0z {α:Type} (b:Bool) (A B:Res α):Qr1 (.bl b) A B=if b=true then A else B:=by cases b <;> rfl
@[simp] theorem Qxx (o o':OP) (a b c:ME) (Γ:Gam) (st:Q0):Q1v o o' a b c Γ st=(a Γ st).bind fun x B=>(b Γ B).bind fun y q=>(o q x y).bind fun k j=>Qr1 k ((c Γ j).bind fun z G=>o' G y z) (.ok (.bl false) j):=by
 unfold Q1v;refine congrArg _ (funext fun x=>funext fun B=>congrArg _ (funext fun y=>funext fun q=>congrArg _ (funext fun k=>funext fun j=>?_)))
 cases k with
 | bl b=>cases b <;> rfl
 | _=>rfl
@[simp] theorem Qst (a b:ME) (Γ:Gam) (st:Q0):Q5a a b Γ st=(a Γ st).bind fun x j=>Qr1 x (b Γ j) (.ok (.bl false) j):=by
 unfold Q5a;refine congrArg _ (funext fun x=>funext fun j=>?_);cases x with
 | bl b=>cases b <;> rfl
 | _=>rfl
@[simp] theorem J2g (a b:ME) (Γ:Gam) (st:Q0):mOr a b Γ st=(a Γ st).bind fun x j=>Qr1 x (.ok (.bl true) j) (b Γ j):=by
 unfold mOr;refine congrArg _ (funext fun x=>funext fun j=>?_);cases x with
 | bl b=>cases b <;> rfl
 | _=>rfl
@[simp] theorem J1b (a:ME) (Γ:Gam) (st:Q0):Qwm a Γ st=(a Γ st).bind fun x j=>(match x with | .bl k=>.ok (.bl (!k)) j | _=>.stuck):=rfl
@[simp] theorem J1d (a:ME) (Γ:Gam) (st:Q0):Q2x a Γ st=(a Γ st).bind fun x j=>(match x with | .int k=>.ok (.int (-k)) j | _=>.stuck):=rfl
@[simp] theorem Qcn (a b:MT) (Γ:Gam) (st:Q0):Q10 a b Γ st=(a Γ st).bind fun k j=>if k=true then b Γ j else .ok false j:=rfl
@[simp] theorem Qgj (a b:MT) (Γ:Gam) (st:Q0):Q1c a b Γ st=(a Γ st).bind fun k j=>if k=true then .ok true j else b Γ j:=rfl
@[simp] theorem Qkc (a:MT) (Γ:Gam) (st:Q0):Vy a Γ st=(a Γ st).bind fun k j=>.ok (!k) j:=rfl
@[simp] theorem J1c (Γ:Gam) (st:Q0):Q5 Γ st=.ok [] st:=rfl
@[simp] theorem Qni (m:ME) (mr:ML) (Γ:Gam) (st:Q0):Q1 m mr Γ st=(m Γ st).bind fun p j=>(mr Γ j).bind fun ps q=>.ok (p :: ps) q:=rfl
@[simp] theorem Qsj (mr:ML) (Γ:Gam) (st:Q0):U8 mr Γ st=(mr Γ st).bind fun ps j=>if ps.length<=lim then .ok (.tup ps) j else .stuck:=rfl
@[simp] theorem J1e (mr:ML) (Γ:Gam) (st:Q0):Q9q mr Γ st=(mr Γ st).bind fun ps j=>if ps.length<=lim then .ok (.lst ps) j else .stuck:=rfl
@[simp] theorem J00 (mr:ML) (Γ:Gam) (st:Q0):z9 mr Γ st=(mr Γ st).bind fun ps j=>if ps.length<=lim then .ok ps j else .stuck:=rfl
@[simp] theorem Qwi (m:ME) (l h:Gam->Q0->Res (Option Int)) (Γ:Gam) (st:Q0):mSl m l h Γ st=(m Γ st).bind fun p j=>(l Γ j).bind fun lo z=>(h Γ z).bind fun hi q=>oSl q p lo hi:=rfl
@[simp] theorem Qwn (Γ:Gam) (st:Q0):Wc Γ st=.ok none st:=rfl
@[simp] theorem Qzy (m:ME) (Γ:Gam) (st:Q0):X5 m Γ st=(m Γ st).bind fun p j=>(match p with | .int i=>.ok (some i) j | _=>.stuck):=rfl
@[simp] theorem Qnj (o:CF) (mr:ML) (Γ:Gam) (st:Q0):Qm o mr Γ st=(mr Γ st).bind fun ps j=>o j ps:=rfl
@[simp] theorem Qsp (T:String) (m:ME) (Γ:Gam) (st:Q0):Q9r T m Γ st=(m Γ st).bind fun p j=>if Q2y j p=true then .stuck else .ok (.bl (isI T (dpv j p))) j:=rfl
@[simp] theorem J0g (st:Q0):Q2y st .non=false:=rfl
@[simp] theorem J1g (st:Q0) (b:Bool):Q2y st (.bl b)=false:=rfl
@[simp] theorem J0i (st:Q0) (b:Int):Q2y st (.int b)=false:=rfl
@[simp] theorem J0e (st:Q0) (b:Str):Q2y st (.str b)=false:=rfl
@[simp] theorem J0d (st:Q0) (b:List PV):Q2y st (.tup b)=false:=rfl
@[simp] theorem J0h (st:Q0) (b:List PV):Q2y st (.lst b)=false:=rfl
@[simp] theorem J0j (st:Q0) (b:List PV):Q2y st (.fro b)=false:=rfl
@[simp] theorem J0k (st:Q0):Q2y st .dic=false:=rfl
@[simp] theorem J0f (st:Q0) (i:Nat):Q2y st (.ref i)=(match st[i]? with | some (.frd _)=>true | some (.obj _ _)=>true | _=>false):=rfl
@[simp] theorem J1k (st:Q0):dpv st .non=.non:=rfl
@[simp] theorem J2n (st:Q0) (b:Bool):dpv st (.bl b)=(.bl b):=rfl
@[simp] theorem J1n (st:Q0) (b:Int):dpv st (.int b)=(.int b):=rfl
@[simp] theorem J1j (st:Q0) (b:Str):dpv st (.str b)=(.str b):=rfl
@[simp] theorem J1i (st:Q0) (b:List PV):dpv st (.tup b)=(.tup b):=rfl
@[simp] theorem J1m (st:Q0) (b:List PV):dpv st (.lst b)=(.lst b):=rfl
@[simp] theorem J1p (st:Q0) (b:List PV):dpv st (.fro b)=(.fro b):=rfl
@[simp] theorem J2m (st:Q0):dpv st .dic=.dic:=rfl
@[simp] theorem J2w (st:Q0) (i:Nat):dpv st (.ref i)=(match st[i]? with | some (.dic _)=>.dic | some (.dtp _)=>.dic | _=>.ref i):=rfl
@[simp] theorem Qsi (m:ML) (Γ:Gam) (st:Q0):Yz m Γ st=(m Γ st).bind fun ps j=>.ok (.lst ps) j:=rfl
@[simp] theorem Qsk (m:ML) (Γ:Gam) (st:Q0):y0 m Γ st=(m Γ st).bind fun ps j=>.ok (.ref j.length) (j ++ [.lst ps]):=rfl
@[simp] theorem Qiw (cap:List (Option Nat)) (ga:GA) (mi:MI) (mt:MT) (me:ME) (Γ:Gam) (st:Q0):Qs cap ga mi mt me Γ st=(mi Γ st).bind fun q j=>noX (Qw ga mt me q.2 (Jx cap Γ) q.1 j):=rfl
@[simp] theorem Qzx (Γ:Gam) (st:Q0):Qp Γ st=.ok true st:=rfl
@[simp] theorem Qae (n:Nat) (F:FN) (mr:ML) (Γ:Gam) (st:Q0):Q9 n F mr Γ st=(mr Γ st).bind fun ps j=>if ps.length=n then F ps j else .stuck:=rfl
@[simp] theorem Qzz (Γ:Gam) (st:Q0):Ze Γ st=.nx Γ st:=rfl
@[simp] theorem Qdp (a b:MS) (Γ:Gam) (st:Q0):Qf a b Γ st=(match a Γ st with | .nx Γ1 j=>b Γ1 j | r=>r):=rfl
@[simp] theorem Q88 (m:ME) (Γ:Gam) (st:Q0):W1 m Γ st=(m Γ st).sbind fun _ j=>.nx Γ j:=rfl
@[simp] theorem Q49 (m:ME) (Γ:Gam) (st:Q0):J9 m Γ st=(m Γ st).sbind fun p j=>.rt p j:=rfl
@[simp] theorem Qsm (i:Nat) (m:ME) (Γ:Gam) (st:Q0):J2 i m Γ st=(m Γ st).sbind fun p j=>.nx (Γ.set i (some p)) j:=rfl
@[simp] theorem Qh3 (c:MT) (a b:MS) (Γ:Gam) (st:Q0):Y2 c a b Γ st=(c Γ st).sbind fun k j=>if k=true then a Γ j else b Γ j:=rfl
@[simp] theorem Qsq (ga:GA) (mi:MI) (b:MS) (Γ:Gam) (st:Q0):Q1u ga mi b Γ st=(mi Γ st).sbind fun q j=>yq ga b q.2 q.1 Γ j:=rfl
@[simp] theorem Qsn (m:ME) (Γ:Gam) (st:Q0):Ke m Γ st=(m Γ st).bind fun p j=>(match Vn j p with | some (xs,w)=>if xs.length<=lim then .ok (xs,w) j else .stuck | none=>.stuck):=rfl
@[simp] theorem X0 (mr:ML) (Γ:Gam) (st:Q0):J7 mr Γ st=(mr Γ st).bind fun ps q=>(match ps with | [.int j]=>if -(lim:Int)<=j/\j<=lim then .ok (Jb 0 j.toNat,[]) q else .stuck | _=>.stuck):=rfl
@[simp] theorem Q87 (mr:ML) (Γ:Gam) (st:Q0):Q0h mr Γ st=(mr Γ st).bind fun ps q=>(match ps with | [.int i,.int j]=>if -(lim:Int)<=i/\i<=lim/\-(lim:Int)<=j/\j<=lim then .ok (Jb i (j - i).toNat,[]) q else .stuck | _=>.stuck):=rfl
@[simp] theorem J19 (mr:ML) (Γ:Gam) (st:Q0):Q48 mr Γ st=(mr Γ st).bind fun ps j=>(match ps with | [p,q]=>(match Vn j p,Vn j q with | some (xs,w),some (ys,z)=>if xs.length<=lim then .ok (Q5z xs ys,w ++ z) j else .stuck | _,_=>.stuck) | _=>.stuck):=rfl
@[simp] theorem Qng (mr:ML) (Γ:Gam) (st:Q0):Q89 mr Γ st=(mr Γ st).bind fun ps j=>(match ps with | [p]=>(match Vn j p with | some (xs,w)=>if xs.length<=lim then .ok (qd 0 xs,w) j else .stuck | none=>.stuck) | _=>.stuck):=rfl
@[simp] theorem Qwp (f:MF) (mo:ME) (mr:ML) (Γ:Gam) (st:Q0):mBM f mo mr Γ st=(mo Γ st).bind fun p j=>(match Q0i j p with | some _=>(mr Γ j).bind fun ps q=>f q p ps | none=>.stuck):=rfl
@[simp] theorem Qss (ga:GA) (m:ME) (Γ:Gam) (st:Q0):Qnk ga m Γ st=(m Γ st).sbind fun p j=>(match ga p Γ with | some Γ1=>.nx Γ1 j | none=>.stuck):=rfl
@[simp] theorem Qiu (mo mi m:ME) (Γ:Gam) (st:Q0):y3 mo mi m Γ st=(m Γ st).sbind fun p j=>(mo Γ j).sbind fun o B=>(mi Γ B).sbind fun i z=>(match Q11 z o i p with | some q=>.nx Γ q | none=>.stuck):=rfl
@[simp] theorem Qxv (x:Str) (m:ME) (Γ:Gam) (st:Q0):Um x m Γ st=(m Γ st).sbind fun _ j=>.exc ⟨x,none⟩ j:=rfl
@[simp] theorem Qxz (i:Nat) (p:PV) (Γ:Gam):Q8 i p Γ=some (Γ.set i (some p)):=rfl
@[simp] theorem J0a (Γ:Gam):V0 [] Γ=some Γ:=rfl
@[simp] theorem Qy0 (g:GA) (gs:GAs) (p:PV) (r:List PV) (Γ:Gam):J1 g gs (p :: r) Γ=(g p Γ).bind (gs r):=rfl
@[simp] theorem J09 (gs:GAs) (ps:List PV) (Γ:Gam):Wz gs (.tup ps) Γ=gs ps Γ:=rfl
@[simp] theorem J2d {α:Type} (a:α) (st:Q0):noX (Res.ok a st)=.ok a st:=rfl
@[simp] theorem Qxu {α:Type}:noX (Res.stuck:Res α)=.stuck:=rfl
@[simp] theorem Qdf {α:Type} (st:Q0) (a:α):okO st (some a)=.ok a st:=rfl
@[simp] theorem Qzn {α:Type} (st:Q0):okO st (none:Option α)=.stuck:=rfl
@[simp] theorem J2u (g:Int->Int->PV) (st:Q0) (a b:Int):oI g st (.int a) (.int b)=.ok (g a b) st:=rfl
@[simp] theorem Qzv (st:Q0) (a b:Int):Yj st (.int a) (.int b)=.ok (.int (a + b)) st:=rfl
@[simp] theorem Qzu (st:Q0) (a b:List PV):Yj st (.tup a) (.tup b)=if a.length + b.length<=lim then .ok (.tup (a ++ b)) st else .stuck:=rfl
@[simp] theorem Qzq (st:Q0) (a b:Int):Q68 st (.int a) (.int b)=if (-(2 ^ 64) < a/\a < 2 ^ 64)\/(-(2 ^ 64) < b/\b < 2 ^ 64) then .ok (.int (a * b)) st else .stuck:=rfl
@[simp] theorem Qzp (st:Q0) (xs:List PV) (b:Int):Q68 st (.tup xs) (.int b)=if xs≠[]/\1<=b/\xs.length * b.toNat<=4096 then .ok (.tup (bV b.toNat xs).flatten) st else .stuck:=rfl
@[simp] theorem Qzr (st:Q0) (a b:Int):Q43 st (.int a) (.int b)=if 0 < b then .ok (.int (a % b)) st else .stuck:=rfl
@[simp] theorem Qzt (st:Q0) (a b:Int):Qse st (.int a) (.int b)=if 0 < b/\b < 1073741824 then .ok (.int (a / b)) st else .stuck:=rfl
@[simp] theorem Qn6 (st:Q0) (a b:Int):Qn7 st (.int a) (.int b)=if 0<=b/\b<=1000000/\a.natAbs < 2 ^ 64 then .ok (.int (a ^ b.toNat)) st else .stuck:=rfl
@[simp] theorem J14 (st:Q0) (a b:Int):oLt st (.int a) (.int b)=.ok (.bl (decide (a < b))) st:=rfl
@[simp] theorem J18 (st:Q0) (a b:Int):oEq st (.int a) (.int b)=.ok (.bl (a == b)) st:=rfl
@[simp] theorem J13 (st:Q0) (a b:Int):oNe st (.int a) (.int b)=.ok (.bl (!(a == b))) st:=rfl
@[simp] theorem J2c (st:Q0) (a b:Bool):oEq st (.bl a) (.bl b)=.ok (.bl (a == b)) st:=rfl
@[simp] theorem J2a (st:Q0) (a b:Bool):oNe st (.bl a) (.bl b)=.ok (.bl (!(a == b))) st:=rfl
@[simp] theorem Qsd (st:Q0) (a b:Str):oEq st (.str a) (.str b)=.ok (.bl (a == b)) st:=rfl
@[simp] theorem J12 (st:Q0) (a b:Str):oNe st (.str a) (.str b)=.ok (.bl (!(a == b))) st:=rfl
@[simp] theorem J17 (st:Q0) (p:PV):oIs st p .non=.ok (.bl (Qdy p)) st:=rfl
@[simp] theorem J2b (st:Q0) (a b:Bool):oIs st (.bl a) (.bl b)=.ok (.bl (a == b)) st:=rfl
@[simp] theorem Qwc (st:Q0) (p:PV):Q7w st p .non=.ok (.bl (!Qdy p)) st:=rfl
@[simp] theorem Qxt (st:Q0) (a b:Bool):Q7w st (.bl a) (.bl b)=.ok (.bl (a != b)) st:=rfl
@[simp] theorem Qxy (st:Q0) (xs:List PV):U2 st (.lst xs)=some xs:=rfl
@[simp] theorem Qwq (st:Q0) (xs:List PV):Q0i st (.lst xs)=some xs:=rfl
@[simp] theorem Qwr (st:Q0) (xs:List PV):Q0i st (.fro xs)=some xs:=rfl
@[simp] theorem Qa1 (st:Q0) (xs:List PV):Xb st (.lst xs)=some xs:=rfl
@[simp] theorem Qxr (st:Q0) (xs:List PV):Xb st (.fro xs)=some xs:=rfl
@[simp] theorem Qi0 (st:Q0) (xs:List PV):Xb st (.tup xs)=some xs:=rfl
@[simp] theorem Qxp (st:Q0) (xs:List PV):Vn st (.lst xs)=some (xs,[]):=rfl
@[simp] theorem Qxq (st:Q0) (xs:List PV):Vn st (.fro xs)=some (xs,[]):=rfl
@[simp] theorem Qxn (st:Q0) (xs:List PV):Vn st (.tup xs)=some (xs,[]):=rfl
theorem W7 {st:Q0} {i:Nat} {xs:List PV} (h:st[i]?=some (.lst xs)):U2 st (.ref i)=some xs:=by simp only [U2,h]
@[simp] theorem Qgy (st:Q0) (xs:List PV) (i:Int):oIx st (.tup xs) (.int i)=okO st (atI xs i):=rfl
@[simp] theorem J15 (st:Q0) (xs:List PV) (i:Int):oIx st (.lst xs) (.int i)=okO st (atI xs i):=rfl
@[simp] theorem J16 (st:Q0) (xs:List PV) (i:Int):oIx st (.fro xs) (.int i)=okO st (atI xs i):=rfl
@[simp] theorem jx (st:Q0) (xs:List PV) (l h:Option Int):oSl st (.tup xs) l h=.ok (.tup (cut xs l h)) st:=rfl
@[simp] theorem J10 (st:Q0) (xs:List PV) (l h:Option Int):oSl st (.lst xs) l h=.ok (.lst (cut xs l h)) st:=rfl
@[simp] theorem J11 (st:Q0) (xs:List PV) (l h:Option Int):oSl st (.fro xs) l h=.ok (.lst (cut xs l h)) st:=rfl
@[simp] theorem J0q (st:Q0) (xs:List PV):Zt st [.tup xs]=.ok (.int xs.length) st:=rfl
@[simp] theorem Qps (st:Q0) (xs:List PV):Zt st [.lst xs]=.ok (.int xs.length) st:=rfl
@[simp] theorem J0r (st:Q0) (xs:List PV):Zt st [.fro xs]=.ok (.int xs.length) st:=rfl
@[simp] theorem Qy1 (st:Q0) (xs:List PV):Q34 st [.tup xs]=.ok (.lst xs) st:=rfl
@[simp] theorem Qy2 (st:Q0) (xs:List PV):Q34 st [.lst xs]=.ok (.lst xs) st:=rfl
@[simp] theorem Qy3 (st:Q0) (xs:List PV):Q34 st [.fro xs]=.ok (.lst xs) st:=rfl
@[simp] theorem Qxb (st:Q0) (xs:List PV):Vh st [.tup xs]=.ok (.tup xs) st:=rfl
@[simp] theorem Qxc (st:Q0) (xs:List PV):Vh st [.lst xs]=.ok (.tup xs) st:=rfl
@[simp] theorem Q4j (g:List Bool->PV) (st:Q0) (bs:List Bool):yu g st [.lst (bs.map .bl)]=.ok (g bs) st:=by
 simp only [yu,Qa1,fK,Qts]
@[simp] theorem Qau (g:List Int->Option PV) (st:Q0) (ns:List Int):Wr g st [.lst (ns.map .int)]=okO st (g ns):=by
 simp only [Wr,Qa1,fK,Qdz]
@[simp] theorem Qjp (g:List Int->Option PV) (st:Q0) (ns:List Int):Wr g st [.tup (ns.map .int)]=okO st (g ns):=by
 simp only [Wr,Qi0,fK,Qdz]
@[simp] theorem Qee (st:Q0) (a b:Int):Q8x st [.int a,.int b]=.ok (.int (if b > a then b else a)) st:=rfl
@[simp] theorem Qpq (st:Q0) (a b:Int):Qed st [.int a,.int b]=.ok (.int (if b < a then b else a)) st:=rfl
@[simp] theorem Qy5 (st:Q0):wOk [] st=True:=by simp [wOk]
@[simp] theorem Qg3 (st:Q0) (b:Bool):fin st (.bl b) st=.ok (.bl b) st:=by simp [fin,fz]
@[simp] theorem Q4d (st:Q0) (b:Int):fin st (.int b) st=.ok (.int b) st:=by simp [fin,fz]
@[simp] theorem Qta (st:Q0):fin st .non st=.ok .non st:=by simp [fin,fz]
@[simp] theorem J1h (st:Q0) (b:Str):fin st (.str b) st=.ok (.str b) st:=by simp [fin,fz]
theorem W2 {st:Q0} {v:PV} (g:Jk 12 v=true):fin st v st=.ok v st:=by
 simp only [fin,List.prefix_rfl,if_true,Q6m g (by decide:12 < 16),Qdf]
theorem Q2g {st more:Q0} {v:PV} (g:Jk 12 v=true):fin st v (st ++ more)=.ok v st:=by
 simp only [fin,dM,if_true,Q6m g (by decide:12 < 16),Qdf]
theorem Jc:lim=1000000:=rfl
theorem Qu {α:Type} (g f:α->PV) {ga:GA} {me:ME} {w:Wt} {Γ0:Gam} {st:Q0} (q:wOk w st) {ys:List α} (h:∀ y∈ys,∃ Γ1,ga (g y) Γ0=some Γ1/\me Γ1 st=.ok (f y) st):Qw ga Qp me w Γ0 (ys.map g) st=.ok (ys.map f) st:=by
 induction ys with
 | nil=>simp [Qw,q]
 | cons y ys j=>
  obtain ⟨Γ1,h1,h2⟩:=h y D6;have j:=j fun z hz=>h z (D1 _ hz)
  rw [F7,Qw,bO q,h1];simp [h2,j]
theorem qy {α:Type} (g f:α->PV) (t:α->Bool) {ga:GA} {mt:MT} {me:ME} {w:Wt} {Γ0:Gam} {st:Q0} (B:wOk w st) {ys:List α} (h:∀ y∈ys,∃ Γ1,ga (g y) Γ0=some Γ1/\mt Γ1 st=.ok (t y) st/\(t y=true->me Γ1 st=.ok (f y) st)):Qw ga mt me w Γ0 (ys.map g) st=.ok ((ys.filter t).map f) st:=by
 induction ys with
 | nil=>simp [Qw,B]
 | cons y ys j=>
  obtain ⟨Γ1,h1,h2,G⟩:=h y D6;have j:=j fun z hz=>h z (D1 _ hz)
  rw [F7,Qw,bO B,h1];simp only [h2,Qn,j];cases q:t y with
  | true=>simp [G q,q,j]
  | false=>simp [q]
@[simp] theorem J0t {α:Type} (g:List Bool->PV) (st:Q0) (ys:List α) (b:α->Bool):yu g st [.lst (ys.map fun y=>.bl (b y))]=.ok (g (ys.map b)) st:=by
 rw [show (ys.map fun y=>PV.bl (b y))=(ys.map b).map .bl by rw [G6]; rfl,Q4j]
@[simp] theorem Q5k {α:Type} (g:List Int->Option PV) (st:Q0) (ys:List α) (b:α->Int):Wr g st [.lst (ys.map fun y=>.int (b y))]=okO st (g (ys.map b)):=by
 rw [show (ys.map fun y=>PV.int (b y))=(ys.map b).map .int by rw [G6]; rfl,Qau]
theorem Xj {α:Type} (g:α->PV) {xs:List α} (I:Nat->Gam->Q0->Prop) {ga:GA} {body:MS} {w:Wt} (G:∀ i Γ st,I i Γ st->wOk w st)
  (h:∀ (i:Nat) x Γ st,xs[i]?=some x->I i Γ st->∃ Γ1,ga (g x) Γ=some Γ1/\∃ B q,body Γ1 st=.nx B q/\I (i + 1) B q) {Γ:Gam} {st:Q0} (h0:I 0 Γ st):∃ j st',yq ga body w (xs.map g) Γ st=.nx j st'/\I xs.length j st':=by
 induction xs generalizing I Γ st with
 | nil=>exact ⟨Γ,st,by simp [yq,G 0 Γ st h0],h0⟩
 | cons x xs Y=>
  obtain ⟨Γ1,h1,B,q,e2,J⟩:=h 0 x Γ st rfl h0;obtain ⟨j,st',e3,O⟩:=Y (fun i=>I (i + 1)) (fun i Γ st z=>G (i + 1) Γ st z) (fun i y Γ st U z=>h (i + 1) y Γ st (by simpa using U) z) J
  refine ⟨j,st',?_,O⟩;rw [F7,yq,bO (G 0 Γ st h0),h1];simp only [e2];exact e3
theorem Qaj {α:Type} (g:α->PV) {xs:List α} (I:List α->Gam->Q0->Prop) {ga:GA} {body:MS} {w:Wt} (J:∀ pre Γ st,I pre Γ st->wOk w st)
  (h:∀ pre x j Γ st,xs=pre ++ x :: j->I pre Γ st->∃ Γ1,ga (g x) Γ=some Γ1/\∃ B z,body Γ1 st=.nx B z/\I (pre ++ [x]) B z) {Γ:Gam} {st:Q0} (h0:I [] Γ st):∃ q st',yq ga body w (xs.map g) Γ st=.nx q st'/\I xs q st':=by
 have G:∀ (j pre:List α) (Γ:Gam) (st:Q0),xs=pre ++ j->I pre Γ st->∃ q st',yq ga body w (j.map g) Γ st=.nx q st'/\I xs q st':=by
  intro j
  induction j with
  | nil=>intro pre Γ st e i; exact ⟨Γ,st,by simp [yq,J pre Γ st i],by rw [e,L6]; exact i⟩
  | cons x j Y=>
   intro pre Γ st e i;obtain ⟨Γ1,h1,B,z,e2,O⟩:=h pre x j Γ st e i;obtain ⟨q,st',e3,U⟩:=Y (pre ++ [x]) B z (by rw [e]; simp) O;refine ⟨q,st',?_,U⟩;rw [F7,yq,bO (J pre Γ st i),h1];simp only [e2];exact e3
 exact G xs [] Γ st rfl h0
theorem qz {α β:Type} (f:α->PV) (g:β->PV) (xs:List α) (ys:List β):Q5z (xs.map f) (ys.map g)=(xs.zip ys).map fun z=>.tup [f z.1,g z.2]:=by
 rw [Qb0,List.zip_map,G6]; rfl
theorem Q5j {α:Type} (f:α->PV):∀ (n:Nat) (xs:List α),qd n (xs.map f)=(xs.zipIdx n).map fun z=>.tup [.int (z.2:Nat),f z.1]
 | n,[]=>rfl
 | n,x :: xs=>by rw [F7,qd,Q5j f (n + 1) xs]; rfl
theorem Ws {α:Type} (f:α->PV) (xs:List α) (i:Int):atI (xs.map f) i=(atI xs i).map f:=by
 unfold atI;rw [O2];cases ixN xs.length i with
 | none=>rfl
 | some j=>simp [E2]
theorem atI_get {α:Type} {xs:List α} {i:Nat} {x:α} (h:xs[i]?=some x):atI xs (i:Int)=some x:=by
 have j:=(O0.mp h).1;unfold atI ixN;rw [bO (by omega),bO (by omega)];simpa using h
theorem ze {α:Type} (f:α->PV) (xs:List α) (l h:Option Int):cut (xs.map f) l h=(cut xs l h).map f:=by
 unfold cut;rw [O2,<- List.map_drop,<- gV]
theorem Y7 (n:Nat):Jb 0 n=(bS n).map fun (k:Nat)=>PV.int (k:Int):=by
 unfold Jb;refine dE fun k _=>?_
 rw [Int.zero_add]
@[simp] theorem J1t {α:Type} (st l:List α) (c:α):(st ++ c :: l)[st.length]?=some c:=by
 rw [D2 (O7 _),cY]; rfl
@[simp] theorem J0y {α:Type} (st l:List α) (c d:α):(st ++ c :: d :: l)[st.length + 1]?=some d:=by
 rw [D2 (by omega)];rw [show st.length + 1 - st.length=1 by omega]; rfl
@[simp] theorem J1s {α:Type} (st l:List α) (c d:α):(st ++ c :: l).set st.length d=st ++ d :: l:=by
 rw [gW _ _ (O7 _),cY]; rfl
@[simp] theorem J0x {α:Type} (st l:List α) (c j d:α):(st ++ c :: j :: l).set (st.length + 1) d=st ++ c :: d :: l:=by
 rw [gW _ _ (by omega),show st.length + 1 - st.length=1 by omega]; rfl
@[simp] theorem J1q (st:Q0) (i:Nat) (g:List PV->Option (PV × List PV)):chg st (.ref i) g=(match st[i]? with | some (.lst xs)=>(match g xs with | some (r,ys)=>.ok r (st.set i (.lst ys)) | none=>.stuck) | _=>.stuck):=rfl
@[simp] theorem J1f (st:Q0) (i:Nat):U2 st (.ref i)=(match st[i]? with | some (.lst xs)=>some xs | _=>none):=rfl
@[simp] theorem Qnn (st:Q0) (i:Nat):Q0i st (.ref i)=(match st[i]? with | some (.lst xs)=>some xs | _=>none):=rfl
@[simp] theorem Q3y (st:Q0) (i:Nat):Xb st (.ref i)=(match st[i]? with | some (.lst xs)=>some xs | _=>none):=rfl
@[simp] theorem Qqr (st:Q0) (i:Nat):Vn st (.ref i)=(match st[i]? with | some (.lst xs)=>some (xs,[(i,.lst xs)]) | _=>none):=rfl
@[simp] theorem Qu8 (st:Q0) (p y:PV):Wv st p [y]=chg st p fun xs=>if xs.length < lim then some (.non,xs ++ [y]) else none:=rfl
@[simp] theorem J0p (st:Q0) (i:Nat):Vh st [.ref i]=(match st[i]? with | some (.lst xs)=>.ok (.tup xs) st | _=>.stuck):=by
 unfold Vh; simp only [Q3y];cases st[i]? with
 | none=>rfl
 | some c=>cases c <;> rfl
@[simp] theorem J1r (st:Q0) (i:Nat):Q34 st [.ref i]=(match st[i]? with | some (.lst xs)=>.ok (.lst xs) st | _=>.stuck):=by
 unfold Q34; simp only [Q3y];cases st[i]? with
 | none=>rfl
 | some c=>cases c <;> rfl
@[simp] theorem Qpr (st:Q0) (i:Nat):Zt st [.ref i]=(match st[i]? with | some (.lst xs)=>.ok (.int xs.length) st | _=>.stuck):=by
 unfold Zt; simp only [Q3y];cases st[i]? with
 | none=>rfl
 | some c=>cases c <;> rfl
@[simp] theorem Qzs (st:Q0) (i:Nat) (j:Int):oIx st (.ref i) (.int j)=(match st[i]? with | some (.lst xs)=>okO st (atI xs j) | _=>.stuck):=by
 unfold oIx; simp only [Q3y];cases st[i]? with
 | none=>rfl
 | some c=>cases c <;> rfl
@[simp] theorem Qr0 (st:Q0) (k:Nat) (j:Int) (p:PV):Q11 st (.ref k) (.int j) p=(match st[k]? with | some (.lst xs)=>(ixN xs.length j).map fun n=>st.set k (.lst (xs.set n p)) | _=>none):=rfl
theorem yt {α:Type} (xs:List α) (k:Nat):cut xs none (some (k:Int))=xs.take k:=by
 unfold cut;rw [HT.sIx_none,HT.sIx_nat,dq,gP];rcases gX k xs.length with h | h
 ·rw [gY h]
 ·rw [gZ h,fC,gc h]
theorem Q23 {α:Type} (xs:List α) (k:Nat):cut xs (some (k:Int)) none=xs.drop k:=by
 unfold cut;rw [HT.sIx_none,HT.sIx_nat];rcases gX k xs.length with h | h
 ·rw [gY h,gc (by rw [cR]; omega)]
 ·rw [gZ h,fJ,List.drop_of_length_le h]; simp
theorem getD_some {α:Type} {l:List α} {j:Nat} (h:j < l.length) (d:α):l[j]?=some (l.getD j d):=by
 rw [ba,O5 h]; rfl
def ListAt (st:Q0) (V:PV) (xs:List PV):Prop:=V=.lst xs\/V=.fro xs\/∃ i,V=.ref i/\st[i]?=some (.lst xs)
theorem ListAt.ix {st:Q0} {V:PV} {xs:List PV} (h:ListAt st V xs) (j:Int):oIx st V (.int j)=okO st (atI xs j):=by
 rcases h with rfl | rfl | ⟨i,rfl,e⟩
 ·rfl
 ·rfl
 ·rw [Qzs,e]
theorem ListAt.len {st:Q0} {V:PV} {xs:List PV} (h:ListAt st V xs):Zt st [V]=.ok (.int xs.length) st:=by
 rcases h with rfl | rfl | ⟨i,rfl,e⟩
 ·rfl
 ·rfl
 ·rw [Qpr,e]
theorem ListAt.src {st:Q0} {V:PV} {xs:List PV} (h:ListAt st V xs):∃ w,Vn st V=some (xs,w)/\wOk w st:=by
 rcases h with rfl | rfl | ⟨i,rfl,e⟩
 ·exact ⟨[],rfl,by simp⟩
 ·exact ⟨[],rfl,by simp⟩
 ·exact ⟨[(i,.lst xs)],by rw [Qqr,e],by simp [wOk,e]⟩
theorem Qjd {α:Type} (g:α->PV) {xs:List α} (I:Nat->List PV->Q0->Prop) {ga:GA} {me:ME} {w:Wt} {Γ0:Gam} (B:∀ i j st,I i j st->wOk w st)
  (h:∀ (i:Nat) x j st,xs[i]?=some x->I i j st->∃ Γ1,ga (g x) Γ0=some Γ1/\∃ v q,me Γ1 st=.ok v q/\I (i + 1) (j ++ [v]) q) {st:Q0} (h0:I 0 [] st):∃ j st',Qw ga Qp me w Γ0 (xs.map g) st=.ok j st'/\I xs.length j st':=by
 have z:∀ (ys:List α) (k:Nat) (pre:List PV) (st:Q0),(∀ i,ys[i]?=xs[k + i]?)->k + ys.length=xs.length->I k pre st->∃ j st',Qw ga Qp me w Γ0 (ys.map g) st=.ok j st'/\I xs.length (pre ++ j) st':=by
  intro ys
  induction ys with
  | nil=>
   intro k pre st e e2 i;refine ⟨[],st,by simp [Qw,B k pre st i],?_⟩;rw [L6,<- e2]; exact i
  | cons y ys Y=>
   intro k pre st e e2 i;have G:xs[k]?=some y:=by have:=e 0; simpa using this.symm
   obtain ⟨Γ1,h1,v,q,h2,J⟩:=h k y pre st G i;obtain ⟨j,st',U,O⟩:=Y (k + 1) (pre ++ [v]) q (fun i=>by
    have:=e (i + 1);rw [gR] at this;rw [this]; congr 1; omega) (by rw [<- e2,D8]; omega) J
   refine ⟨v :: j,st',?_,by simpa using O⟩;rw [F7,Qw,bO (B k pre st i),h1];simp [Qp,h2,U]
 obtain ⟨j,st',h1,h2⟩:=z xs 0 [] st (fun i=>by simp) (by simp) h0;exact ⟨j,st',h1,by simpa using h2⟩
@[simp] theorem Qnm (ma mb:ME) (Γ:Gam) (st:Q0):Qaf ma mb Γ st=(ma Γ st).bind fun x j=>(mb Γ j).bind fun y q=>Qh0 q x y:=rfl
theorem Qt2 {n k:Nat} (h:k < n):ixN n (k:Int)=some k:=by
 unfold ixN;rw [bO (by omega),bO (by omega)];simp
theorem Q2b:∀ {xs:List PV},(∀ x∈xs,peq x x=true)->peqL xs xs=true
 | [],_=>rfl
 | x :: xs,h=>by
  rw [peqL,h x D6,Q2b fun y j=>h y (D1 _ j)]; rfl
theorem ji:∀ {n:Nat} {p:PV},Jk n p=true->peq p p=true
 | n,.non,_=>rfl
 | n,.bl b,_=>by simp [peq]
 | n,.int b,_=>by simp [peq]
 | n,.str b,_=>by simp [peq]
 | n,.ref _,g=>by cases n <;> simp [Jk] at g
 | n,.dic,g=>by cases n <;> simp [Jk] at g
 | 0,.tup _,g=>by simp [Jk] at g
 | 0,.lst _,g=>by simp [Jk] at g
 | 0,.fro _,g=>by simp [Jk] at g
 | n + 1,.tup xs,g=>by
  rw [peq]; refine Q2b fun x j=>ji (n:=n) ?_
  simp [Jk] at g; exact g x j
 | n + 1,.lst xs,g=>by
  rw [peq]; refine Q2b fun x j=>ji (n:=n) ?_
  simp [Jk] at g; exact g x j
 | n + 1,.fro xs,g=>by
  rw [peq]; refine Q2b fun x j=>ji (n:=n) ?_
  simp [Jk] at g; exact g x j
theorem ListAt.eqs {st:Q0} {V:PV} {xs:List PV} (h:ListAt st V xs) (g:Jk dep (.lst xs)=true):oNe st (.lst xs) V=.ok (.bl false) st/\oNe st V (.lst xs)=.ok (.bl false) st/\oEq st (.lst xs) V=.ok (.bl true) st/\oEq st V (.lst xs)=.ok (.bl true) st:=by
 have hp:peqL xs xs=true:=by have:=ji g; rwa [peq] at this
 have g2:Jk dep (.fro xs)=true:=g;rcases h with rfl | rfl | ⟨i,rfl,e⟩
 ·simp [oNe,oEq,der,g,peq,hp]
 ·simp [oNe,oEq,der,g,g2,peq,hp]
 ·simp [oNe,oEq,der,g,g2,peq,hp,e]
def Yb (body:MS) (nl:Nat):FN:=fun ps st=>match body (ps.map some ++ bV (nl - ps.length) none) st with
 | .rt v st'=>.ok v st'
 | .nx _ st'=>.ok .non st'
 | .exc x st'=>.exc x st'
 | _=>.stuck
section
variable {P:aP} {w:aO} {K:bU} {mg:Str->Option aB} {base:Heap}
theorem Qt9 {x qual:Str} {st:aK} {f:aA} {fd:aN} {N ps:List Str} {k:Nat} {m:MS} (F:Fun K x qual st f fd) (S:FnScope N ps (Q6 st))
  (Y:∀ (q:aB) (A:aR) (outer:List dw) (s:aC) (H:Hp) (E:XK),Room k (A.deeper (dy qual (Q6 st) s.heap.objs.size f q))->SimB (cxD P w K mg base N qual (Q6 st) f q A outer s H E) E (Yd st) m) :
  FnOk P w K mg base (CXD P w) (k + 1) f fd ps (spF mg ps.length (Yb m N.length)):=by
 refine Fun.okD F S (fun vs H Q E h=>h.1) fun q A outer s H vs Q E U O=>⟨_,Q7g,?_⟩
 obtain ⟨hl,ρ,G,I,R,rl,j⟩:=O;refine (Y q A outer s H E U).run _ (L2.start N vs) H ρ G _ R (Q9y rl) ?_;unfold Yb at j;cases B:m (I.map some ++ bV (N.length - I.length) none) G with
 | rt v z=>rw [B] at j; exact fun v H' ρ' x J r=>j H' ρ' x J v r
 | nx Γ z=>rw [B] at j; exact fun a2 H' ρ' Z J G'=>j H' ρ' Z J .non rfl
 | bk Γ z=>rw [B] at j; exact j.elim
 | ct Γ z=>rw [B] at j; exact j.elim
 | stuck=>rw [B] at j; exact j.elim
 | exc y z=>rw [B] at j; exact j
end
theorem Qe5 {P:aP} {w:aO} {K:bU} {mg:Str->Option aB} {base:Heap} {x qual:Str} {st:aK} {f:aA} {fd:aN} {N ps:List Str} {k n nl:Nat} {m:MS} {z:FN} (F:Fun K x qual st f fd) (S:FnScope N ps (Q6 st)) (G:ps.length=n) (q:N.length=nl) (I:z=Yb m nl)
  (B:∀ (j:aB) (A:aR) (outer:List dw) (s:aC) (H:Hp) (E:XK),Room k (A.deeper (dy qual (Q6 st) s.heap.objs.size f j))->SimB (cxD P w K mg base N qual (Q6 st) f j A outer s H E) E (Yd st) m) :
  FnOk P w K mg base (CXD P w) (k + 1) f fd ps (spF mg n z):=by
 subst G; subst q; subst I;exact Qt9 F S B
def Q3f (w:Str):V:=if w = "make" then .int 3 else if w = "lend" then .int 4 else if w = "use" then .int 3 else .non
structure PartsOk (P:aP) (w:aO) (K:bU) (mg:Str->Option aB):Prop where
 ex:∃ (a:aA) (o:Obj) (es:Array DictEntry) (ep:Nat),mg "PARTS_OF_DEED" = some (.ref a)/\K.lookup a=some o/\o.cls=.type "dict" /\ o.ExactDict/\o.data=.dict es ep/\KeysOf (Qt P w) es/\(a == ai)=false/\∀ x,RelV (Q3f x) ((findBy (Qt P w).is es (.inr x)).getD .none)
def Qfv (m:ME):ME:=fun Γ st=>(m Γ st).bind fun p st1=>match p with
 | .str x=>if x = "make" then .ok (.int 3) st1 else if x = "lend" then .ok (.int 4) st1 else if x = "use" then .ok (.int 3) st1 else .ok .non st1
 | _=>.stuck
section
variable {X:Cx} {E:XK} {pos:Pos} {e:aD} {m:ME}
theorem Qkv {p apos cpos:Pos} (PO:PartsOk X.prog X.w X.K X.mg) (Y:Gl X "PARTS_OF_DEED") (he:SimE X E e m)
  (base:ak (.Name "PARTS_OF_DEED" p) "get" X.env (aL (.Name "PARTS_OF_DEED" p) X.env)=aL (.Name "PARTS_OF_DEED" p) X.env:=by rfl)
  (few:((aU cpos (aM [e] X.env)).all (fun x=>!x.1) && (backToKw cpos (keywordEach [] X.env)).all (fun x=>x.1.isSome)
   && decide (([e]:List aD).length + ([]:List Keyword).length + (if ([]:List Keyword).isEmpty then 0 else 1) < 30))=true:=by rfl)
  (line:(apos.endLine == cpos.line)=true:=by rfl) (trees:aU cpos (aM [e] X.env)=[(false,aL e X.env)]:=by rfl) :
  SimE X E (.Call (.Attribute (.Name "PARTS_OF_DEED" p) "get" apos) [e] [] cpos) (Qfv m):=by
 obtain ⟨a,o,es,ep,Z,pl,U,O,pd,pk,ps,J⟩:=PO.ex;refine ⟨fun Γ σ H ρ st Q R G h=>WE.of (Qd3 (val:=Q3f) Y Z pl U O pd pk ps J Ye (by decide) base few line trees) (he.use R G h.bind fun q j H1 ρ1 v x1 B G1 r1 h1=>?_)⟩;cases q with
 | str x=>
  cases r1;have h1:Acc X.mg E H1 ρ1 (QV Q) (if x = "make" then .ok (.int 3) j else if x = "lend" then .ok (.int 4) j else if x = "use" then .ok (.int 3) j else .ok .non j):=h1
  by_cases a1:x = "make"
  ·rw [bO a1] at h1;exact ⟨x,rfl,by unfold Q3f; rw [bO a1]; exact now B h1 rfl⟩
  ·rw [bP a1] at h1
   by_cases z:x = "lend"
   ·rw [bO z] at h1;exact ⟨x,rfl,by unfold Q3f; rw [bP a1,bO z]; exact now B h1 rfl⟩
   ·rw [bP z] at h1
    by_cases I:x = "use"
    ·rw [bO I] at h1;exact ⟨x,rfl,by unfold Q3f; rw [bP a1,bP z,bO I]; exact now B h1 rfl⟩
    ·rw [bP I] at h1;exact ⟨x,rfl,by unfold Q3f; rw [bP a1,bP z,bP I]; exact now B h1 rfl⟩
 | _=>exact h1.elim
end
section
theorem Qms {P:aP} {w:aO} {K:bU} {mg:Str->Option aB} {I:aA} {t1 t2 G j q B:Tok} {Z:Nat} (hm:mg "PARTS_OF_DEED" = some (.ref I))
  (lk:K.lookup I=some ⟨.type "dict",none,.dict #[⟨PyData.keyHash w.params "make",.str "make" t1,.int 3 j⟩,⟨PyData.keyHash w.params "lend",.str "lend" t2,.int 4 q⟩,⟨PyData.keyHash w.params "use",.str "use" G,.int 3 B⟩] Z,#[]⟩) (hp:(I == ai)=false):PartsOk P w K mg:=by
 refine ⟨I,_,_,_,hm,lk,rfl,⟨rfl,rfl,rfl⟩,rfl,fun e Y=>?_,hp,fun x=>?_⟩
 ·simp only [gd,E3,cZ,or_false] at Y;rcases Y with rfl | rfl | rfl
  ·exact ⟨.inr "make",by simp [Qt,Kz,bp],rfl⟩
  ·exact ⟨.inr "lend",by simp [Qt,Kz,bp],rfl⟩
  ·exact ⟨.inr "use",by simp [Qt,Kz,bp],rfl⟩
 ·unfold Q3f
  by_cases e1:x = "make"
  ·rw [bO e1]; subst e1;have:findBy (Qt P w).is #[⟨PyData.keyHash w.params "make",.str "make" t1,.int 3 j⟩,⟨PyData.keyHash w.params "lend",.str "lend" t2,.int 4 q⟩,⟨PyData.keyHash w.params "use",.str "use" G,.int 3 B⟩] (.inr "make")=some (.int 3 j):=by first | rfl | decide +kernel
   rw [this]; exact ⟨_,rfl⟩
  ·rw [bP e1]
   by_cases e2:x = "lend"
   ·rw [bO e2]; subst e2;have:findBy (Qt P w).is #[⟨PyData.keyHash w.params "make",.str "make" t1,.int 3 j⟩,⟨PyData.keyHash w.params "lend",.str "lend" t2,.int 4 q⟩,⟨PyData.keyHash w.params "use",.str "use" G,.int 3 B⟩] (.inr "lend")=some (.int 4 q):=by first | rfl | decide +kernel
    rw [this]; exact ⟨_,rfl⟩
   ·rw [bP e2]
    by_cases e3:x = "use"
    ·rw [bO e3]; subst e3;have:findBy (Qt P w).is #[⟨PyData.keyHash w.params "make",.str "make" t1,.int 3 j⟩,⟨PyData.keyHash w.params "lend",.str "lend" t2,.int 4 q⟩,⟨PyData.keyHash w.params "use",.str "use" G,.int 3 B⟩] (.inr "use")=some (.int 3 B):=by first | rfl | decide +kernel
     rw [this]; exact ⟨_,rfl⟩
    ·rw [bP e3];have U:¬ (bT "make" = x):=fun z=>e1 z.symm
     have O:¬ (bT "lend" = x):=fun z=>e2 z.symm
     have J:¬ (bT "use" = x):=fun z=>e3 z.symm
     have:findBy (Qt P w).is #[⟨PyData.keyHash w.params "make",.str "make" t1,.int 3 j⟩,⟨PyData.keyHash w.params "lend",.str "lend" t2,.int 4 q⟩,⟨PyData.keyHash w.params "use",.str "use" G,.int 3 B⟩] (.inr x)=none:=by
      simp [findBy,Qt,Kz,bp,U,O,J]
     rw [this]; rfl
end
def Q5p (k1 k2 k3:Str) (p1 p2 p3:PV) (st4:Q0):PV->Res PV
 | .str x=>if x=k1 then .ok p1 st4 else if x=k2 then .ok p2 st4 else if x=k3 then .ok p3 st4 else .stuck
 | _=>.stuck
def Qdr (k1 k2 k3:Str) (m1 m2 m3 mi:ME):ME:=fun Γ st=>(m1 Γ st).bind fun p1 st1=>(m2 Γ st1).bind fun p2 st2=>(m3 Γ st2).bind fun p3 st3=>(mi Γ st3).bind fun q st4=>Q5p k1 k2 k3 p1 p2 p3 st4 q
section
variable {X:Cx} {E:XK} {pos dpos:Pos} {e1 e2 e3 i:aD} {m1 m2 m3 mi:ME} {k1 k2 k3:Str} {j1 j2 j3:Nat} {q1 q2 q3:Pos}
theorem Qr5 (hu:X.A.units + 1 < ae) (h1:SimE X E e1 m1) (h2:SimE X E e2 m2) (h3:SimE X E e3 m3) (hi:SimE X E i mi) (hs:Qtw i) (a6:k1≠k2:=by decide) (a7:k1≠k3:=by decide) (a9:k2≠k3:=by decide) :
  SimE X E (.Subscript (.Dict [some (.Constant (.str k1) j1 q1),some (.Constant (.str k2) j2 q2),some (.Constant (.str k3) j3 q3)] [e1,e2,e3] dpos) i pos) (Qdr k1 k2 k3 m1 m2 m3 mi):=by
 refine ⟨fun Γ σ H ρ st Q R G h=>WE.of (Qgu hu (Qgt (yj Q1k Ye (yj Q1k Ye (yj Q1k Ye Qgs))) rfl rfl (by simp) (by simp)) Ye hs) ?_⟩;intro p hp;have x0:Ext H ρ (upd H p (.dK [])) (ρ.hide p):=Ext.hide hp;refine h1.use' (R.hide hp) (G.hide hp) (h.bind.later x0) fun a1 b5 H1 ρ1 O f1 x1 R1 G1 r1 _=>?_
 have h:=h;unfold Qdr at h;rw [f1] at h;have h:Acc X.mg E H ρ (QV Q) ((m2 Γ b5).bind fun p2 a5=>(m3 Γ a5).bind fun p3 I=>(mi Γ I).bind fun q j=>Q5p k1 k2 k3 a1 p2 p3 j q):=h
 refine h2.use' R1 G1 (h.bind.later (x0.trans x1)) fun a2 a5 H2 b6 J f2 x2 R2 G2 r2 _=>?_
 rw [f2] at h;have h:Acc X.mg E H ρ (QV Q) ((m3 Γ a5).bind fun p3 I=>(mi Γ I).bind fun q j=>Q5p k1 k2 k3 a1 a2 p3 j q):=h
 refine h3.use' R2 G2 (h.bind.later ((x0.trans x1).trans x2)) fun a3 I H3 Z U f3 x3 R3 G3 r3 _=>?_
 rw [f3] at h;have h:Acc X.mg E H ρ (QV Q) ((mi Γ I).bind fun q j=>Q5p k1 k2 k3 a1 a2 a3 j q):=h
 have a8:Ext H ρ H3 Z:=((x0.trans x1).trans x2).trans x3;have xe:Ext (upd H p (.dK [])) (ρ.hide p) H3 Z:=(x1.trans x2).trans x3;have b4:p∉(ρ.hide p).tr:=fun z=>R.fresh hp (.inl z)
 have b0:H3 p=some (.dK []):=xe.keep p _ J5 b4;have B:p∈Z.hid:=xe.hidM p D6;refine ⟨b0,[(.inr k1,O),(.inr k2,J),(.inr k3,U)],rfl,by simp,?_⟩;have hm:Q0a [] [((.inr k1:Key),O),(.inr k2,J),(.inr k3,U)]=[(.inr k1,O),(.inr k2,J),(.inr k3,U)]:=by
  simp [Q0a,Q97,a6,a7,a9]
 rw [hm];obtain ⟨o,ho⟩:∃ o:HO,o=.dK [(.inr k1,O),(.inr k2,J),(.inr k3,U)]:=⟨_,rfl⟩;rw [<- ho];have y:Ext H ρ (upd H3 p o) Z:=a8.put0 hp;refine hi.use' (R3.rehide B (by intro _ z; rw [ho] at z; cases z)) (G3.rehide B) (h.bind.later y) fun q j H4 Y v4 f4 x4 R4 G4 r4 _=>?_
 rw [f4] at h;have h:Acc X.mg E H ρ (QV Q) (Q5p k1 k2 k3 a1 a2 a3 j q):=h;have yz:Ext H ρ H4 Y:=y.trans x4;have a4:H4 p=some o:=x4.keep p _ J5 fun z=>R3.ap p B z
 have g1:Rep H4 Y a1 O:=(((r1.ext x2).ext x3).rehide B).ext x4;have g2:Rep H4 Y a2 J:=((r2.ext x3).rehide B).ext x4;have g3:Rep H4 Y a3 U:=(r3.rehide B).ext x4;cases q with
 | str x=>
  cases r4;have h:Acc X.mg E H ρ (QV Q) (if x=k1 then .ok a1 j else if x=k2 then .ok a2 j else if x=k3 then .ok a3 j else .stuck):=h;rw [ho] at a4
  by_cases b1:x=k1
  ·rw [bO b1] at h;refine ⟨p,O,rfl,?_,h _ _ yz.unhide (R4.unhide yz.hidM) _ (g1.unhide yz.hidM)⟩;have:=DGet.k (k:=.inr x) a4
   rwa [show j6 [((.inr k1:Key),O),(.inr k2,J),(.inr k3,U)] (.inr x)=some O by rw [b1]; simp [j6]] at this
  ·rw [bP b1] at h
   by_cases b2:x=k2
   ·rw [bO b2] at h;refine ⟨p,J,rfl,?_,h _ _ yz.unhide (R4.unhide yz.hidM) _ (g2.unhide yz.hidM)⟩;have:=DGet.k (k:=.inr x) a4
    rwa [show j6 [((.inr k1:Key),O),(.inr k2,J),(.inr k3,U)] (.inr x)=some J by rw [b2]; simp [j6,a6]] at this
   ·rw [bP b2] at h
    by_cases b3:x=k3
    ·rw [bO b3] at h;refine ⟨p,U,rfl,?_,h _ _ yz.unhide (R4.unhide yz.hidM) _ (g3.unhide yz.hidM)⟩;have:=DGet.k (k:=.inr x) a4
     rwa [show j6 [((.inr k1:Key),O),(.inr k2,J),(.inr k3,U)] (.inr x)=some U by rw [b3]; simp [j6,a7,a9]] at this
    ·rw [bP b3] at h; exact h.elim
 | _=>exact h.elim
end
def Qbu (x name:Str) (m:ME):MS:=fun Γ st=>(m Γ st).sbind fun p st1=>.exc ⟨x,some (name,p)⟩ st1
section
variable {X:Cx} {E:XK} {pos:Pos} {e:aD} {m:ME}
theorem Qhw {x name:Str} {C W f:aA} {fd:aN} {k:Nat} {ps:List Str} {Z cpos:Pos} (j:X.calm=true) (Y:Q91 X E) (M:XMade X.K C W f) (GI:FnOk X.prog X.w X.K X.mg X.base CX0 k f fd ps (Q73 C name)) (O:Room (k + 1) X.A)
  (hb:Binds X.K fd ps []) (U:Gl X x) (I:X.mg x=some (.ref C)) (he:SimE X E e m) (B:(x == ("__debug__" : Str))=false:=by decide) (q:aM [e] X.env=[(false,aL e X.env)]:=by rfl) :
  SimS X E (.Raise (some (.Call (.Name x Z) [e] [] cpos)) none pos) (Qbu x name m):=
 ⟨fun Γ σ H ρ st D R G h=>WS.of (Qi9 j Y M GI O hb U I (Q04 Ye Q7k (by rw [q]; rfl)) B q) (he.use R G h.bind fun p a2 H1 ρ1 v x1 J G1 r1 h1=>
  ⟨v,rfl,fun dx z=>h1 C (some dx) _ ρ1 I (Ext.add z) (J.add z) ⟨dx,v,rfl,J5,J.fresh z,r1.ext (Ext.add z)⟩⟩)⟩
end
@[simp] theorem Qxw (m:ME) (Γ:Gam) (st:Q0):Qfv m Γ st=(m Γ st).bind fun p j=>(match p with
 | .str x=>if x = "make" then .ok (.int 3) j else if x = "lend" then .ok (.int 4) j else if x = "use" then .ok (.int 3) j else .ok .non j
 | _=>.stuck):=rfl
@[simp] theorem Qnh (k1 k2 k3:Str) (m1 m2 m3 mi:ME) (Γ:Gam) (st:Q0):Qdr k1 k2 k3 m1 m2 m3 mi Γ st=(m1 Γ st).bind fun J B=>(m2 Γ B).bind fun p2 j=>(m3 Γ j).bind fun I z=>(mi Γ z).bind fun q G=>Q5p k1 k2 k3 J p2 I G q:=rfl
@[simp] theorem Q4w (k1 k2 k3:Str) (z p2 q:PV) (j:Q0) (x:Str):Q5p k1 k2 k3 z p2 q j (.str x)=if x=k1 then .ok z j else if x=k2 then .ok p2 j else if x=k3 then .ok q j else .stuck:=rfl
@[simp] theorem Qwj (x name:Str) (m:ME) (Γ:Gam) (st:Q0):Qbu x name m Γ st=(m Γ st).sbind fun p j=>.exc ⟨x,some (name,p)⟩ j:=rfl
theorem Qr9 {k:Nat} {A:aR} (r:Room k A):A.units + 1 < ae:=by have:=r.un; omega
section
variable {H0 H:Hp} {ρ0 ρ:Tk} {st:Q0} {a:aA} {ps:List (Key × PV)} {vs:List (Key × V)}
theorem Qmt (Z:Rel H0 ρ0 st) (x:Ext H0 ρ0 H ρ) {j:Q0} (R:Rel H ρ j) (G:a∈ρ.hid) (U:H0 a=none) (ha:H a=some (.dK vs)) (r:RepD H ρ ps vs) :
  Ext H0 ρ0 H ⟨ρ.tr ++ [a],ρ0.hid⟩/\Rel H ⟨ρ.tr ++ [a],ρ0.hid⟩ (j ++ [.dic ps])/\Rep H ⟨ρ.tr ++ [a],ρ0.hid⟩ (.ref j.length) (.ref a):=by
 have J:a∉ρ0.hid:=fun z=>by
  obtain ⟨o,e,_⟩:=Z.hd a z;rw [U] at e; cases e
 refine ⟨⟨x.pre.trans (dM _ _),fun _ h=>h,fun _ h=>.inl h,x.keep,fun b B=>?_,x.old,x.frz⟩,⟨?_,?_,fun b B=>R.hd b (x.hidM b B),fun b B z=>?_,fun i b c h1 h2=>?_⟩,a,?_,rfl⟩
 ·rcases F6.mp B with z | z
  ·exact x.new b z
  ·have:b=a:=by simpa using z
   subst this; exact .inr U
 ·show (ρ.tr ++ [a]).length=_;rw [O6,O6,R.len]; rfl
 ·show (ρ.tr ++ [a]).Nodup;refine dm.mpr ⟨R.nd,by simp,fun b B c Y e=>?_⟩;have:c=a:=by simpa using Y
  subst this; subst e;exact R.ap b G B
 ·rcases F6.mp z with z | z
  ·exact R.ap b (x.hidM b B) z
  ·have:b=a:=by simpa using z
   subst this; exact J B
 ·have h1:(ρ.tr ++ [a])[i]?=some b:=h1
  by_cases hi:i < j.length
  ·rw [O4 (by rw [R.len]; exact hi)] at h1;rw [O4 hi] at h2;have q:=R.cell i b c h1 h2;cases c with
   | lst I=>
    obtain ⟨us,e1,e2⟩:=q;exact ⟨us,e1,e2.trk G x.hidM⟩
   | dic I=>
    obtain ⟨us,e1,e2⟩:=q;exact ⟨us,e1,e2.1,e2.2.trk G x.hidM⟩
   | dtp I=>
    obtain ⟨us,e1,e2⟩:=q;exact ⟨us,e1,e2.1,e2.2.trk G x.hidM⟩
   | frd I=>
    obtain ⟨us,e1,e2⟩:=q;exact ⟨us,e1,e2.1,e2.2.trk G x.hidM⟩
   | obj C I=>
    obtain ⟨us,e1,e2⟩:=q;exact ⟨us,e1,e2.1,e2.2.trk G x.hidM⟩
  ·rw [D2 (by rw [R.len]; omega)] at h1;rw [D2 (by omega)] at h2;have O:i - j.length=0:=by
    rcases fG (i - j.length) with z | z
    ·exact z
    ·rw [F3 (by simp; omega)] at h2; cases h2
   rw [R.len,O] at h1;rw [O] at h2;simp at h1 h2;subst h1; subst h2;exact ⟨vs,ha,r.1,r.2.trk G x.hidM⟩
 ·show (ρ.tr ++ [a])[j.length]?=some a;rw [<- R.len,D2 (O7 _),cY]; rfl
end
def Q2r (kvs:List (Key × PV)) (k:Key):Option PV:=(kvs.find? fun kv=>decide (kv.1=k)).map (·.2)
def Qnt:PV->Option Key
 | .int i=>some (.inl i)
 | .str x=>some (.inr x)
 | _=>none
theorem Qra {H:Hp} {ρ:Tk} {p:PV} {v:V} {k:Key} (e:Qnt p=some k) (r:Rep H ρ p v):v=kV k:=by
 cases p with
 | int i=>cases e; exact r
 | str x=>cases e; exact r
 | _=>cases e
theorem Qcx {H:Hp} {ρ:Tk}:∀ {kvs:List (Key × PV)} {vs:List (Key × V)},RepD H ρ kvs vs->∀ k:Key,(Q2r kvs k=none/\j6 vs k=none)\/∃ p v,Q2r kvs k=some p/\j6 vs k=some v/\Rep H ρ p v
 | [],[],_,k=>.inl ⟨rfl,rfl⟩
 | [],_ :: _,r,_=>by have:=r.length; cases this
 | _ :: _,[],r,_=>by have:=r.length; cases this
 | (k1,z) :: kvs,(k2,j) :: vs,r,k=>by
  obtain ⟨I,v,t,e,B,G⟩:=r;have e1:k2=k1/\vs.map cw=kvs.map cw:=by
   have:k2 :: vs.map cw=k1 :: kvs.map cw:=I;exact List.cons.inj this
  have e2:j :: vs.map fF=v :: t:=e;cases e2;obtain ⟨rfl,e3⟩:=e1
  by_cases q:k2=k
  ·exact .inr ⟨z,j,by simp [Q2r,q],by simp [j6,q],B⟩
  ·have O:=Qcx (kvs:=kvs) (vs:=vs) ⟨e3,G⟩ k;have a1:Q2r ((k2,z) :: kvs) k=Q2r kvs k:=by simp [Q2r,cI,q]
   have J:j6 ((k2,j) :: vs) k=j6 vs k:=by simp [j6,cI,q]
   rw [a1,J]; exact O
section
variable {X:Cx} {E:XK} {pos dpos apos cpos:Pos} {e e1 e2 e3 i o f:aD} {m m1 m2 m3 mi mo mf:ME} {k1 k2 k3:Str} {j1 j2 j3:Nat} {q1 q2 q3:Pos}
def Qbv (k1 k2 k3:Str) (m1 m2 m3:ME):ME:=fun Γ st=>(m1 Γ st).bind fun p1 st1=>(m2 Γ st1).bind fun p2 st2=>(m3 Γ st2).bind fun p3 st3=>.ok (.ref st3.length) (st3 ++ [.dic [(.inr k1,p1),(.inr k2,p2),(.inr k3,p3)]])
theorem Qky (h1:SimE X E e1 m1) (h2:SimE X E e2 m2) (h3:SimE X E e3 m3) (a4:k1≠k2:=by decide) (a6:k1≠k3:=by decide) (a9:k2≠k3:=by decide) :
  SimE X E (.Dict [some (.Constant (.str k1) j1 q1),some (.Constant (.str k2) j2 q2),some (.Constant (.str k3) j3 q3)] [e1,e2,e3] dpos) (Qbv k1 k2 k3 m1 m2 m3):=by
 refine ⟨fun Γ σ H ρ st Q R G h=>WE.of (Qgt (yj Q1k Ye (yj Q1k Ye (yj Q1k Ye Qgs))) rfl rfl (by simp) (by simp)) ?_⟩;intro p hp;have x0:Ext H ρ (upd H p (.dK [])) (ρ.hide p):=Ext.hide hp;refine h1.use' (R.hide hp) (G.hide hp) (h.bind.later x0) fun a1 a8 H1 ρ1 O f1 Z R1 G1 r1 _=>?_
 have h:=h;unfold Qbv at h;rw [f1] at h;have h:Acc X.mg E H ρ (QV Q) ((m2 Γ a8).bind fun p2 I=>(m3 Γ I).bind fun p3 j=>.ok (.ref j.length) (j ++ [.dic [(.inr k1,a1),(.inr k2,p2),(.inr k3,p3)]])):=h
 refine h2.use' R1 G1 (h.bind.later (x0.trans Z)) fun a2 I H2 b0 J f2 x2 R2 G2 r2 _=>?_
 rw [f2] at h;have h:Acc X.mg E H ρ (QV Q) ((m3 Γ I).bind fun p3 j=>.ok (.ref j.length) (j ++ [.dic [(.inr k1,a1),(.inr k2,a2),(.inr k3,p3)]])):=h
 refine h3.use' R2 G2 (h.bind.later ((x0.trans Z).trans x2)) fun a3 j H3 B U f3 x3 R3 G3 r3 _=>?_
 rw [f3] at h;have h:Acc X.mg E H ρ (QV Q) (.ok (.ref j.length) (j ++ [.dic [(.inr k1,a1),(.inr k2,a2),(.inr k3,a3)]])):=h;have Y:Ext H ρ H3 B:=((x0.trans Z).trans x2).trans x3;have xe:Ext (upd H p (.dK [])) (ρ.hide p) H3 B:=(Z.trans x2).trans x3;have a7:p∉(ρ.hide p).tr:=fun z=>R.fresh hp (.inl z)
 have a5:H3 p=some (.dK []):=xe.keep p _ J5 a7;have q:p∈B.hid:=xe.hidM p D6;refine ⟨a5,[(.inr k1,O),(.inr k2,J),(.inr k3,U)],rfl,by simp,?_⟩;have hm:Q0a [] [((.inr k1:Key),O),(.inr k2,J),(.inr k3,U)]=[(.inr k1,O),(.inr k2,J),(.inr k3,U)]:=by
  simp [Q0a,Q97,a4,a6,a9]
 rw [hm];have y:Ext H ρ (upd H3 p (.dK [(.inr k1,O),(.inr k2,J),(.inr k3,U)])) B:=Y.put0 hp;have g1:=((r1.ext x2).ext x3).rehide (o:=.dK [(.inr k1,O),(.inr k2,J),(.inr k3,U)]) q;have g2:=(r2.ext x3).rehide (o:=.dK [(.inr k1,O),(.inr k2,J),(.inr k3,U)]) q;have g3:=r3.rehide (o:=.dK [(.inr k1,O),(.inr k2,J),(.inr k3,U)]) q;obtain ⟨x5,R5,r5⟩:=Qmt (ps:=[(.inr k1,a1),(.inr k2,a2),(.inr k3,a3)]) R y (R3.rehide q) q hp J5 ⟨rfl,RepL.cons g1 (RepL.cons g2 (RepL.cons g3 RepL.nil))⟩;exact h _ _ x5 R5 _ r5
@[simp] theorem Qiv (Γ:Gam) (st:Q0):Qbv k1 k2 k3 m1 m2 m3 Γ st=(m1 Γ st).bind fun G z=>(m2 Γ z).bind fun p2 q=>(m3 Γ q).bind fun B j=>.ok (.ref j.length) (j ++ [.dic [(.inr k1,G),(.inr k2,p2),(.inr k3,B)]]):=rfl
end
def Qaq (st:Q0):PV->Option (List (Key × PV))
 | .ref i=>match st[i]? with
  | some (.dic kvs)=>some kvs
  | some (.frd kvs)=>some kvs
  | _=>none
 | _=>none
theorem Qp8 {H:Hp} {ρ:Tk} {st:Q0} {p:PV} {v:V} {kvs:List (Key × PV)} (R:Rel H ρ st) (r:Rep H ρ p v) (e:Qaq st p=some kvs):∃ i a vs,p=.ref i/\v=.ref a/\ρ.tr[i]?=some a/\Rd H a (.dK vs)/\RepD H ρ kvs vs:=by
 cases p with
 | ref i=>
  obtain ⟨a,B,rfl⟩:=r;unfold Qaq at e;cases z:st[i]? with
  | none=>simp only [z] at e; cases e
  | some c=>
   simp only [z] at e;cases c with
   | dic q=>
    cases e;obtain ⟨b,vs,j,G,rd⟩:=R.dic z;rw [B] at j;cases j;exact ⟨i,a,vs,rfl,rfl,B,.inl G,rd⟩
   | frd q=>
    cases e;obtain ⟨b,vs,o,j,G,rd⟩:=R.frd z;rw [B] at j;cases j;exact ⟨i,a,vs,rfl,rfl,B,.inr ⟨o,G⟩,rd⟩
   | lst xs=>cases e
   | dtp xs=>cases e
   | obj C xs=>cases e
 | _=>cases e
theorem DGet.kr {H:Hp} {a:aA} {kvs:List (Key × V)} {k:Key} (e:Rd H a (.dK kvs)):DGet H a (kV k) (j6 kvs k):=.inl ⟨kvs,k,e,rfl,rfl⟩
section
variable {X:Cx} {E:XK} {pos dpos tpos:Pos} {e i o k:aD} {m mi mo mk:ME}
def J2x (neg:Bool):OP:=fun st p q=>match Qaq st q,Qnt p with
 | some kvs,some k=>.ok (.bl ((Q2r kvs k).isSome != neg)) st
 | _,_=>.stuck
def Q5u (st:Q0) (p q:PV):Res PV:=match Qaq st p,Qnt q with
 | some kvs,some k=>match Q2r kvs k with
  | some v=>.ok v st
  | none=>.stuck
 | _,_=>.stuck
def U1 (mo mi:ME):ME:=fun Γ st=>(mo Γ st).bind fun p st1=>(mi Γ st1).bind fun q st2=>Q5u st2 p q
theorem Qkz (z:X.A.units + 1 < ae) (ho:SimE X E o mo) (hi:SimE X E i mi) (hs:Qtw i):SimE X E (.Subscript o i pos) (U1 mo mi):=
 ⟨fun Γ σ H ρ st Q R G h=>WE.of (Qgu z Ye Ye hs) (ho.use R G h.bind fun p U H1 ρ1 v1 x1 O J Y h1=>hi.use O J h1.bind fun q B H2 a4 v2 x2 R2 G2 r2 h2=>by
  unfold Q5u at h2
  split at h2
  ·rename_i kvs k e1 e2
   split at h2
   ·rename_i w e3;obtain ⟨n,a,vs,rfl,rfl,_,hb,rd⟩:=Qp8 R2 (Y.ext x2) e1;have j:=Qra e2 r2;subst j;rcases Qcx rd k with ⟨a1,_⟩ | ⟨p,v,a1,Z,I⟩
    ·rw [a1] at e3; cases e3
    ·rw [a1] at e3;cases e3;exact ⟨a,v,rfl,by have:=DGet.kr (k:=k) hb; rwa [Z] at this,now R2 h2 I⟩
   ·exact h2.elim
  ·exact h2.elim)⟩
end
end Sm
namespace Sm
open PySem PySem.Spec PyProof.Rows L2
def jh (lo c:Int) (n:Nat):List PV:=(bS n).map fun (k:Nat)=>PV.int (lo + (k:Int) * c)
theorem Q7e (lo c:Int) (n:Nat):(jh lo c n).length=n:=by unfold jh; rw [O2,D5]
theorem Qex {H:Hp} {ρ:Tk} {lo c:Int} {n:Nat}:Src (Qtx lo c n) (jh lo c n) [] H ρ:=by
 have z:=Q7e lo c n;refine ⟨fun H2 q j x R ok=>?_,fun H2 q j x R ok i hi=>?_,fun H2 q j x R ok i p hp y G B=>?_⟩
 ·show n<=(jh lo c n).length;omega
 ·show i < n;omega
 ·obtain ⟨rfl,rfl⟩:=B;have hi:i < n:=by rw [<- z]; exact (O0.mp hp).1
  unfold jh at hp;rw [E2,E4 hi] at hp;cases hp;exact ⟨Same.refl _,rfl⟩
def Q4a (mr:ML):MI:=fun Γ st=>(mr Γ st).bind fun ps st1=>match ps with
 | [.int i,.int j,.int c]=>if c≠0/\-1000000<=i/\i<=1000000/\-1000000<=j/\j<=1000000/\-1000000<=c/\c<=1000000 then .ok (jh i c (rsz i j c),[]) st1 else .stuck
 | _=>.stuck
theorem Qf9 {H:Hp} {ρ:Tk} {p q r:PV} {xs:List V} (h:RepL H ρ [p,q,r] xs):∃ v u t,xs=[v,u,t]/\Rep H ρ p v/\Rep H ρ q u/\Rep H ρ r t:=by
 obtain ⟨v,t,rfl,h1,h2⟩:=h;obtain ⟨u,t,rfl,z,j⟩:=Q1i h2;exact ⟨v,u,t,rfl,h1,z,j⟩
section
variable {X:Cx} {E:XK} {tg:aD} {a b c:aD} {mr:ML} {p pos:Pos}
theorem Qhy (O:Gl X "range") (hm:X.mg "range" = none) (Z:SimA X E [a,b,c] mr) (hs:aM [a,b,c] X.env=[(false,aL a X.env),(false,aL b X.env),(false,aL c X.env)]:=by rfl) (I:aM [b,c] X.env=[(false,aL b X.env),(false,aL c X.env)]:=by rfl):SimI X E tg (.Call (.Name "range" p) [a,b,c] [] pos) (Q4a mr):=⟨fun Γ σ H ρ st P R' R G h k=>by
 refine WI.of (Qic O hm Q2t hs I) (Z.use' R G h.bind fun ps B H1 ρ1 vs eq x1 J U r1 h1=>?_)
 split at h1
 ·rename_i i j c
  split at h1
  ·rename_i z;obtain ⟨v,u,t,rfl,rv,Y,rt⟩:=Qf9 r1;cases rv; cases Y; cases rt;refine ⟨i,j,c,rfl,z,k (jh i c (rsz i j c),[]) B H1 ρ1 _ (by simp only [Q4a,eq,Res.bind,bO z]) x1 J U (Zu _) ?_ Qex (h1 H1 ρ1 (Ext.refl _ _) J)⟩;show (jh i c (rsz i j c)).length<=sizeLine;rw [Q7e];have:=Qm3 (a:=i) (b:=j) z.1 (M:=2000000) (by omega) (by omega) (by omega);have q:=Qf6 i j c;exact F1 (show rsz i j c<=2000000 by unfold rsz; omega) (by decide)
  ·exact h1.elim
 ·exact h1.elim⟩
end
theorem Qfu (mr:ML) (Γ:Gam) (st:Q0):Q4a mr Γ st=(mr Γ st).bind fun ps q=>(match ps with | [.int i,.int j,.int c]=>if c≠0/\-1000000<=i/\i<=1000000/\-1000000<=j/\j<=1000000/\-1000000<=c/\c<=1000000 then .ok (jh i c (rsz i j c),[]) q else .stuck | _=>.stuck):=rfl
end Sm
namespace Sm
open PySem PySem.Spec L2
def yi (f:Str) (p:PV):List (Str × PV)->List (Str × PV)
 | []=>[(f,p)]
 | (g,x) :: r=>if g=f then (g,p) :: r else (g,x) :: yi f p r
section
variable {H:Hp} {ρ:Tk}
theorem Qa7 {κ:Type} {fs:List (κ × PV)} {vs:List (κ × V)} {g:κ} {x:PV}:RepD H ρ ((g,x) :: fs) vs->∃ v r,vs=(g,v) :: r/\Rep H ρ x v/\RepD H ρ fs r:=fun ⟨h1,h2⟩=>by
 cases vs with
 | nil=>cases h1
 | cons a r=>
  obtain ⟨k,v⟩:=a;simp only [F7,List.cons.injEq] at h1;obtain ⟨u,t,e,j,q⟩:=h2;cases e;exact ⟨v,r,by rw [h1.1],j,h1.2,q⟩
theorem Q4v {κ:Type} {fs:List (κ × PV)} {vs:List (κ × V)} {g:κ} {x:PV} {v:V} (h:Rep H ρ x v) (r:RepD H ρ fs vs):RepD H ρ ((g,x) :: fs) ((g,v) :: vs):=
 ⟨by simp only [F7,r.1],v,_,rfl,h,r.2⟩
theorem Qa6 {f:Str} {p:PV} {v:V} (h:Rep H ρ p v):∀ {fs:List (Str × PV)} {vs:List (Str × V)},RepD H ρ fs vs->RepD H ρ (yi f p fs) (Q03 f v vs)
 | [],vs,r=>by
  have:vs=[]:=by have:=r.1; simpa using this
  subst this;exact Q4v h ⟨rfl,rfl⟩
 | (g,x) :: fs,vs,r=>by
  obtain ⟨u,t,rfl,z,j⟩:=Qa7 r;rw [yi,Q03]
  by_cases q:g=f
  ·rw [bO q,bO q]; exact Q4v h j
  ·rw [bP q,bP q]; exact Q4v z (Qa6 h j)
theorem Q2a {f:Str}:∀ {fs:List (Str × PV)} {vs:List (Str × V)},RepD H ρ fs vs->(∀ p,fs.lookup f=some p->∃ v,vs.lookup f=some v/\Rep H ρ p v)/\(fs.lookup f=none->vs.lookup f=none)
 | [],vs,r=>by
  have:vs=[]:=by have:=r.1; simpa using this
  subst this;exact ⟨fun p e=>(by cases e),fun _=>rfl⟩
 | (g,x) :: fs,vs,r=>by
  obtain ⟨u,t,rfl,G,B⟩:=Qa7 r;obtain ⟨z,j⟩:=Q2a (f:=f) B;rw [E6,E6];cases q:f == g with
  | true=>exact ⟨fun p e=>by cases e; exact ⟨u,rfl,G⟩,fun e=>(by cases e)⟩
  | false=>exact ⟨z,j⟩
end
def Q30 (C:aA) (st:Q0) (p:PV):Option (Nat × List (Str × PV)):=match p with
 | .ref i=>match st[i]? with
  | some (.obj C' fs)=>if C'=C then some (i,fs) else none
  | _=>none
 | _=>none
theorem Q42 {C:aA} {H:Hp} {ρ:Tk} {st:Q0} {p:PV} {v:V} {i:Nat} {fs:List (Str × PV)} (R:Rel H ρ st) (r:Rep H ρ p v) (e:Q30 C st p=some (i,fs)):∃ a vs dx,p=.ref i/\v=.ref a/\ρ.tr[i]?=some a/\H a=some (.ins C dx vs)/\RepD H ρ fs vs:=by
 unfold Q30 at e
 split at e
 ·rename_i j
  split at e
  ·rename_i J fs' z
   split at e
   ·rename_i G;cases e;subst G;obtain ⟨a,B,rfl⟩:=r;obtain ⟨b,vs,dx,q,I,rd⟩:=R.obj z;rw [B] at q;cases q;exact ⟨a,vs,dx,rfl,rfl,B,I,rd⟩
   ·cases e
  ·cases e
 ·cases e
section
variable {X:Cx} {E:XK} {o e:aD} {es:List aD} {mo m:ME} {mr:Gam->Q0->Res (List PV)} {C:aA} {f:Str} {pos pos' apos p:Pos}
def Wx (C:aA) (f:Str) (mo:ME):ME:=fun Γ st=>(mo Γ st).bind fun p st1=>match Q30 C st1 p with
 | some (_,fs)=>match fs.lookup f with
  | some q=>.ok q st1
  | none=>.stuck
 | none=>.stuck
theorem Qva (cl:Cls X.K C) (n:NoAttr X.K C f) (z:SimE X E o mo) (I:ak o f X.env (aL o X.env)=aL o X.env:=by rfl):SimE X E (.Attribute o f pos) (Wx C f mo):=
 ⟨fun Γ σ H ρ st Q R G h=>WE.of (Qvx Ye I) (z.use R G h.bind fun p Z H1 ρ1 v x1 j G1 r1 h1=>by
  split at h1
  ·rename_i i fs U
   split at h1
   ·rename_i q J;obtain ⟨a,vs,dx,rfl,rfl,ea,Y,rd⟩:=Q42 j r1 U;obtain ⟨u,B,O⟩:=(Q2a rd).1 q J;exact ⟨a,C,dx,vs,u,rfl,Y,cl,n,B,now j h1 O⟩
   ·exact h1.elim
  ·exact h1.elim)⟩
def yk (C:aA) (f:Str) (mo m:ME):MS:=fun Γ st=>(m Γ st).sbind fun p st1=>(mo Γ st1).sbind fun q st2=>match Q30 C st2 q with
 | some (i,fs)=>if fs.length < 1000 then .nx Γ (st2.set i (.obj C (yi f p fs))) else .stuck
 | none=>.stuck
theorem Quz (cl:Cls X.K C) (n:NoAttr X.K C f) (Z:SimE X E e m) (ho:SimE X E o mo) (hs:swapsWith e (some (.Attribute o f pos')) pos.line X.env=pure false:=by rfl):SimS X E (.Assign [.Attribute o f pos'] e pos) (yk C f mo m):=
 ⟨fun Γ σ H ρ st D R G h=>WS.of (Qvm Ye Ye hs) (Z.use R G h.bind fun p a2 H1 ρ1 z x1 U O r1 h1=>ho.use U O h1.bind fun ov J H2 j x x2 R2 G2 r2 h2=>by
  split at h2
  ·rename_i i fs Y
   split at h2
   ·rename_i hl;obtain ⟨a,vs,dx,rfl,rfl,I,B,rd⟩:=Q42 R2 r2 Y;have hm:=D4 I;have q:Ext H2 j (upd H2 a (.ins C dx (Q03 f z vs))) j:=Ext.put hm B;refine ⟨a,C,dx,vs,rfl,B,cl,n,by rw [<- rd.length]; exact hl,h2 σ _ j q (R2.putC I B ⟨_,⟨dx,J5⟩,?_⟩) (G2.ext q)⟩;exact (Qa6 (r1.ext x2) rd).ext q
   ·exact h2.elim
  ·exact h2.elim)⟩
structure MethS (P:aP) (w:aO) (K:bU) (mg:Str->Option aB) (base:Heap) (k:Nat) (C:aA) (x:Str) (n:Nat) (F:FN):Prop where
 ex:∃ (f:aA) (fd:aN) (ps:List Str),FnOk P w K mg base (CXD P w) k f fd ps (spF mg n F)/\Meth K C x f/\Binds K fd ps []/\ps.length=n
def ym (C:aA) (x:Str) (n:Nat) (F:FN) (mo:ME) (mr:ML):ME:=fun Γ st=>(mo Γ st).bind fun p st1=>match Q30 C st1 p with
 | some (_,fs)=>if fs.lookup x=none then (mr Γ st1).bind fun ps st2=>if ps.length + 1=n then F (p :: ps) st2 else .stuck else .stuck
 | none=>.stuck
theorem Qr2 {pl:Sem Bool} {k n:Nat} {x:Str} {F:FN} (cl:Cls X.K C) (D:MethS X.prog X.w X.K X.mg X.base k C x n F) (Z:Room k X.A) (hx:Kx (CXD X.prog X.w) X E) (ho:SimE X E o mo) (ha:SimA X E (e :: es) mr)
  (I:aM (e :: es) X.env=(false,aL e X.env) :: aM es X.env:=by rfl) (z:(aU pos (aM es X.env)).any (·.1)=false:=by rfl)
  (ht:aL (.Call (.Attribute o x apos) (e :: es) [] pos) X.env=(do
   let ov <- aL o X.env
   standAt apos.atName
   let (f,first) <- aj [ov] (getMethod ov x pl)
   callWith pos f first (aU pos (aM (e :: es) X.env)) (backToKw pos (keywordEach [] X.env))):=by rfl):SimE X E (.Call (.Attribute o x apos) (e :: es) [] pos) (ym C x n F mo mr):=by
 obtain ⟨f,fd,ps,hF,hm,hb,hl⟩:=D.ex;exact ⟨fun Γ σ H ρ st Q R G h=>WE.of (Qrv Ye cl hm hF Z hb .nil hx Q2t I z ht) (ho.use R G h.bind fun p a2 H1 ρ1 v x1 O G1 U h1=>by
  split at h1
  ·rename_i i fs eo
   split at h1
   ·rename_i el;obtain ⟨a,vs,dx,rfl,rfl,ea,q,rd⟩:=Q42 O U eo;refine ⟨a,dx,vs,rfl,q,(Q2a rd).2 el,?_⟩;refine ha.use O G1 h1.bind fun qs j H2 B us x2 R2 G2 Y h2=>?_
    by_cases J:qs.length + 1=n
    ·rw [bO J] at h2;show spF X.mg n F (.ref a :: (us ++ [])) H2 Q E;rw [L6];exact ⟨by rw [D8,<- Y.length]; exact J,B,j,_,R2,RepL.cons (U.ext x2) Y,h2⟩
    ·rw [bP J] at h2; exact h2.elim
   ·exact h1.elim
  ·exact h1.elim)⟩
theorem Qkx {pl:Sem Bool} {k n:Nat} {x:Str} {F:FN} (cl:Cls X.K C) (D:MethS X.prog X.w X.K X.mg X.base k C x n F) (J:Room k X.A) (O:Kx (CXD X.prog X.w) X E) (ho:SimE X E o mo)
  (U:aL (.Call (.Attribute o x apos) [] [] pos) X.env=(do
   let ov <- aL o X.env
   standAt apos.atName
   let (f,first) <- aj [ov] (getMethod ov x pl)
   callWith pos f first (aU pos (aM [] X.env)) (backToKw pos (keywordEach [] X.env))):=by rfl):SimE X E (.Call (.Attribute o x apos) [] [] pos) (ym C x n F mo Q5):=by
 obtain ⟨f,fd,ps,hF,hm,hb,hl⟩:=D.ex;exact ⟨fun Γ σ H ρ st Q R G h=>WE.of (Qmn Ye cl hm hF J hb .nil O U) (ho.use R G h.bind fun p j H1 ρ1 v x1 B G1 I h1=>by
  split at h1
  ·rename_i i fs Z
   split at h1
   ·rename_i Y;obtain ⟨a,vs,dx,rfl,rfl,ea,q,rd⟩:=Q42 B I Z;refine ⟨a,dx,vs,rfl,q,(Q2a rd).2 Y,?_⟩;have h1:Acc X.mg E H1 ρ1 (QV Q) (if ([]:List PV).length + 1=n then F [.ref i] j else .stuck):=h1
    by_cases z:([]:List PV).length + 1=n
    ·rw [bO z] at h1;show spF X.mg n F (.ref a :: ([] ++ [])) H1 Q E;exact ⟨z,ρ1,j,_,B,RepL.cons I RepL.nil,h1⟩
    ·rw [bP z] at h1; exact h1.elim
   ·exact h1.elim
  ·exact h1.elim)⟩
structure MakeS (P:aP) (w:aO) (K:bU) (mg:Str->Option aB) (base:Heap) (k:Nat) (C:aA) (x:Str) (n:Nat) (F:FN):Prop where
 ex:∃ (f:aA) (fd:aN) (ps:List Str),FnOk P w K mg base (CXD P w) k f fd ps (spF mg n F)/\Mk K C f/\mg x=some (.ref C)/\Binds K fd ps []/\ps.length=n
def Qu9 (C : aA) (n : Nat) (F : FN) (mr : ML) : ME := fun Γ st => (mr Γ st).bind fun ps st1 => if ps.length + 1 = n then (F (.ref st1.length :: ps) (st1 ++ [.obj C []])).bind fun v st2 => match v with
  | .non=>.ok (.ref st1.length) st2
  | _=>.stuck
 else .stuck
theorem Qr3 {k n:Nat} {x:Str} {F:FN} (D:MakeS X.prog X.w X.K X.mg X.base k C x n F) (hr:Room (k + 1) X.A) (hx:Kx (CXD X.prog X.w) X E) (hg:Gl X x) (ha:SimA X E (e :: es) mr) (O:(x == ("__debug__" : Str))=false:=by decide)
  (he:aM (e :: es) X.env=(false,aL e X.env) :: aM es X.env:=by rfl) (a2:(aU pos (aM es X.env)).any (·.1)=false:=by rfl):SimE X E (.Call (.Name x p) (e :: es) [] pos) (Qu9 C n F mr):=by
 obtain ⟨f,fd,ps,hF,hm,hc,hb,hl⟩:=D.ex;exact ⟨fun Γ σ H ρ st Q R G h=>WE.of (Qrw hm hF hr hg hc hb .nil hx Q2t O he a2) (ha.use R G h.bind fun qs j H1 ρ1 us x1 R1 G1 r1 h1=>by
  intro y dx hy hd Z
  by_cases hq:qs.length + 1=n
  ·rw [bO hq] at h1;have U:Ext H1 ρ1 (upd H1 dx (.own y)) ρ1:=Ext.add hd;have B:(upd H1 dx (.own y)) y=none:=by rw [Qa (fun z=>Z z.symm)]; exact hy
   have y2:Ext (upd H1 dx (.own y)) ρ1 (upd (upd H1 dx (.own y)) y (.ins C dx [])) (ρ1.add y):=Ext.addT B;have R2:Rel (upd (upd H1 dx (.own y)) y (.ins C dx [])) (ρ1.add y) (j ++ [.obj C []]):=(R1.add hd).addC B ⟨[],⟨dx,J5⟩,rfl,rfl⟩;have q:(ρ1.add y).tr[j.length]?=some y:=by
    show (ρ1.tr ++ [y])[j.length]?=some y;rw [<- R1.len,D2 (O7 _),cY]; rfl
   show spF X.mg n F (.ref y :: (us ++ [])) _ _ E;rw [L6];refine ⟨by rw [D8,<- r1.length]; exact hq,ρ1.add y,j ++ [.obj C []],.ref j.length :: qs,R2,RepL.cons ⟨y,q,rfl⟩ (r1.ext (U.trans y2)),?_⟩;cases er:F (.ref j.length :: qs) (j ++ [.obj C []]) with
   | stuck=>rw [er] at h1; exact h1.elim
   | exc z st'=>
    rw [er] at h1;exact fun C' dv H' ρ' m I Y xf=>h1 C' dv H' ρ' m ((U.trans y2).trans I) Y xf
   | ok v a3=>
    rw [er] at h1;intro H' ρ' I Y w J;rw [Qn] at h1;cases v with
    | non=>
     refine ⟨J,h1 H' ρ' ((U.trans y2).trans I) Y _ ⟨y,?_,rfl⟩⟩;obtain ⟨t,et⟩:=I.pre;rw [<- et,O4 (O0.mp q).1];exact q
    | _=>exact h1.elim
  ·rw [bP hq] at h1; exact h1.elim)⟩
end
@[simp] theorem Qsr (C:aA) (f:Str) (mo:ME) (Γ:Gam) (st:Q0):Wx C f mo Γ st=(mo Γ st).bind fun p j=>match Q30 C j p with
 | some (_,fs)=>match fs.lookup f with
  | some q=>.ok q j
  | none=>.stuck
 | none=>.stuck:=rfl
@[simp] theorem Qdq (C:aA) (f:Str) (mo m:ME) (Γ:Gam) (st:Q0):yk C f mo m Γ st=(m Γ st).sbind fun p z=>(mo Γ z).sbind fun q j=>match Q30 C j q with
 | some (i,fs)=>if fs.length < 1000 then .nx Γ (j.set i (.obj C (yi f p fs))) else .stuck
 | none=>.stuck:=rfl
@[simp] theorem Qnf (C:aA) (x:Str) (n:Nat) (F:FN) (mo:ME) (mr:ML) (Γ:Gam) (st:Q0):ym C x n F mo mr Γ st=(mo Γ st).bind fun p j=>match Q30 C j p with
 | some (_,fs)=>if fs.lookup x=none then (mr Γ j).bind fun ps q=>if ps.length + 1=n then F (p :: ps) q else .stuck else .stuck
 | none=>.stuck:=rfl
section
variable {X:Cx} {E:XK}
theorem Qjm:Kh X (.type "int") (fun xs H Q=>∃ b:Bool,xs=[.bl b]/\Q (.int (if b then 1 else 0)) H):=by
 intro pins s σ H xs us Q I r h;obtain ⟨b,rfl,q⟩:=h;obtain ⟨u,rfl,j⟩:=Q1b r;cases j;exact call_int_bool ⟨.int (if b then 1 else 0),H,I.tok _,⟨_,rfl⟩,q⟩
def Qef:CF:=fun st ps=>match ps with
 | [.bl b]=>.ok (.int (if b then 1 else 0)) st
 | _=>.stuck
theorem Qti:CallS X E (.type "int") Qef:=⟨fun H ρ st ps xs Q R j h=>by
 unfold Qef at h
 split at h
 ·obtain ⟨v,rfl,r⟩:=Wa j;cases r;exact WC.of Qjm ⟨_,rfl,now R h rfl⟩
 ·exact h.elim⟩
@[simp] theorem J0s (st:Q0) (b:Bool):Qef st [.bl b]=.ok (.int (if b then 1 else 0)) st:=rfl
end
def Qbd (x:Str):V:=if x = "keep" then .int 2 else if x = "fall" then .int 2 else if x = "send" then .int 2 else if x = "come" then .int 3 else .non
structure PartsO (P:aP) (w:aO) (K:bU) (mg:Str->Option aB):Prop where
 ex:∃ (a:aA) (o:Obj) (es:Array DictEntry) (ep:Nat),mg "PARTS_OF_OTHER_DEED" = some (.ref a)/\K.lookup a=some o/\o.cls=.type "dict" /\ o.ExactDict/\o.data=.dict es ep/\KeysOf (Qt P w) es/\(a == ai)=false/\∀ x,RelV (Qbd x) ((findBy (Qt P w).is es (.inr x)).getD .none)
def qv (m:ME):ME:=fun Γ st=>(m Γ st).bind fun p st1=>match p with
 | .str x=>if x = "keep" then .ok (.int 2) st1 else if x = "fall" then .ok (.int 2) st1 else if x = "send" then .ok (.int 2) st1 else if x = "come" then .ok (.int 3) st1 else .ok .non st1
 | _=>.stuck
section
variable {X:Cx} {E:XK} {pos:Pos} {e:aD} {m:ME}
theorem Qi1 {p apos cpos:Pos} (PO:PartsO X.prog X.w X.K X.mg) (U:Gl X "PARTS_OF_OTHER_DEED") (he:SimE X E e m)
  (base:ak (.Name "PARTS_OF_OTHER_DEED" p) "get" X.env (aL (.Name "PARTS_OF_OTHER_DEED" p) X.env)=aL (.Name "PARTS_OF_OTHER_DEED" p) X.env:=by rfl)
  (few:((aU cpos (aM [e] X.env)).all (fun x=>!x.1) && (backToKw cpos (keywordEach [] X.env)).all (fun x=>x.1.isSome)
   && decide (([e]:List aD).length + ([]:List Keyword).length + (if ([]:List Keyword).isEmpty then 0 else 1) < 30))=true:=by rfl)
  (line:(apos.endLine == cpos.line)=true:=by rfl) (trees:aU cpos (aM [e] X.env)=[(false,aL e X.env)]:=by rfl) :
  SimE X E (.Call (.Attribute (.Name "PARTS_OF_OTHER_DEED" p) "get" apos) [e] [] cpos) (qv m):=by
 obtain ⟨a,o,es,ep,Y,pl,pt,pe,pd,Z,ps,B⟩:=PO.ex;refine ⟨fun Γ σ H ρ st Q R G h=>WE.of (Qd3 (val:=Qbd) U Y pl pt pe pd Z ps B Ye (by decide) base few line trees) (he.use R G h.bind fun q j H1 ρ1 v x1 z G1 r1 h1=>?_)⟩;cases q with
 | str x=>
  cases r1;have h1:Acc X.mg E H1 ρ1 (QV Q) (if x = "keep" then .ok (.int 2) j else if x = "fall" then .ok (.int 2) j else if x = "send" then .ok (.int 2) j else if x = "come" then .ok (.int 3) j else .ok .non j):=h1;refine ⟨x,rfl,?_⟩;unfold Qbd
  by_cases a1:x = "keep"
  ·rw [bO a1] at h1 ⊢; exact now z h1 rfl
  ·rw [bP a1] at h1 ⊢
   by_cases J:x = "fall"
   ·rw [bO J] at h1 ⊢; exact now z h1 rfl
   ·rw [bP J] at h1 ⊢
    by_cases I:x = "send"
    ·rw [bO I] at h1 ⊢; exact now z h1 rfl
    ·rw [bP I] at h1 ⊢
     by_cases O:x = "come"
     ·rw [bO O] at h1 ⊢; exact now z h1 rfl
     ·rw [bP O] at h1 ⊢;exact now z h1 rfl
 | _=>exact h1.elim
end
section
theorem Qig {P:aP} {w:aO} {K:bU} {mg:Str->Option aB} {O:aA} {t1 t2 I J j q B G:Tok} {ep:Nat} (hm:mg "PARTS_OF_OTHER_DEED" = some (.ref O))
  (lk:K.lookup O=some ⟨.type "dict",none,.dict #[⟨PyData.keyHash w.params "keep",.str "keep" t1,.int 2 j⟩,⟨PyData.keyHash w.params "fall",.str "fall" t2,.int 2 q⟩,⟨PyData.keyHash w.params "send",.str "send" I,.int 2 B⟩,⟨PyData.keyHash w.params "come",.str "come" J,.int 3 G⟩] ep,#[]⟩) (hp:(O == ai)=false):PartsO P w K mg:=by
 refine ⟨O,_,_,_,hm,lk,rfl,⟨rfl,rfl,rfl⟩,rfl,fun e he=>?_,hp,fun x=>?_⟩
 ·simp only [gd,E3,cZ,or_false] at he;rcases he with rfl | rfl | rfl | rfl
  ·exact ⟨.inr "keep",by simp [Qt,Kz,bp],rfl⟩
  ·exact ⟨.inr "fall",by simp [Qt,Kz,bp],rfl⟩
  ·exact ⟨.inr "send",by simp [Qt,Kz,bp],rfl⟩
  ·exact ⟨.inr "come",by simp [Qt,Kz,bp],rfl⟩
 ·unfold Qbd
  by_cases e1:x = "keep"
  ·rw [bO e1]; subst e1;have:findBy (Qt P w).is #[⟨PyData.keyHash w.params "keep",.str "keep" t1,.int 2 j⟩,⟨PyData.keyHash w.params "fall",.str "fall" t2,.int 2 q⟩,⟨PyData.keyHash w.params "send",.str "send" I,.int 2 B⟩,⟨PyData.keyHash w.params "come",.str "come" J,.int 3 G⟩] (.inr "keep")=some (.int 2 j):=by first | rfl | decide +kernel
   rw [this]; exact ⟨_,rfl⟩
  ·rw [bP e1]
   by_cases e2:x = "fall"
   ·rw [bO e2]; subst e2;have:findBy (Qt P w).is #[⟨PyData.keyHash w.params "keep",.str "keep" t1,.int 2 j⟩,⟨PyData.keyHash w.params "fall",.str "fall" t2,.int 2 q⟩,⟨PyData.keyHash w.params "send",.str "send" I,.int 2 B⟩,⟨PyData.keyHash w.params "come",.str "come" J,.int 3 G⟩] (.inr "fall")=some (.int 2 q):=by first | rfl | decide +kernel
    rw [this]; exact ⟨_,rfl⟩
   ·rw [bP e2]
    by_cases e3:x = "send"
    ·rw [bO e3]; subst e3;have:findBy (Qt P w).is #[⟨PyData.keyHash w.params "keep",.str "keep" t1,.int 2 j⟩,⟨PyData.keyHash w.params "fall",.str "fall" t2,.int 2 q⟩,⟨PyData.keyHash w.params "send",.str "send" I,.int 2 B⟩,⟨PyData.keyHash w.params "come",.str "come" J,.int 3 G⟩] (.inr "send")=some (.int 2 B):=by first | rfl | decide +kernel
     rw [this]; exact ⟨_,rfl⟩
    ·rw [bP e3]
     by_cases U:x = "come"
     ·rw [bO U]; subst U;have:findBy (Qt P w).is #[⟨PyData.keyHash w.params "keep",.str "keep" t1,.int 2 j⟩,⟨PyData.keyHash w.params "fall",.str "fall" t2,.int 2 q⟩,⟨PyData.keyHash w.params "send",.str "send" I,.int 2 B⟩,⟨PyData.keyHash w.params "come",.str "come" J,.int 3 G⟩] (.inr "come")=some (.int 3 G):=by first | rfl | decide +kernel
      rw [this]; exact ⟨_,rfl⟩
     ·rw [bP U];have a3:¬ (bT "keep" = x):=fun z=>e1 z.symm
      have a2:¬ (bT "fall" = x):=fun z=>e2 z.symm
      have Z:¬ (bT "send" = x):=fun z=>e3 z.symm
      have Y:¬ (bT "come" = x):=fun z=>U z.symm
      have:findBy (Qt P w).is #[⟨PyData.keyHash w.params "keep",.str "keep" t1,.int 2 j⟩,⟨PyData.keyHash w.params "fall",.str "fall" t2,.int 2 q⟩,⟨PyData.keyHash w.params "send",.str "send" I,.int 2 B⟩,⟨PyData.keyHash w.params "come",.str "come" J,.int 3 G⟩] (.inr x)=none:=by
       simp [findBy,Qt,Kz,bp,a3,a2,Z,Y]
      rw [this]; rfl
end
def Qdn (cn fld : Str) (i n : Nat) (F : FN) (mr : ML) : MS := fun Γ st => (mr Γ st).sbind fun ps st1 => if ps.length = n /\ i < Γ.length then (match F ps st1 with
  | .ok _ st2=>.nx Γ st2
  | .exc x st2=>if x.cls=cn then (match x.fs with | some (f,.int z)=>if f=fld then .rt (.int z) st2 else .stuck | _=>.stuck) else .stuck
  | .stuck=>.stuck) else .stuck
section
variable {X:Cx} {E:XK}
theorem Qgk {k n i:Nat} {g cn nm fld:Str} {F:FN} {J:aA} {p cpos B np a3 apos q Y pos:Pos} {e:aD} {es:List aD} {mr:ML} (D:DefS X.prog X.w X.K X.mg X.base k g n F) (hr:Room k X.A) (ha:SimA X.nox E (e :: es) mr)
  (hN:X.N.Nodup) (a6:X.mg cn=some (.ref J)) (b1:dL X.K (.ref J) (.ref J)=some true) (b4:XGet X.K J fld) (hi:X.N[i]?=some nm:=by rfl) (hk:X.env.scope.names.lookup nm=some .local:=by rfl)
  (j:∀ a,PSs (xb X a) [.Return (some (.Attribute (.Name nm a3) fld apos)) q] (Qyb (tXF X.K fld (Qus i))):=by exact fun _=>Qbc (Qmd (Qru _ (pv _))))
  (hg:Gl X g:=by rfl) (b2:Gl X cn:=by rfl) (b0:∀ b,b∉X.ex:=by intro b z; exact absurd (show b∈([]:List aA) from z) (by simp)) (b6:X.stack=X.env :: X.outer:=by rfl) (b3:X.env.frame=some X.env.locals:=by rfl)
  (a8:(g == ("__debug__" : Str))=false:=by decide) (a5:(cn == ("__debug__" : Str))=false:=by decide) (he:aM (e :: es) X.env=(false,aL e X.env) :: aM es X.env:=by rfl) (b5:(aU cpos (aM es X.env)).any (·.1)=false:=by rfl)
  (a7:swapsWith (.Call (.Name g p) (e :: es) [] cpos) none B.line X.env=pure false:=by rfl) :
  SimS X E (.Try [.Expr (.Call (.Name g p) (e :: es) [] cpos) B] [.ExceptHandler (some (.Name cn np)) (some nm) [.Return (some (.Attribute (.Name nm a3) fld apos)) q] Y] [] [] pos) (Qdn cn fld i n F mr):=by
 obtain ⟨f,fd,ps,hF,hm,a9,hb,hl⟩:=D.ex;exact ⟨fun Γ σ H ρ st D R G h=>WS.of (Qmc hF hr hm a9 hb Q2t hN hi hk j a6 hg b2 b0 b6 b3 a8 a5 he b5 a7) (ha.use R G h.bind fun qs a4 H1 ρ1 us x1 R1 G1 r1 h1=>by
  by_cases hq:qs.length=n/\i < Γ.length
  ·rw [bO hq] at h1;refine ⟨by rw [<- r1.length]; exact hq.1,ρ1,a4,qs,R1,r1,?_⟩;cases er:F qs a4 with
   | stuck=>rw [er] at h1; exact h1.elim
   | ok v U=>
    rw [er] at h1;exact fun H' ρ' x' R' w _=>h1 σ H' ρ' x' R' (G1.ext x')
   | exc x U=>
    rw [er] at h1;have h2:AccS X.mg E D H1 ρ1 (if x.cls=cn then (match x.fs with | some (f,.int z)=>if f=fld then .rt (.int z) U else .stuck | _=>.stuck) else .stuck):=h1
    clear h1
    by_cases hc:x.cls=cn
    ·rw [bO hc] at h2
     split at h2
     ·rename_i f' z ef
      split at h2
      ·rename_i hf;subst hf;intro C dv H' ρ' Z x' R' xf;rw [hc,a6] at Z;cases Z;rw [ef] at xf;obtain ⟨dx,v,rfl,O,_,rv⟩:=xf;have rv:v=.int z:=rv;subst rv;refine ⟨J,rfl,b1,fun a I=>?_⟩;have a2:i < σ.length:=by rw [<- G1.1]; exact hq.2
       refine ⟨.ref a,by rw [E7 a2],a,J,dx,z,[(f',.int z)],rfl,J5,by rw [Qa (Qd O I)]; exact O,by simp [bv],b4,?_⟩;exact h2 _ _ ρ' (x'.trans (Ext.add I)) (R'.add I) rfl
      ·exact h2.elim
     ·exact h2.elim
    ·rw [bP hc] at h2; exact h2.elim
  ·rw [bP hq] at h1; exact h1.elim)⟩
@[simp] theorem Qne (cn fld:Str) (i n:Nat) (F:FN) (mr:ML) (Γ:Gam) (st:Q0):Qdn cn fld i n F mr Γ st=(mr Γ st).sbind fun ps q=>if ps.length=n/\i < Γ.length then (match F ps q with
  | .ok _ j=>.nx Γ j
  | .exc x j=>if x.cls=cn then (match x.fs with | some (f,.int z)=>if f=fld then .rt (.int z) j else .stuck | _=>.stuck) else .stuck
  | .stuck=>.stuck) else .stuck:=rfl
end
end Sm
namespace Sm
open PySem PySem.Spec PyProof.Rows L2
section
variable {X:Cx} {E:XK}
theorem Qmy:OpR X (aW .FloorDiv) (rI (fun _ j=>0 < j/\j.natAbs.log2 < 8000) fun i j=>.int (i / j)):=opI fun i j _ _ _ _ _ z q=>by
 have h1:(0:Int) < j:=z.1;have h2:=z.2;refine floordiv_int (by omega) (by rw [fV i (by omega)]; exact q) (.inl (PyProof.noPylong_of_log2 ?_));omega
def Qgz:OP:=fun st p q=>match p,q with
 | .int a,.int b=>if 0 < b/\b.natAbs.log2 < 8000 then .ok (.int (a / b)) st else .stuck
 | _,_=>.stuck
theorem Qs3:OpS X E (aW .FloorDiv) Qgz:=⟨fun H ρ st p q x y Q R B j h=>by
 unfold Qgz at h
 split at h
 ·cases B; cases j
  split at h
  ·rename_i z;exact WO.of Qmy ⟨_,_,rfl,rfl,z,now R h rfl⟩
  ·exact h.elim
 ·exact h.elim⟩
theorem Qin (st:Q0) (a:Int) (m:Nat) (h1:0 < m) (h2:m < 2 ^ 8000):Qgz st (.int a) (.int m)=.ok (.int (a / m)) st:=by
 show (if 0 < (m:Int)/\(m:Int).natAbs.log2 < 8000 then _ else _)=_;rw [bO ⟨by omega,by
  rw [Int.natAbs_natCast];exact (Nat.log2_lt (by omega)).mpr h2⟩]
end
end Sm
namespace Sm
open PySem PySem.Spec L2
def tgN:aD->List Str
 | .Name x _=>[x]
 | .Tuple es _ _=>es.flatMap fun e=>match e with
  | .Name x _=>[x]
  | _=>[]
 | _=>[]
def Q5w (N:List Str) (tg:aD) (cap:List (Option Nat)):List Str:=tgN tg ++ cap.filterMap fun o=>o.bind (N[·]?)
theorem Qzw {l:List Str} (h:decide l.Nodup=true):l.Nodup:=of_decide_eq_true h
structure KR (b:Bool):Prop where
 h:b=true
section
variable {X:Cx} {E:XK} {pos:Pos} {tg iter elt:aD} {ifs:List aD} {sc:Scope} {ga:GA} {mi:MI} {mt:MT} {me:ME} {cap:List (Option Nat)} {i:Nat} {x:Str} {px cpos:Pos}
theorem Qkq (j:X.calm=true) (q:KR (compOkC X.N (Q5w X.N tg cap) sc X.env.scope cap)) (hs:∀ x,au iter X.env x=pure x) (B:Q5y cap ga) (hi:SimI X E tg iter mi) (z:∀ cl C s0 H0 ex,SimG (Vi X (Q5w X.N tg cap) sc cl C s0 H0 ex) tg ga) (I:∀ cl C s0 H0 ex,SimE (Vi X (Q5w X.N tg cap) sc cl C s0 H0 ex) E0 elt me) (G:∀ cl C s0 H0 ex,SimTs (Vi X (Q5w X.N tg cap) sc cl C s0 H0 ex) ifs mt):SimN X E (.ListComp elt [⟨tg,iter,ifs,0⟩] sc pos) (Qs cap ga mi mt me):=
 Q29 cap _ j hi z I G B rfl rfl q.h hs
theorem Qhx (B:swapsWith (.ListComp elt [⟨tg,iter,ifs,0⟩] sc cpos) (some (.Name x px)) pos.line X.env=pure true) (G:X.N.Nodup) (j:X.calm=true) (z:X.N[i]?=some x) (O:Loc X.env.scope x) (I:KR (compOkC X.N (Q5w X.N tg cap) sc X.env.scope cap)) (hs:∀ x,au iter X.env x=pure x) (q:X.fn x=true\/X.env.scope.names.lookup x=some .local) (U:Q5y cap ga) (hi:SimI X E tg iter mi) (J:∀ cl C s0 H0 ex,SimG (Vi X (Q5w X.N tg cap) sc cl C s0 H0 ex) tg ga) (Z:∀ cl C s0 H0 ex,SimE (Vi X (Q5w X.N tg cap) sc cl C s0 H0 ex) E0 elt me) (Y:∀ cl C s0 H0 ex,SimTs (Vi X (Q5w X.N tg cap) sc cl C s0 H0 ex) ifs mt):SimS X E (.Assign [.Name x px] (.ListComp elt [⟨tg,iter,ifs,0⟩] sc cpos) pos) (J2 i (Yz (Qs cap ga mi mt me))):=
 Q3x cap _ i G j hi J Z Y U z O B rfl rfl I.h hs q
end
structure AtS (K:bU) (mg:Str->Option aB) (name:Str) (st:aK) (ps:List Str) (f:aA) (fd:aN):Prop where
 F:Fun K name name st f fd
 m:mg name=some (.ref f)
 b:Binds K fd ps []
theorem Qxh {K:bU} {mg:Str->Option aB} {h:Heap} {name:Str} {st:aK} {ps:List Str} {f:aA} {I:aB} {J an:Option aA} {B:Array (Option aB)} {kV q z j ct:aB} (X:K.In h) (G:h.Ns aS mg)
  (a:bX K aS name=some (some (.ref f))) (l:K.lookup f=some ⟨I,J,.func (bg name name (Wn st) (Yd st) (Q6 st) .none kV q z an j ct),B⟩) (c:bx K j name=true) (k:bi K (.ref f)=true)
  (b:∀ (kV q z:aB) (an:Option aA) (j ct:aB) (us:List aB),us.length=ps.length->bindArgs (bg name name (Wn st) (Yd st) (Q6 st) .none kV q z an j ct) ⟨us,[]⟩=pure (ps.zip us)) :
  AtS K mg name st ps f (bg name name (Wn st) (Yd st) (Q6 st) .none kV q z an j ct):=
 have F:=Qg1 (st:=st) l c k
 ⟨F,bj X G a,F.binds b⟩
theorem AtS.def {P:aP} {w:aO} {K:bU} {mg:Str->Option aB} {base:Heap} {name:Str} {st:aK} {ps:List Str} {f:aA} {fd:aN} {k n:Nat} {F:FN} (a:AtS K mg name st ps f fd) (j:ps.length=n) (G:FnOk P w K mg base (CXD P w) k f fd ps (spF mg n F)):DefS P w K mg base k name n F:=
 ⟨f,fd,ps,G,a.m,a.F.kp,a.b,j⟩
def FL (K:bU) (x ql:Str) (s:aK) (f:aA):Prop:=∃ (oc:aB) (od:Option aA) (kV dc pm:aB) (an:Option aA) (cd ct:aB) (sl:Array (Option aB)),K.lookup f=some ⟨oc,od,.func (bg x ql (Wn s) (Yd s) (Q6 s) .none kV dc pm an cd ct),sl⟩/\bx K cd ql=true/\bi K (.ref f)=true
theorem FL.fn {K:bU} {x j:Str} {s:aK} {f:aA} (h:FL K x j s f):∃ fd,Fun K x j s f fd:=let ⟨_,_,_,_,_,_,_,_,_,l,c,k⟩:=h; ⟨_,Qg1 l c k⟩
def FA (K:bU) (x:Str) (s:aK) (f:aA):Prop:=bX K aS x=some (some (.ref f))/\FL K x x s f
theorem FA.mk {K:bU} {x:Str} {s:aK} {f:aA} {B:aB} {q an:Option aA} {sl:Array (Option aB)} {kV z j cd ct:aB} (a:bX K aS x=some (some (.ref f))) (l:K.lookup f=some ⟨B,q,.func (bg x x (Wn s) (Yd s) (Q6 s) .none kV z j an cd ct),sl⟩) (c:bx K cd x=true) (k:bi K (.ref f)=true):FA K x s f:=⟨a,_,_,_,_,_,_,_,_,_,l,c,k⟩
def FM (K:bU) (C:aA) (x ql:Str) (s:aK) (f:aA):Prop:=bZ K (.ref C) x=some (some (.ref f))/\dC K (.ref f)=true/\FL K x ql s f
theorem ln1 {α:Type} {l:List α} (h:l.length=1):∃ a,l=[a]:=match l,h with | [_],_=>⟨_,rfl⟩
theorem ln2 {α:Type} {l:List α} (h:l.length=2):∃ a b,l=[a,b]:=match l,h with | [_,_],_=>⟨_,_,rfl⟩
theorem ln3 {α:Type} {l:List α} (h:l.length=3):∃ a b c,l=[a,b,c]:=match l,h with | [_,_,_],_=>⟨_,_,_,rfl⟩
theorem ln4 {α:Type} {l:List α} (h:l.length=4):∃ a b c d,l=[a,b,c,d]:=match l,h with | [_,_,_,_],_=>⟨_,_,_,_,rfl⟩
theorem ln5 {α:Type} {l:List α} (h:l.length=5):∃ a b c d e,l=[a,b,c,d,e]:=match l,h with | [_,_,_,_,_],_=>⟨_,_,_,_,_,rfl⟩
theorem ln6 {α:Type} {l:List α} (h:l.length=6):∃ a b c d e f,l=[a,b,c,d,e,f]:=match l,h with | [_,_,_,_,_,_],_=>⟨_,_,_,_,_,_,rfl⟩
theorem ln7 {α:Type} {l:List α} (h:l.length=7):∃ a b c d e f g,l=[a,b,c,d,e,f,g]:=match l,h with | [_,_,_,_,_,_,_],_=>⟨_,_,_,_,_,_,_,rfl⟩
theorem FL.bd {K:bU} {x q:Str} {s:aK} {f:aA} {ps:List Str} (h:FL K x q s f)
  (b:∀ (kV z B:aB) (an:Option aA) (j ct:aB) (us:List aB),us.length=ps.length->bindArgs (bg x q (Wn s) (Yd s) (Q6 s) .none kV z B an j ct) ⟨us,[]⟩=pure (ps.zip us)):∃ fd,Fun K x q s f fd/\Binds K fd ps []:=
 let ⟨_,F⟩:=h.fn
 ⟨_,F,F.binds b⟩
theorem Ya {K:bU} {mg:Str->Option aB} {h:Heap} {name:Str} {st:aK} {f:aA} (ps:List Str) (X:K.In h) (G:h.Ns aS mg) (a:FA K name st f)
  (b:∀ (kV z I:aB) (an:Option aA) (q ct:aB) (us:List aB),us.length=ps.length->bindArgs (bg name name (Wn st) (Yd st) (Q6 st) .none kV z I an q ct) ⟨us,[]⟩=pure (ps.zip us):=by
   intro _ _ _ _ _ _ us j
   first | (obtain ⟨_,rfl⟩:=ln1 j; rfl) | (obtain ⟨_,_,rfl⟩:=ln2 j; rfl) | (obtain ⟨_,_,_,rfl⟩:=ln3 j; rfl) | (obtain ⟨_,_,_,_,rfl⟩:=ln4 j; rfl) | (obtain ⟨_,_,_,_,_,rfl⟩:=ln5 j; rfl) | (obtain ⟨_,_,_,_,_,_,rfl⟩:=ln6 j; rfl) | (obtain ⟨_,_,_,_,_,_,_,rfl⟩:=ln7 j; rfl)):∃ fd,AtS K mg name st ps f fd:=
 let ⟨a,l⟩:=a
 let ⟨_,F,B⟩:=l.bd b
 ⟨_,F,bj X G a,B⟩
theorem FM.at {K:bU} {C:aA} {x z:Str} {s:aK} {f:aA} (h:FM K C x z s f) (ps:List Str)
  (b:∀ (kV q G:aB) (an:Option aA) (j ct:aB) (us:List aB),us.length=ps.length->bindArgs (bg x z (Wn s) (Yd s) (Q6 s) .none kV q G an j ct) ⟨us,[]⟩=pure (ps.zip us):=by
   intro _ _ _ _ _ _ us B
   first | (obtain ⟨_,rfl⟩:=ln1 B; rfl) | (obtain ⟨_,_,rfl⟩:=ln2 B; rfl) | (obtain ⟨_,_,_,rfl⟩:=ln3 B; rfl)):∃ fd,Fun K x z s f fd/\Binds K fd ps []:=h.2.2.bd b
theorem FM.mk {K:bU} {C:aA} {x j:Str} {s:aK} {f:aA} {q:aB} {G an:Option aA} {sl:Array (Option aB)} {kV z B cd ct:aB} (a:bZ K (.ref C) x=some (some (.ref f))) (e:dC K (.ref f)=true) (l:K.lookup f=some ⟨q,G,.func (bg x j (Wn s) (Yd s) (Q6 s) .none kV z B an cd ct),sl⟩) (c:bx K cd j=true) (k:bi K (.ref f)=true):FM K C x j s f:=⟨a,e,_,_,_,_,_,_,_,_,_,l,c,k⟩
theorem AtS.d {K:bU} {mg:Str->Option aB} {name:Str} {st:aK} {ps:List Str} {f:aA} {fd:aN} {k n:Nat} {F:FN} (a:AtS K mg name st ps f fd) (P:aP) (w:aO) (base:Heap) (j:ps.length=n) (G:FnOk P w K mg base (CXD P w) k f fd ps (spF mg n F)):DefS P w K mg base k name n F:=a.def j G
def noL (K:bU):Bool:=K.all fun p=>match p.2.data with
 | .seq _ _=>(match p.2.cls with
  | .type n=>!(n == ("list" : Str))
  | _=>true)
 | _=>true
theorem Qfw {K:bU} {a:aA} {o:Obj} (h:K.lookup a=some o):(a,o)∈K:=by
 induction K with
 | nil=>cases h
 | cons p K j=>
  obtain ⟨b,u⟩:=p;rw [E6] at h;cases e:a == b with
  | true=>
   rw [e] at h;have:a=b:=by simpa using e
   subst this;cases h;exact D6
  | false=>
   rw [e] at h;exact D1 _ (j h)
theorem Qwd {K:bU} {a:aA} {o:Obj} {its:Array aB} {n:Nat} (j:noL K=true) (h:K.lookup a=some o) (q:o.cls=.type "list") (hd:o.data=.seq its n):False:=by
 have:=F9.mp j _ (Qfw h);simp [q,hd] at this
theorem Qa5 {H:Hp} {ρ:Tk}:∀ ns:List Int,RepL H ρ (ns.map .int) (ns.map V.int)
 | []=>rfl
 | n :: ns=>⟨_,_,rfl,rfl,Qa5 ns⟩
theorem Qrb (H:Hp):Rel H Tk.nil []:=⟨rfl,gf,fun a h=>(by cases h),fun a h=>(by cases h),fun i a c h=>(by simp [Tk.nil] at h)⟩
def Qb5 (K:bU):Sp:=fun vs H Q _=>∃ (a:aA) (ns:List Int),vs=[.ref a]/\SqL K H a (ns.map V.int)/\ns.length<=63/\∀ H',Q (.bl true) H'
theorem Qsx {P:aP} {w:aO} {K:bU} {mg:Str->Option aB} {base:Heap} {CX:CXT} {k:Nat} {f:aA} {fd:aN} {ps:List Str} {FL:FN} (z:noL K=true) (F:FnOk P w K mg base CX k f fd ps (spF mg 1 FL)) (j:∀ ns:List Int,ns.length<=63->∃ st',FL [.fro (ns.map .int)] []=.ok (.bl true) st'):FnOk P w K mg base CX k f fd ps (Qb5 K):=F.imp fun vs H Q E ⟨a,ns,e,q,O,B⟩=>by
 subst e;obtain ⟨st',J⟩:=j ns O;have I:Rd H a (.lst (ns.map V.int)):=by
  rcases q with h | ⟨o,its,n,h1,h2,U,G,_⟩
  ·exact h
  ·exact (Qwd z h1 h2 G).elim
 refine ⟨rfl,Tk.nil,[],[.fro (ns.map .int)],Qrb H,⟨_,_,rfl,⟨a,_,rfl,I,Tk.not_nil a,Qa5 ns⟩,rfl⟩,?_⟩;rw [J];intro H' ρ' x R v r;have e:v=.bl true:=r;subst e;exact B H'
theorem Qpa {P:aP} {w:aO} {H:Hp} {s:aC} {e:aB} {s':aC} (h:CXD P w [] H s (fun _ _ _=>False) e s'):False:=by
 obtain ⟨_,_,_,_,_,_,_,_,_,z⟩:=h;exact z
theorem walkS {l:eu} {k:Nat} {q:aP} {j:List Str} {U:(Str->Option aB)->Heap->Prop} {I:aO->Heap->Prop} {d:DefRec} {K:Params->bU} (Y:l.most=some 63) (O:Room k callerA) (B:d.params.defaults=[])
  (hY:∀ (w:aO) (h:Heap),I w h->(K w.params).In h)
  (F:∀ (w:aO) (mg:Str->Option aB) (G:aA) (h:Heap),(K w.params).In h->h.Ns aS mg->mg d.name=some (.ref G) ->
   ∃ fd:aN,(∀ (s:aC) (u:aB),BindsTo s fd ⟨[u],[]⟩ [("script",u)])/\∀ base:Heap,(K w.params).In base->base.Ns aS mg->FnOk l.prog w (K w.params) mg base (CXD l.prog w) k G fd ["script"] (Qb5 (K w.params))) :
  fw q j U I l.row.toRowW d [] (fun f vs=>ek f vs):=
 L2.walk_of (n:=63) (k:=k) (x := "script") (CX:=fun w=>CXD l.prog w) (sp:=fun w=>Qb5 (K w.params)) Y (by decide) B O hY F (fun _ _ a ns Z _ J=>⟨a,ns,rfl,J,Z,fun _=>rfl⟩) fun _ _ _ _ _ z=>Qpa z
end Sm
namespace Lw
open PySem PySem.Spec L2 Sm
def top (i:Nat):aK:=PySem.Challenge.pw_lendwharf_k83_whole_runs_stand.main.body.getD i (.Pass ⟨0,0,0,0⟩)
abbrev Q39:aK:=top 9
abbrev xk:aK:=top 10
abbrev Q7c:aK:=top 13
abbrev Q3a:aK:=top 14
abbrev Q3c:aK:=top 15
abbrev Q78:aK:=top 16
abbrev Qb9:aK:=top 18
abbrev Vd:aK:=top 19
abbrev Kk:aK:=top 20
abbrev Q1e:aK:=top 21
abbrev xj:aK:=top 22
abbrev Q7b:aK:=top 23
abbrev Q38:aK:=top 25
abbrev Q3b:aK:=top 26
abbrev xi:aK:=top 27
abbrev Qb8:aK:=top 28
abbrev Qba:aK:=top 29
abbrev xh:aK:=top 30
abbrev Qf3:aK:=top 31
abbrev Q1f:aK:=top 32
abbrev Q4t:aK:=top 33
abbrev Ve:aK:=top 36
abbrev Q4s:aK:=top 37
abbrev Vc:aK:=top 38
abbrev ja:aK:=top 39
abbrev Q79:aK:=top 40
abbrev Qf4:aK:=top 41
abbrev Q1d:aK:=top 43
abbrev Uj:aK:=top 44
abbrev Ki:aK:=top 45
abbrev Q3d:aK:=top 46
abbrev Kj:aK:=top 47
abbrev Xc:aK:=top 48
abbrev zi:aK:=top 49
abbrev Xd:aK:=top 50
abbrev Ux:aK:=top 51
abbrev Xx:aK:=Xi (top 53) 0
abbrev xx:aK:=Xi (top 53) 1
abbrev xy:aK:=Xi (top 53) 2
abbrev Q1h:aK:=Xi (top 53) 3
abbrev xz:aK:=Xi (top 53) 4
abbrev Q00:aK:=Xi (top 53) 5
abbrev jg:aK:=Xi (top 53) 6
abbrev Q01:aK:=Xi (top 53) 7
abbrev zr:aK:=Xi (top 53) 8
abbrev jf:aK:=Xi (top 53) 9
abbrev xu:aK:=Xi (top 53) 10
abbrev Km:aK:=top 56
abbrev Uw:aK:=top 57
abbrev zh:aK:=top 58
abbrev Kn:aK:=top 59
abbrev Q1g:aK:=top 60
abbrev Q7a:aK:=top 61
abbrev xr:aK:=top 63
abbrev xm:aK:=top 64
abbrev zp:aK:=top 65
abbrev jb:aK:=top 66
abbrev xt:aK:=top 67
abbrev jc:aK:=top 68
abbrev je:aK:=top 69
abbrev xq:aK:=top 70
abbrev zj:aK:=top 71
abbrev zk:aK:=top 72
abbrev xn:aK:=top 73
abbrev zn:aK:=top 74
abbrev jd:aK:=top 75
abbrev zq:aK:=top 76
abbrev Kp:aK:=top 77
abbrev zm:aK:=top 78
abbrev Q3z:aK:=top 79
structure Txt (mg:Str->Option aB):Prop where
 b_all:mg "all" = none
 b_any:mg "any" = none
 b_bool:mg "bool" = none
 b_enumerate:mg "enumerate" = none
 b_int:mg "int" = none
 b_isinstance:mg "isinstance" = none
 b_len:mg "len" = none
 b_list:mg "list" = none
 b_max:mg "max" = none
 b_min:mg "min" = none
 b_range:mg "range" = none
 b_str:mg "str" = none
 b_sum:mg "sum" = none
 b_tuple:mg "tuple" = none
 b_zip:mg "zip" = none
 c_MOST_HOUSES:∃ t,mg "MOST_HOUSES" = some (.int 8 t)
structure ClsT (K:bU) (C:aA):Prop where
 cl:Cls K C
 n_number:NoAttr K C "number"
 n_now:NoAttr K C "now"
 n_kept:NoAttr K C "kept"
def Qtn:aK->List aK
 | .ClassDef _ _ _ b _ _ _ _ _ _ _=>b
 | _=>[]
abbrev Qa3:aK:=(Qtn (top 7)).getD 0 (.Pass ⟨0,0,0,0⟩)
structure ShortOk (K:bU) (mg:Str->Option aB) (c0 cs fI:aA):Prop where
 m0:mg "WharfError" = some (.ref c0)
 ms:mg "Short" = some (.ref cs)
 M:XMade K cs c0 fI
 L:XCall K c0
 S:XSet K cs c0 "had"
structure ShortS (P:aP) (w:aO) (K:bU) (mg:Str->Option aB) (base:Heap):Prop where
 ex:∃ (C W f:aA) (fd:aN),XMade K C W f/\FnOk P w K mg base CX0 1 f fd ["self", "had"] (Q73 C "had")/\Binds K fd ["self", "had"] []/\mg "Short" = some (.ref C)
local macro_rules|`(tactic|fail "m")=>do let a:=(("Qj J0 Yg Q4q Wj j9 U6 Up Q37 Qcs Q36 U5 Qja V6 Qp1 Qp0 Q4r Qm1 Qi3 Qct Qm0 Qf2 Qkz Qky Qr5 Qi2 Qva Qr4 Qv9 Qv8 Qr3 Qr2 Qkx Qv7 Qv6 Qkw Qyq Qkv Qi1 Qku Qf1 Qkt Qf0 Q75 Qv5 Qkr Qqw Qqv V5 Qhz Qhy Qb7 Qv4 Qv2 Qv1 Qqt Qqs Qv0 Qgm Quz Qb4 Q9z Qkm Qhw Qkk Qgk Qkj Qki Quy Qkh K4 Qqp Quw Qqm Qke Qkd".splitOn " ").map λn=>Lean.mkIdent (.mkSimple n)).toArray;`(tactic|with_reducible first $[|apply $a]* | refine Q76 (T := "int") (o:=Qef) ?_ ?_ ?_ ?_ ?_ ?_ ?_ ?_ ?_ | refine Q76 (T := "list") (o:=Q34) ?_ ?_ ?_ ?_ ?_ ?_ ?_ ?_ ?_ | refine Q76 (T := "tuple") (o:=Vh) ?_ ?_ ?_ ?_ ?_ ?_ ?_ ?_ ?_ | apply Q77 | apply Qkq | apply SimW.t)
local macro_rules|`(tactic|fail "o")=>do let a:=(("Qx9 Qx8 Qti Qpd Qth Qx7 Qx6 Qpc Qpb Qbe Qw3 Qs3 Qmx Qzf Qze Qd6 Qzd Qzc Qw2 Qw1 Qaa Qmw Qw0 Qmv".splitOn " ").map λn=>Lean.mkIdent (.mkSimple n)).toArray;`(tactic|first | (with_reducible first $[|apply $a]*))
local macro_rules | `(tactic| fail "r")=>`(tactic| first | rfl | assumption | decide | exact .inl rfl | exact .inr rfl | exact .inr (.inl rfl) | exact .inr (.inr rfl) | exact fun _=>rfl | exact fun _ _=>rfl | exact fun _ _ _=>rfl | exact ⟨by kernel_rfl⟩ | exact Qfi _ | exact Room.mono ‹_› (by decide) | exact Uq | exact Q6g | exact PassesOwn.leaving | exact FnScope.nd ‹_› | exact Qzw (by kernel_rfl) | exact Qr9 ‹_› | exact Room.units ‹_› | exact Qm6 | with_unfolding_all rfl)
local macro_rules | `(tactic| fail "s")=>`(tactic| first | (with_reducible first | exact gg | exact Qq0 | exact Qpz | exact Qjr | exact Qpy | exact Qjq | exact Qpx | exact Qpw | exact Qpv | exact Qeg | exact Qgb) | rfl | (fail "m" <;> fail "s") | (fail "o" <;> fail "r") | ((first | apply Qhx | apply ss_compTA | apply xg) <;> fail "s") | fail "r" | (intro _ _ _ _ _; fail "s"))
local macro_rules | `(tactic| fail "k")=>`(tactic| (refine Qhd ‹_› ‹_› rfl rfl rfl ?_; fail "j"))
local macro_rules | `(tactic| fail "K")=>`(tactic| (refine Qe5 ‹_› ‹_› rfl rfl rfl ?_; fail "j"))
local macro_rules | `(tactic| fail "j")=>`(tactic| (intros; rcases ‹Txt _› with ⟨_,_,_,_,_,_,_,_,_,_,_,_,_,_,_,⟨_,_⟩⟩; (try cases ‹ClsT _ _›); show SimB _ _ (_ :: _) _; fail "s"))
local macro_rules | `(tactic| fail "c")=>`(tactic| exact ⟨rfl,rfl,rfl,by decide +kernel,rfl,by decide +kernel,by decide +kernel⟩)
section
variable {P:aP} {w:aO} {K:bU} {mg:Str->Option aB} {base:Heap}
theorem Qvb:FnScope ["self", "had"] ["self", "had"] (Q6 Qa3):=⟨rfl,rfl,rfl,by decide +kernel,rfl,by decide +kernel,by decide +kernel⟩
theorem Qs9 {f I q:aA} {fd:aN} (F:Fun K "__init__" "Short.__init__" Qa3 f fd) (O:ShortOk K mg I q f):FnOk P w K mg base CX0 1 f fd ["self", "had"] (Q73 q "had"):=by
 refine F.ok Qvb (fun vs H Q E h=>?_) (fun G A outer s H vs Q E J h=>?_)
 ·obtain ⟨x,v,rfl,_⟩:=h;rfl
 ·obtain ⟨x,v,rfl,j,B⟩:=h;refine ⟨_,Qd1 (Qgr (Qmj O.M O.L (by rfl) O.m0 (Q04 (pv 0) (Q04 Q1k Q7k))))
   (Qbc (Qrk (fun b z=>absurd (show b∈([]:List aA) from z) (by simp)) O.S (pv 0) (pv 1))),?_⟩
  exact ⟨_,rfl,x,_,rfl,j,_,rfl,_,rfl,x,rfl,j,B⟩
end
section
variable {P:aP} {w:aO} {K:bU} {mg:Str->Option aB} {base:Heap}
def Q3k:MS:=(J9 (Q5a (Q9r "int" (Q2 0)) (Qwm (Q9r "bool" (Q2 0)))))
def Wi:FN:=Qh Q3k 1
theorem Qda {f:aA} {fd:aN} (F:Fun K "is_whole" "is_whole" Q39 f fd) (T:Txt mg)   : FnOk P w K mg base (CXD P w) 1 f fd ["thing"] (spF mg 1 Wi):=by
 have:FnScope ["thing"] ["thing"] (Q6 Q39):=by fail "c"
 delta Wi Q3k
 fail "k"
def Q0e:MS:=(J9 (Q5a (Q9 1 Wi (Q1 (Q2 0) Q5)) (Q1v (oI fun a b=>.bl (decide (a<=b))) (oI fun a b=>.bl (decide (a<=b))) (Q2 1) (Q2 0) (Q2 2))))
def Ud:FN:=Qh Q0e 3
theorem Q9b {f:aA} {fd:aN} (F:Fun K "is_between" "is_between" xk f fd) (T:Txt mg)  (j:DefS P w K mg base 1 "is_whole" 1 Wi):FnOk P w K mg base (CXD P w) 2 f fd ["thing", "least", "most"] (spF mg 3 Ud):=by
 have:FnScope ["thing", "least", "most"] ["thing", "least", "most"] (Q6 xk):=by fail "c"
 delta Ud Q0e
 fail "k"
def Q0u:ME:=(Q5a (Q9 1 Wi (Q1 (Q2 0) Q5)) (mOp (oI fun a b=>.bl (decide (b<=a))) (Q2 0) (mC (.int 0))))
def Q85 : MS := (Qf (Y2 (Q1c (Vy (toB (Q9r "tuple" (Q2 0)))) (toB (mOp oNe (Qm Zt (Q1 (Q2 0) Q5)) (mOp Yj (Q2 1) (mC (.int 1)))))) (J9 (mC (.bl false))) Ze)
  (J9 (Qm (yu fun ns=>.bl (ns.all id)) (Q1 (Yz (Qs [none] (Q8 0) (Ke (Q2 0)) Qp Q0u)) Q5))))
def x8:FN:=Qh Q85 2
theorem Qik {f:aA} {fd:aN} (F:Fun K "is_row" "is_row" Q7c f fd) (T:Txt mg)  (j:DefS P w K mg base 1 "is_whole" 1 Wi):FnOk P w K mg base (CXD P w) 2 f fd ["thing", "n"] (spF mg 2 x8):=by
 have:FnScope ["thing", "n"] ["thing", "n"] (Q6 Q7c):=by fail "c"
 delta x8 Q85 Q0u
 fail "k"
def qx:ME:=(Q9 2 x8 (Q1 (Q2 0) (Q1 (Qm Zt (Q1 (Q2 1) Q5)) Q5)))
def Q3m : MS := (Qf (Y2 (Q1c (Vy (toB (Q9r "tuple" (Q2 0)))) (Vy (toB (Q1v (oI fun a b => .bl (decide (a <= b))) (oI fun a b => .bl (decide (a <= b))) (mC (.int 1)) (Qm Zt (Q1 (Q2 0) Q5)) (mC (.int 8)))))) (J9 (mC (.bl false))) Ze)
  (J9 (Qm (yu fun ns=>.bl (ns.all id)) (Q1 (Yz (Qs [none,some 0] (Q8 0) (Ke (Q2 0)) Qp qx)) Q5))))
def U4:FN:=Qh Q3m 1
theorem Qdb {f:aA} {fd:aN} (F:Fun K "is_table" "is_table" Q3a f fd) (T:Txt mg)  (j:DefS P w K mg base 2 "is_row" 2 x8):FnOk P w K mg base (CXD P w) 3 f fd ["thing"] (spF mg 1 U4):=by
 have:FnScope ["thing"] ["thing"] (Q6 Q3a):=by fail "c"
 delta U4 Q3m qx
 fail "k"
def Q3p:MS:=(J9 (Q9 3 Ud (Q1 (Q2 1) (Q1 (mC (.int 0)) (Q1 (mOp (oI fun a b=>.int (a - b)) (Qm Zt (Q1 (Q2 0) Q5)) (mC (.int 1))) Q5)))))
def Jy:FN:=Qh Q3p 2
theorem Qdd {f:aA} {fd:aN} (F:Fun K "is_house" "is_house" Q3c f fd) (T:Txt mg)  (j:DefS P w K mg base 2 "is_between" 3 Ud):FnOk P w K mg base (CXD P w) 3 f fd ["table", "thing"] (spF mg 2 Jy):=by
 have:FnScope ["table", "thing"] ["table", "thing"] (Q6 Q3c):=by fail "c"
 delta Jy Q3p
 fail "k"
def Q0p:ME:=(mOp oIx (Q2 0) (Q2 1))
def Q81 : MS := (Qf (Y2 (Vy (toB (Q9 2 Jy (Q1 (Q2 0) (Q1 (Q2 1) Q5))))) (Um "NoHouse" (mC (.str "no house of this table"))) Ze)
  (Qf (J2 2 (Qm (Wr fun ns=>some (.int ns.sum)) (Q1 (Yz (Qs [none,some 1] (Q8 0) (Ke (Q2 0)) Qp Q0p)) Q5)))
  (Qf (J2 3 (mOp oIx (Q2 0) (Q2 1)))
  (Qf (J2 4 (mOp (oI fun a b=>.int (a - b)) (Qm (Wr fun ns=>some (.int ns.sum)) (Q1 (Q2 3) Q5)) (mOp oIx (Q2 3) (Q2 1))))
  (J9 (mOp (oI fun a b=>.int (a - b)) (Q2 2) (Q2 4)))))))
def Ym:FN:=Qh Q81 5
theorem Qab {f:aA} {fd:aN} (F:Fun K "rights" "rights" Q78 f fd) (T:Txt mg) (j:∃ C,mg "NoHouse" = some (.ref C)/\bY K C Vw "ValueError.__new__" = true) (q:DefS P w K mg base 3 "is_house" 2 Jy):FnOk P w K mg base (CXD P w) 4 f fd ["table", "house"] (spF mg 2 Ym):=by
 obtain ⟨_,_,_⟩:=j;have:FnScope ["table", "house", "gained", "own", "spent"] ["table", "house"] (Q6 Q78):=by fail "c"
 delta Ym Q81 Q0p
 fail "k"
def Q2j:ME:=(mOp oIx (Q2 1) (Q2 0))
def Q2i:ME:=(mOp oIx (Q2 0) (Q2x (mC (.int 1))))
def Qbs : MS := (Qf (J2 1 (Qm (Wr fun ns => some (.int ns.sum)) (Q1 (Yz (Qs [none, none] (Wz (J1 (Q8 0) (J1 (Q8 1) V0))) (Q89 (Q1 (Q2 0) Q5)) Qp Q2j)) Q5)))
  (Qf (J2 2 (Qm (Wr fun ns=>some (.int ns.sum)) (Q1 (Yz (Qs [none] (Q8 0) (Ke (Q2 0)) Qp Q2i)) Q5)))
  (J9 (mOp (oI fun a b=>.int (a - b)) (Q2 1) (Q2 2)))))
def Q2q:FN:=Qh Qbs 3
theorem Qn4 {f:aA} {fd:aN} (F:Fun K "stock" "stock" Qb9 f fd) (T:Txt mg)   : FnOk P w K mg base (CXD P w) 1 f fd ["table"] (spF mg 1 Q2q):=by
 have:FnScope ["table", "made", "used"] ["table"] (Q6 Qb9):=by fail "c"
 delta Q2q Qbs Q2i Q2j
 fail "k"
def Vf:MS:=(Y2 (toB (mOp oNe (Qm Zt (Q1 (Q2 0) Q5)) (Qm Zt (Q1 (Q2 1) Q5)))) (Um "NoTable" (mC (.str "the tables have unlike numbers of houses"))) Ze)
def Qy:FN:=Qh Vf 2
theorem Q07 {f:aA} {fd:aN} (F:Fun K "need_as_many_houses" "need_as_many_houses" Vd f fd) (T:Txt mg) (j:∃ C,mg "NoTable" = some (.ref C)/\bY K C Vw "ValueError.__new__" = true)  : FnOk P w K mg base (CXD P w) 1 f fd ["one", "other"] (spF mg 2 Qy):=by
 obtain ⟨_,_,_⟩:=j;have:FnScope ["one", "other"] ["one", "other"] (Q6 Vd):=by fail "c"
 delta Qy Vf
 fail "k"
def Vt:ME:=(mOp (oI fun a b=>.bl (decide (a<=b))) (Q2 0) (Q2 1))
def Kr:MS:=(J9 (Qm (yu fun ns=>.bl (ns.all id)) (Q1 (Yz (Qs [none,none] (Wz (J1 (Q8 0) (J1 (Q8 1) V0))) (Q48 (Q1 (Q2 0) (Q1 (Q2 1) Q5))) Qp Vt)) Q5)))
def Yc:FN:=Qh Kr 2
theorem Q4z {f:aA} {fd:aN} (F:Fun K "is_row_within" "is_row_within" Kk f fd) (T:Txt mg)   : FnOk P w K mg base (CXD P w) 1 f fd ["one", "other"] (spF mg 2 Yc):=by
 have:FnScope ["one", "other"] ["one", "other"] (Q6 Kk):=by fail "c"
 delta Yc Kr Vt
 fail "k"
def K7:ME:=(Q9 2 Yc (Q1 (Q2 0) (Q1 (Q2 1) Q5)))
def Q1r : MS := (Qf (W1 (Q9 2 Qy (Q1 (Q2 0) (Q1 (Q2 1) Q5))))
  (J9 (Qm (yu fun ns=>.bl (ns.all id)) (Q1 (Yz (Qs [none,none] (Wz (J1 (Q8 0) (J1 (Q8 1) V0))) (Q48 (Q1 (Q2 0) (Q1 (Q2 1) Q5))) Qp K7)) Q5))))
def X7:FN:=Qh Q1r 2
theorem Qbh {f:aA} {fd:aN} (F:Fun K "is_within" "is_within" Q1e f fd) (T:Txt mg)  (j:DefS P w K mg base 1 "need_as_many_houses" 2 Qy) (q:DefS P w K mg base 1 "is_row_within" 2 Yc):FnOk P w K mg base (CXD P w) 2 f fd ["one", "other"] (spF mg 2 X7):=by
 have:FnScope ["one", "other"] ["one", "other"] (Q6 Q1e):=by fail "c"
 delta X7 Q1r K7
 fail "k"
def Xk:ME:=(Qm Q8x (Q1 (Q2 0) (Q1 (Q2 1) Q5)))
def Q0d:MS:=(J9 (Qm Vh (Q1 (Yz (Qs [none,none] (Wz (J1 (Q8 0) (J1 (Q8 1) V0))) (Q48 (Q1 (Q2 0) (Q1 (Q2 1) Q5))) Qp Xk)) Q5)))
def Uc:FN:=Qh Q0d 2
theorem Q9a {f:aA} {fd:aN} (F:Fun K "joined_row" "joined_row" xj f fd) (T:Txt mg)   : FnOk P w K mg base (CXD P w) 1 f fd ["one", "other"] (spF mg 2 Uc):=by
 have:FnScope ["one", "other"] ["one", "other"] (Q6 xj):=by fail "c"
 delta Uc Q0d Xk
 fail "k"
def Q0r:ME:=(Q9 2 Uc (Q1 (Q2 0) (Q1 (Q2 1) Q5)))
def Q84 : MS := (Qf (W1 (Q9 2 Qy (Q1 (Q2 0) (Q1 (Q2 1) Q5))))
  (J9 (Qm Vh (Q1 (Yz (Qs [none,none] (Wz (J1 (Q8 0) (J1 (Q8 1) V0))) (Q48 (Q1 (Q2 0) (Q1 (Q2 1) Q5))) Qp Q0r)) Q5))))
def yy:FN:=Qh Q84 2
theorem Qij {f:aA} {fd:aN} (F:Fun K "joined" "joined" Q7b f fd) (T:Txt mg)  (j:DefS P w K mg base 1 "need_as_many_houses" 2 Qy) (q:DefS P w K mg base 1 "joined_row" 2 Uc):FnOk P w K mg base (CXD P w) 2 f fd ["one", "other"] (spF mg 2 yy):=by
 have:FnScope ["one", "other"] ["one", "other"] (Q6 Q7b):=by fail "c"
 delta yy Q84 Q0r
 fail "k"
def Q0q:ME:=(mOp oIx (Q2 1) (Q2 0))
def Q3j:MS:=(J9 (Qm Vh (Q1 (Yz (Qs [none,none] (Wz (J1 (Q8 0) (J1 (Q8 1) V0))) (Q89 (Q1 (Q2 0) Q5)) Qp Q0q)) Q5)))
def X2:FN:=Qh Q3j 1
theorem Qd9 {f:aA} {fd:aN} (F:Fun K "own_rows" "own_rows" Q38 f fd) (T:Txt mg)   : FnOk P w K mg base (CXD P w) 1 f fd ["tables"] (spF mg 1 X2):=by
 have:FnScope ["tables"] ["tables"] (Q6 Q38):=by fail "c"
 delta X2 Q3j Q0q
 fail "k"
def Q0t:ME:=(Q5a (Q9 1 U4 (Q1 (Q2 0) Q5)) (mOp oEq (Qm Zt (Q1 (Q2 0) Q5)) (Qm Zt (Q1 (Q2 1) Q5))))
def Q0s:ME:=(Q9 2 X7 (Q1 (Q2 0) (Q1 (Q9 1 X2 (Q1 (Q2 1) Q5)) Q5)))
def Q3n : MS := (Qf (Y2 (Q1c (Vy (toB (Q9r "list" (Q2 0)))) (toB (mOp oEq (Qm Zt (Q1 (Q2 0) Q5)) (mC (.int 0))))) (J9 (mC (.bl false))) Ze)
  (Qf (Y2 (Vy (toB (Qm (yu fun ns=>.bl (ns.all id)) (Q1 (Yz (Qs [none,some 0] (Q8 0) (Ke (Q2 0)) Qp Q0t)) Q5)))) (J9 (mC (.bl false))) Ze)
  (J9 (Qm (yu fun ns=>.bl (ns.all id)) (Q1 (Yz (Qs [none,some 0] (Q8 0) (Ke (Q2 0)) Qp Q0s)) Q5)))))
def X3:FN:=Qh Q3n 1
theorem Qdc {f:aA} {fd:aN} (F:Fun K "is_stand" "is_stand" Q3b f fd) (T:Txt mg)  (z:DefS P w K mg base 3 "is_table" 1 U4) (j:DefS P w K mg base 2 "is_within" 2 X7) (q:DefS P w K mg base 1 "own_rows" 1 X2):FnOk P w K mg base (CXD P w) 4 f fd ["tables"] (spF mg 1 X3):=by
 have:FnScope ["tables"] ["tables"] (Q6 Q3b):=by fail "c"
 delta X3 Q3n Q0s Q0t
 fail "k"
def Q0c:MS:=(Y2 (Vy (toB (Q9 1 X3 (Q1 (Q2 0) Q5)))) (Um "NoStand" (mC (.str "these tables are no stand"))) Ze)
def Yw:FN:=Qh Q0c 1
theorem Q99 {f:aA} {fd:aN} (F:Fun K "need_stand" "need_stand" xi f fd) (T:Txt mg) (j:∃ C,mg "NoStand" = some (.ref C)/\bY K C Vw "ValueError.__new__" = true) (q:DefS P w K mg base 4 "is_stand" 1 X3):FnOk P w K mg base (CXD P w) 5 f fd ["tables"] (spF mg 1 Yw):=by
 obtain ⟨_,_,_⟩:=j;have:FnScope ["tables"] ["tables"] (Q6 xi):=by fail "c"
 delta Yw Q0c
 fail "k"
def Qbr : MS := (Qf (W1 (Q9 1 Yw (Q1 (Q2 0) Q5)))
  (J9 (Q9 1 X2 (Q1 (Q2 0) Q5))))
def Q4m:FN:=Qh Qbr 1
theorem Qn3 {f:aA} {fd:aN} (F:Fun K "whole" "whole" Qb8 f fd) (T:Txt mg)  (j:DefS P w K mg base 5 "need_stand" 1 Yw) (q:DefS P w K mg base 1 "own_rows" 1 X2):FnOk P w K mg base (CXD P w) 6 f fd ["tables"] (spF mg 1 Q4m):=by
 have:FnScope ["tables"] ["tables"] (Q6 Qb8):=by fail "c"
 delta Q4m Qbr
 fail "k"
def Qbt:MS:=(J9 (mOp (oI fun a b=>.int (a - b)) (mOp oIx (mOp oIx (mOp oIx (Q2 0) (Q2 1)) (Q2 1)) (Q2 2)) (mOp oIx (mOp oIx (mOp oIx (Q2 0) (Q2 2)) (Q2 1)) (Q2 2))))
def Q0y:FN:=Qh Qbt 3
theorem Qn5 {f:aA} {fd:aN} (F:Fun K "going" "going" Qba f fd) (T:Txt mg)   : FnOk P w K mg base (CXD P w) 1 f fd ["tables", "i", "j"] (spF mg 3 Q0y):=by
 have:FnScope ["tables", "i", "j"] ["tables", "i", "j"] (Q6 Qba):=by fail "c"
 delta Q0y Qbt
 fail "k"
def Q0b : MS := (Qf (W1 (Q9 1 Yw (Q1 (Q2 0) Q5)))
  (Qf (Y2 (Q1c (Vy (toB (Q9 2 Jy (Q1 (Q2 0) (Q1 (Q2 1) Q5))))) (Q1c (Vy (toB (Q9 2 Jy (Q1 (Q2 0) (Q1 (Q2 2) Q5))))) (toB (mOp oEq (Q2 1) (Q2 2))))) (Um "NoHouse" (mC (.str "a way leads from one house of the stand to another"))) Ze)
  (J9 (Q9 3 Q0y (Q1 (Q2 0) (Q1 (Q2 1) (Q1 (Q2 2) Q5)))))))
def Xt:FN:=Qh Q0b 3
theorem Q98 {f:aA} {fd:aN} (F:Fun K "on_the_way" "on_the_way" xh f fd) (T:Txt mg) (j:∃ C,mg "NoHouse" = some (.ref C)/\bY K C Vw "ValueError.__new__" = true) (q:DefS P w K mg base 5 "need_stand" 1 Yw) (z:DefS P w K mg base 3 "is_house" 2 Jy) (B:DefS P w K mg base 1 "going" 3 Q0y):FnOk P w K mg base (CXD P w) 6 f fd ["tables", "i", "j"] (spF mg 3 Xt):=by
 obtain ⟨_,_,_⟩:=j;have:FnScope ["tables", "i", "j"] ["tables", "i", "j"] (Q6 xh):=by fail "c"
 delta Xt Q0b
 fail "k"
def Q8t:ME:=(Q9 2 Ym (Q1 (Q2 1) (Q1 (Q2 0) Q5)))
def Qft : MS := (Qf (W1 (Q9 1 Yw (Q1 (Q2 0) Q5)))
  (J9 (Yz (Qs [none,none] (Wz (J1 (Q8 0) (J1 (Q8 1) V0))) (Q89 (Q1 (Q2 0) Q5)) Qp Q8t))))
def Q3u:FN:=Qh Qft 1
theorem Qsa {f:aA} {fd:aN} (F:Fun K "held" "held" Qf3 f fd) (T:Txt mg)  (q:DefS P w K mg base 5 "need_stand" 1 Yw) (j:DefS P w K mg base 4 "rights_tables" 2 Ym):FnOk P w K mg base (CXD P w) 6 f fd ["tables"] (spF mg 1 Q3u):=by
 have:FnScope ["tables"] ["tables"] (Q6 Qf3):=by fail "c"
 delta Q3u Qft Q8t
 fail "k"
def y9:ME:=(Q9 3 Q0y (Q1 (Q2 1) (Q1 (Q2 0) (Q1 (Q2 2) Q5))))
def zg:MT:=(toB (mOp oNe (Q2 0) (Q2 2)))
def Q1s:MS:=(J9 (Qm (Wr fun ns=>some (.int ns.sum)) (Q1 (Yz (Qs [none,some 0,some 1] (Q8 0) (J7 (Q1 (Qm Zt (Q1 (Q2 0) Q5)) Q5)) zg y9)) Q5)))
def Kg:FN:=Qh Q1s 2
theorem Qbi {f:aA} {fd:aN} (F:Fun K "coming_to" "coming_to" Q1f f fd) (T:Txt mg)  (j:DefS P w K mg base 1 "going" 3 Q0y):FnOk P w K mg base (CXD P w) 2 f fd ["tables", "house"] (spF mg 2 Kg):=by
 have:FnScope ["tables", "house"] ["tables", "house"] (Q6 Q1f):=by fail "c"
 delta Kg Q1s zg y9
 fail "k"
def Q22:ME:=(Q9 2 Kg (Q1 (Q2 1) (Q1 (Q2 0) Q5)))
def Q21:ME:=(U8 (Q1 (Q2 0) (Q1 (Q2 1) (Q1 (mOp Yj (Q2 0) (Q2 1)) Q5))))
def Q59 : MS := (Qf (J2 1 (Q9 1 Q3u (Q1 (Q2 0) Q5)))
  (Qf (Y2 (toB (mOp oLt (Qm Qed (Q1 (Q2 1) Q5)) (mC (.int 0)))) (Um "NoStand" (mC (.str "a house holds less than nothing"))) Ze)
  (Qf (J2 2 (Yz (Qs [none,some 0] (Q8 0) (J7 (Q1 (Qm Zt (Q1 (Q2 0) Q5)) Q5)) Qp Q22)))
  (J9 (Yz (Qs [none,none] (Wz (J1 (Q8 0) (J1 (Q8 1) V0))) (Q48 (Q1 (Q2 1) (Q1 (Q2 2) Q5))) Qp Q21))))))
def K3:FN:=Qh Q59 3
theorem Qff {f:aA} {fd:aN} (F:Fun K "account" "account" Q4t f fd) (T:Txt mg) (j:∃ C,mg "NoStand" = some (.ref C)/\bY K C Vw "ValueError.__new__" = true) (z:DefS P w K mg base 6 "held" 1 Q3u) (q:DefS P w K mg base 2 "coming_to" 2 Kg):FnOk P w K mg base (CXD P w) 7 f fd ["tables"] (spF mg 1 K3):=by
 obtain ⟨_,_,_⟩:=j;have:FnScope ["tables", "had", "coming"] ["tables"] (Q6 Q4t):=by fail "c"
 delta K3 Q59 Q21 Q22
 fail "k"
def Yp:ME:=(Q9 1 Wi (Q1 (Q2 0) Q5))
def Vg : MS := (Qf (Y2 (Q1c (Vy (toB (Q9r "tuple" (Q2 0)))) (Q1c (toB (mOp oEq (Qm Zt (Q1 (Q2 0) Q5)) (mC (.int 0)))) (Vy (toB (Q9r "str" (mOp oIx (Q2 0) (mC (.int 0)))))))) (J9 (mC (.bl false))) Ze)
  (J9 (Qm (yu fun ns=>.bl (ns.all id)) (Q1 (Yz (Qs [none] (Q8 0) (Ke (mSl (Q2 0) (X5 (mC (.int 1))) Wc)) Qp Yp)) Q5))))
def Qe:FN:=Qh Vg 1
theorem Q08 {f:aA} {fd:aN} (F:Fun K "is_text_and_numbers" "is_text_and_numbers" Ve f fd) (T:Txt mg)  (j:DefS P w K mg base 1 "is_whole" 1 Wi):FnOk P w K mg base (CXD P w) 2 f fd ["thing"] (spF mg 1 Qe):=by
 have:FnScope ["thing"] ["thing"] (Q6 Ve):=by fail "c"
 delta Qe Vg Yp
 fail "k"
def U7:MS:=(J9 (Q5a (Q9 1 Qe (Q1 (Q2 0) Q5)) (Q5a (mOp oEq (Qm Zt (Q1 (Q2 0) Q5)) (Qfv (mOp oIx (Q2 0) (mC (.int 0))))) (mOp (oI fun a b=>.bl (decide (b<=a))) (mOp oIx (Q2 0) (Q2x (mC (.int 1)))) (mC (.int 1))))))
def Yh:FN:=Qh U7 1
theorem Qfe {f:aA} {fd:aN} (F:Fun K "is_deed" "is_deed" Q4s f fd) (T:Txt mg) (PK:PartsOk P w K mg)  (j:DefS P w K mg base 2 "is_text_and_numbers" 1 Qe):FnOk P w K mg base (CXD P w) 3 f fd ["thing"] (spF mg 1 Yh):=by
 have:FnScope ["thing"] ["thing"] (Q6 Q4s):=by fail "c"
 delta Yh U7
 fail "k"
def Y4:ME:=(Q9 2 Jy (Q1 (Q2 1) (Q1 (Q2 0) Q5)))
def Yf : MS := (Qf (J2 2 (mSl (Q2 1) (X5 (mC (.int 1))) (X5 (Q2x (mC (.int 1))))))
  (Qf (Y2 (Vy (toB (Qm (yu fun ns=>.bl (ns.all id)) (Q1 (Yz (Qs [none,some 0] (Q8 0) (Ke (Q2 2)) Qp Y4)) Q5)))) (Um "NoHouse" (mC (.str "no house of this table"))) Ze)
  (Y2 (Q10 (toB (mOp oEq (mOp oIx (Q2 1) (mC (.int 0))) (mC (.str "lend")))) (toB (mOp oEq (mOp oIx (Q2 2) (mC (.int 0))) (mOp oIx (Q2 2) (mC (.int 1)))))) (Um "NoHouse" (mC (.str "a house lends nothing to itself"))) Ze)))
def Qx:FN:=Qh Yf 3
theorem Q06 {f:aA} {fd:aN} (F:Fun K "need_houses_of_deed" "need_houses_of_deed" Vc f fd) (T:Txt mg) (j:∃ C,mg "NoHouse" = some (.ref C)/\bY K C Vw "ValueError.__new__" = true) (q:DefS P w K mg base 3 "is_house" 2 Jy):FnOk P w K mg base (CXD P w) 4 f fd ["table", "deed"] (spF mg 2 Qx):=by
 obtain ⟨_,_,_⟩:=j;have:FnScope ["table", "deed", "houses"] ["table", "deed"] (Q6 Vc):=by fail "c"
 delta Qx Yf Y4
 fail "k"
def U0 : MS := (Qf (Y2 (toB (mOp oEq (mOp oIx (Q2 1) (mC (.int 0))) (mC (.str "make")))) (J9 (mOp oIx (Q2 1) (mC (.int 1)))) Ze)
  (Qf (Y2 (toB (mOp oEq (mOp oIx (Q2 1) (mC (.int 0))) (mC (.str "lend")))) (J9 (mOp oIx (Q2 1) (mC (.int 2)))) Ze)
  (J9 (Qm Zt (Q1 (Q2 0) Q5)))))
def Yn:FN:=Qh U0 2
theorem Q61 {f:aA} {fd:aN} (F:Fun K "place_in_row" "place_in_row" ja f fd) (T:Txt mg)   : FnOk P w K mg base (CXD P w) 1 f fd ["table", "deed"] (spF mg 2 Yn):=by
 have:FnScope ["table", "deed"] ["table", "deed"] (Q6 ja):=by fail "c"
 delta Yn U0
 fail "k"
def Q82 : MS := (Qf (J2 4 (mOp oIx (Q2 0) (Q2 1)))
  (Qf (J2 5 (mOp Yj (mOp Yj (mSl (Q2 4) Wc (X5 (Q2 2))) (U8 (Q1 (mOp Yj (mOp oIx (Q2 4) (Q2 2)) (Q2 3)) Q5))) (mSl (Q2 4) (X5 (mOp Yj (Q2 2) (mC (.int 1)))) Wc)))
  (J9 (mOp Yj (mOp Yj (mSl (Q2 0) Wc (X5 (Q2 1))) (U8 (Q1 (Q2 5) Q5))) (mSl (Q2 0) (X5 (mOp Yj (Q2 1) (mC (.int 1)))) Wc)))))
def yw:FN:=Qh Q82 6
theorem Qih {f:aA} {fd:aN} (F:Fun K "raised" "raised" Q79 f fd) (T:Txt mg)   : FnOk P w K mg base (CXD P w) 1 f fd ["table", "house", "place", "k"] (spF mg 4 yw):=by
 have:FnScope ["table", "house", "place", "k", "row", "higher"] ["table", "house", "place", "k"] (Q6 Q79):=by fail "c"
 delta yw Q82
 fail "k"
def Q86 : MS := (Qf (Y2 (Vy (toB (Q9 1 Yh (Q1 (Q2 1) Q5)))) (Um "NoDeed" (mC (.str "neither a making nor a lending nor a using of one right or more"))) Ze)
  (Qf (W1 (Q9 2 Qx (Q1 (Q2 0) (Q1 (Q2 1) Q5))))
  (Qf (J2 2 (mOp oIx (Q2 1) (mC (.int 1))))
  (Qf (J2 3 (mOp oIx (Q2 1) (Q2x (mC (.int 1)))))
  (Qf (Y2 (toB (mOp oNe (mOp oIx (Q2 1) (mC (.int 0))) (mC (.str "make")))) (Qf (J2 4 (Q9 2 Ym (Q1 (Q2 0) (Q1 (Q2 2) Q5))))
  (Y2 (toB (mOp oLt (Q2 4) (Q2 3))) (Qbu "Short" "had" (Q2 4)) Ze)) Ze)
  (J9 (Q9 4 yw (Q1 (Q2 0) (Q1 (Q2 2) (Q1 (Q9 2 Yn (Q1 (Q2 0) (Q1 (Q2 1) Q5))) (Q1 (Q2 3) Q5)))))))))))
def Ky:FN:=Qh Q86 5
theorem Qsb {f:aA} {fd:aN} (F:Fun K "done" "done" Qf4 f fd) (T:Txt mg) (G:ShortS P w K mg base) (z:∃ C,mg "NoDeed" = some (.ref C)/\bY K C Vw "ValueError.__new__" = true) (I:DefS P w K mg base 3 "is_deed" 1 Yh) (j:DefS P w K mg base 4 "need_houses_of_deed" 2 Qx) (q:DefS P w K mg base 4 "rights_tables" 2 Ym) (J:DefS P w K mg base 1 "raised" 4 yw) (B:DefS P w K mg base 1 "place_in_row" 2 Yn):FnOk P w K mg base (CXD P w) 5 f fd ["table", "deed"] (spF mg 2 Ky):=by
 obtain ⟨a3,a2,Z,O,U,a5,Y,a4⟩:=G.ex;obtain ⟨_,_,_⟩:=z;have:FnScope ["table", "deed", "house", "k", "had"] ["table", "deed"] (Q6 Qf4):=by fail "c"
 delta Ky Q86
 fail "k"
def Q1q:MS:=(J9 (mOp (oI fun a b=>.bl (decide (b < a))) (mOp oIx (mOp oIx (Q2 0) (Q2 1)) (Q2 1)) (mC (.int 0))))
def X6:FN:=Qh Q1q 2
theorem Qbg {f:aA} {fd:aN} (F:Fun K "made_some" "made_some" Q1d f fd) (T:Txt mg)   : FnOk P w K mg base (CXD P w) 1 f fd ["table", "house"] (spF mg 2 X6):=by
 have:FnScope ["table", "house"] ["table", "house"] (Q6 Q1d):=by fail "c"
 delta X6 Q1q
 fail "k"
def Uk : MS := (Qf (J2 2 (mOp oIx (Q2 0) (Q2 1)))
  (J9 (mOp (oI fun a b=>.bl (decide (b < a))) (Qm (Wr fun ns=>some (.int ns.sum)) (Q1 (Q2 2) Q5)) (mOp oIx (Q2 2) (Q2 1)))))
def Y9:FN:=Qh Uk 3
theorem Q1n {f:aA} {fd:aN} (F:Fun K "lent_or_used_some" "lent_or_used_some" Uj f fd) (T:Txt mg)   : FnOk P w K mg base (CXD P w) 1 f fd ["table", "house"] (spF mg 2 Y9):=by
 have:FnScope ["table", "house", "row"] ["table", "house"] (Q6 Uj):=by fail "c"
 delta Y9 Uk
 fail "k"
def Vq:ME:=(mOp (oI fun a b=>.bl (decide (b < a))) (mOp oIx (mOp oIx (Q2 2) (Q2 0)) (Q2 1)) (mC (.int 0)))
def Vk:MT:=(toB (mOp oNe (Q2 0) (Q2 1)))
def Kq:MS:=(J9 (Qm (yu fun ns=>.bl (ns.any id)) (Q1 (Yz (Qs [none,some 1,some 0] (Q8 0) (Ke (Q2 2)) Vk Vq)) Q5)))
def W8:FN:=Qh Kq 3
theorem Q4x {f:aA} {fd:aN} (F:Fun K "was_lent_some" "was_lent_some" Ki f fd) (T:Txt mg)   : FnOk P w K mg base (CXD P w) 1 f fd ["table", "house", "lenders"] (spF mg 3 W8):=by
 have:FnScope ["table", "house", "lenders"] ["table", "house", "lenders"] (Q6 Ki):=by fail "c"
 delta W8 Kq Vk Vq
 fail "k"
def Q0f:MS:=(J9 (mOr (Q9 2 X6 (Q1 (Q2 0) (Q1 (Q2 1) Q5))) (Q9 3 W8 (Q1 (Q2 0) (Q1 (Q2 1) (Q1 (Q2 2) Q5))))))
def X4:FN:=Qh Q0f 3
theorem Qde {f:aA} {fd:aN} (F:Fun K "has_root" "has_root" Q3d f fd) (T:Txt mg)  (q:DefS P w K mg base 1 "made_some" 2 X6) (j:DefS P w K mg base 1 "was_lent_some" 3 W8):FnOk P w K mg base (CXD P w) 2 f fd ["table", "house", "ahead"] (spF mg 3 X4):=by
 have:FnScope ["table", "house", "ahead"] ["table", "house", "ahead"] (Q6 Q3d):=by fail "c"
 delta X4 Q0f
 fail "k"
def Vs:ME:=(Q2 0)
def W9:MT:=(toB (mOp (oIn true) (Q2 0) (Q2 1)))
def Vr:ME:=(Q2 0)
def Vm:MT:=(toB (Q9 3 X4 (Q1 (Q2 1) (Q1 (Q2 0) (Q1 (Q2 2) Q5)))))
def Wf : MS := (Qf (J2 3 (Yz (Qs [none, some 1] (Q8 0) (J7 (Q1 (Qm Zt (Q1 (Q2 0) Q5)) Q5)) W9 Vs)))
  (Qf (J2 4 (Yz (Qs [none,some 0,some 1] (Q8 0) (Ke (Q2 3)) Vm Vr)))
  (Qf (W1 (mBM jj (Q2 1) (Q1 (Q2 4) Q5)))
  (J2 2 (mOp (oI fun a b=>.bl (decide (b < a))) (Qm Zt (Q1 (Q2 4) Q5)) (mC (.int 0)))))))
def Y5:MT:=(toB (Q2 2))
def Ww : MS := (Qf (J2 1 (y0 (z9 Q5)))
  (Qf (J2 2 (mC (.bl true)))
  (Qf (j4 Y5 Wf 100000)
  (J9 (Q2 1)))))
def Yt:FN:=Qh Ww 5
theorem Q4y {f:aA} {fd:aN} (F:Fun K "rooted_houses" "rooted_houses" Kj f fd) (T:Txt mg)  (j:DefS P w K mg base 2 "has_root" 3 X4):FnOk P w K mg base (CXD P w) 3 f fd ["table"] (spF mg 1 Yt):=by
 have:FnScope ["table", "roots", "grows", "others", "found"] ["table"] (Q6 Kj):=by fail "c"
 delta Yt Ww Y5 Wf Vm Vr W9 Vs
 fail "k"
def Wm:ME:=(Q2 0)
def Yu:MT:=(toB (mOp (oIn true) (Q2 0) (Q2 1)))
def Wk:ME:=(Q9 2 Y9 (Q1 (Q2 1) (Q1 (Q2 0) Q5)))
def Vp : MS := (Qf (J2 1 (Q9 1 Yt (Q1 (Q2 0) Q5)))
  (Qf (J2 2 (Yz (Qs [none,some 1] (Q8 0) (J7 (Q1 (Qm Zt (Q1 (Q2 0) Q5)) Q5)) Yu Wm)))
  (Qf (Y2 (toB (Qm (yu fun ns=>.bl (ns.any id)) (Q1 (Yz (Qs [none,some 0] (Q8 0) (Ke (Q2 2)) Qp Wk)) Q5))) (J9 (Q2 2)) Ze)
  (J9 (Q9q Q5)))))
def Y8:FN:=Qh Vp 3
theorem Q3g {f:aA} {fd:aN} (F:Fun K "rootless_houses" "rootless_houses" Xc f fd) (T:Txt mg)  (q:DefS P w K mg base 3 "rooted_houses" 1 Yt) (j:DefS P w K mg base 1 "lent_or_used_some" 2 Y9):FnOk P w K mg base (CXD P w) 4 f fd ["table"] (spF mg 1 Y8):=by
 have:FnScope ["table", "roots", "others"] ["table"] (Q6 Xc):=by fail "c"
 delta Y8 Vp Wk Yu Wm
 fail "k"
def V1:MS:=(Y2 (toB (mOp oLt (Q9 2 Ym (Q1 (Q2 0) (Q1 (Q2 1) Q5))) (mC (.int 0)))) (J9 (U8 (Q1 (mC (.str "short")) (Q1 (Q2 1) Q5)))) Ze)
def Us : MS := (Qf (Q1u (Q8 1) (J7 (Q1 (Qm Zt (Q1 (Q2 0) Q5)) Q5)) V1)
  (Qf (J2 2 (Q9 1 Y8 (Q1 (Q2 0) Q5)))
  (Qf (Y2 (toB (mOp (oI fun a b=>.bl (decide (b < a))) (Qm Zt (Q1 (Q2 2) Q5)) (mC (.int 0)))) (J9 (U8 (Q1 (mC (.str "rootless")) (Q1 (Q2 2) Q5)))) Ze)
  (J9 (U8 (Q1 (mC (.str "comes")) (Q1 (Q9 1 Yt (Q1 (Q2 0) Q5)) Q5)))))))
def Yy:FN:=Qh Us 3
theorem Q7n {f:aA} {fd:aN} (F:Fun K "comes_about" "comes_about" zi f fd) (T:Txt mg)  (z:DefS P w K mg base 4 "rights_tables" 2 Ym) (j:DefS P w K mg base 4 "rootless_houses" 1 Y8) (q:DefS P w K mg base 3 "rooted_houses" 1 Yt):FnOk P w K mg base (CXD P w) 5 f fd ["table"] (spF mg 1 Yy):=by
 have:FnScope ["table", "house", "rootless"] ["table"] (Q6 zi):=by fail "c"
 delta Yy Us V1
 fail "k"
def Xe:MS:=(J9 (Q5a (Q9 1 U4 (Q1 (Q2 0) Q5)) (mOp oEq (mOp oIx (Q9 1 Yy (Q1 (Q2 0) Q5)) (mC (.int 0))) (mC (.str "comes")))))
def Yr:FN:=Qh Xe 1
theorem Q3h {f:aA} {fd:aN} (F:Fun K "does_come_about" "does_come_about" Xd f fd) (T:Txt mg)  (q:DefS P w K mg base 3 "is_table" 1 U4) (j:DefS P w K mg base 5 "comes_about" 1 Yy):FnOk P w K mg base (CXD P w) 6 f fd ["thing"] (spF mg 1 Yr):=by
 have:FnScope ["thing"] ["thing"] (Q6 Xd):=by fail "c"
 delta Yr Xe
 fail "k"
def Uz:MS:=(Y2 (Vy (toB (Q9 1 Yr (Q1 (Q2 0) Q5)))) (Um "NoTable" (mC (.str "no table that comes about"))) Ze)
def Zg:FN:=Qh Uz 1
theorem Q2w {f:aA} {fd:aN} (F:Fun K "need_comes_about" "need_comes_about" Ux f fd) (T:Txt mg) (j:∃ C,mg "NoTable" = some (.ref C)/\bY K C Vw "ValueError.__new__" = true) (q:DefS P w K mg base 6 "does_come_about" 1 Yr):FnOk P w K mg base (CXD P w) 7 f fd ["thing"] (spF mg 1 Zg):=by
 obtain ⟨_,_,_⟩:=j;have:FnScope ["thing"] ["thing"] (Q6 Ux):=by fail "c"
 delta Zg Uz
 fail "k"
def Xz (C : aA) : MS := (Qf (W1 (Q9 1 Zg (Q1 (Q2 2) Q5)))
  (Qf (Y2 (Vy (toB (Q9 2 Jy (Q1 (Q2 2) (Q1 (Q2 1) Q5))))) (Um "NoHouse" (mC (.str "no house of this table"))) Ze)
  (Qf (yk C "number" (Q2 0) (Q2 1))
  (Qf (yk C "now" (Q2 0) (Q2 2))
  (yk C "kept" (Q2 0) (Q2 2))))))
def Yi (C:aA):FN:=Yb (Xz C) 3
theorem Q41 {f:aA} {fd:aN} {C:aA} (F:Fun K "__init__" "House.__init__" Xx f fd) (T:Txt mg) (B:ClsT K C) (q:∃ C,mg "NoHouse" = some (.ref C)/\bY K C Vw "ValueError.__new__" = true) (j:DefS P w K mg base 7 "need_comes_about" 1 Zg) (z:DefS P w K mg base 3 "is_house" 2 Jy):FnOk P w K mg base (CXD P w) 8 f fd ["self", "number", "table"] (spF mg 3 (Yi C)):=by
 obtain ⟨_,_,_⟩:=q;have:FnScope ["self", "number", "table"] ["self", "number", "table"] (Q6 Xx):=by fail "c"
 delta Yi Xz
 fail "K"
def qm (C:aA):MS:=(yk C "now" (Q2 0) (Q9 2 Ky (Q1 (Wx C "now" (Q2 0)) (Q1 (U8 (Q1 (mC (.str "make")) (Q1 (Wx C "number" (Q2 0)) (Q1 (Q2 1) Q5)))) Q5))))
def Ue (C:aA):FN:=Yb (qm C) 2
theorem Q9i {f:aA} {fd:aN} {C:aA} (F:Fun K "make" "House.make" xx f fd) (T:Txt mg) (q:ClsT K C)  (j:DefS P w K mg base 5 "done" 2 Ky):FnOk P w K mg base (CXD P w) 6 f fd ["self", "k"] (spF mg 2 (Ue C)):=by
 have:FnScope ["self", "k"] ["self", "k"] (Q6 xx):=by fail "c"
 delta Ue qm
 fail "K"
def qp (C:aA):MS:=(yk C "now" (Q2 0) (Q9 2 Ky (Q1 (Wx C "now" (Q2 0)) (Q1 (U8 (Q1 (mC (.str "lend")) (Q1 (Wx C "number" (Q2 0)) (Q1 (Q2 1) (Q1 (Q2 2) Q5))))) Q5))))
def Uf (C:aA):FN:=Yb (qp C) 3
theorem Q9j {f:aA} {fd:aN} {C:aA} (F:Fun K "lend" "House.lend" xy f fd) (T:Txt mg) (q:ClsT K C)  (j:DefS P w K mg base 5 "done" 2 Ky):FnOk P w K mg base (CXD P w) 6 f fd ["self", "to", "k"] (spF mg 3 (Uf C)):=by
 have:FnScope ["self", "to", "k"] ["self", "to", "k"] (Q6 xy):=by fail "c"
 delta Uf qp
 fail "K"
def z8 (C:aA):MS:=(yk C "now" (Q2 0) (Q9 2 Ky (Q1 (Wx C "now" (Q2 0)) (Q1 (U8 (Q1 (mC (.str "use")) (Q1 (Wx C "number" (Q2 0)) (Q1 (Q2 1) Q5)))) Q5))))
def X8 (C:aA):FN:=Yb (z8 C) 2
theorem Qbk {f:aA} {fd:aN} {C:aA} (F:Fun K "use" "House.use" Q1h f fd) (T:Txt mg) (q:ClsT K C)  (j:DefS P w K mg base 5 "done" 2 Ky):FnOk P w K mg base (CXD P w) 6 f fd ["self", "k"] (spF mg 2 (X8 C)):=by
 have:FnScope ["self", "k"] ["self", "k"] (Q6 Q1h):=by fail "c"
 delta X8 z8
 fail "K"
def qq (C:aA):MS:=(yk C "kept" (Q2 0) (Wx C "now" (Q2 0)))
def Ug (C:aA):FN:=Yb (qq C) 1
theorem Q9k {f:aA} {fd:aN} {C:aA} (F:Fun K "keep" "House.keep" xz f fd) (T:Txt mg) (j:ClsT K C)   : FnOk P w K mg base (CXD P w) 1 f fd ["self"] (spF mg 1 (Ug C)):=by
 have:FnScope ["self"] ["self"] (Q6 xz):=by fail "c"
 delta Ug qq
 fail "K"
def qr (C:aA):MS:=(yk C "now" (Q2 0) (Wx C "kept" (Q2 0)))
def Uh (C:aA):FN:=Yb (qr C) 1
theorem Q9m {f:aA} {fd:aN} {C:aA} (F:Fun K "fall" "House.fall" Q00 f fd) (T:Txt mg) (j:ClsT K C)   : FnOk P w K mg base (CXD P w) 1 f fd ["self"] (spF mg 1 (Uh C)):=by
 have:FnScope ["self"] ["self"] (Q6 Q00):=by fail "c"
 delta Uh qr
 fail "K"
def Xf (C:aA):MS:=(J9 (Wx C "kept" (Q2 0)))
def W4 (C:aA):FN:=Qh (Xf C) 1
theorem Q67 {f:aA} {fd:aN} {C:aA} (F:Fun K "letter" "House.letter" jg f fd) (T:Txt mg) (j:ClsT K C)   : FnOk P w K mg base (CXD P w) 1 f fd ["self"] (spF mg 1 (W4 C)):=by
 have:FnScope ["self"] ["self"] (Q6 jg):=by fail "c"
 delta W4 Xf
 fail "k"
def qt (C : aA) : MS := (Qf (W1 (Q9 2 Qy (Q1 (Wx C "now" (Q2 0)) (Q1 (Q2 1) Q5))))
  (Qf (Y2 (Vy (toB (Q9 2 Yc (Q1 (mOp oIx (Q2 1) (Wx C "number" (Q2 0))) (Q1 (mOp oIx (Wx C "now" (Q2 0)) (Wx C "number" (Q2 0))) Q5))))) (Um "NoLetter" (mC (.str "it tells more of this house than the house did"))) Ze)
  (yk C "now" (Q2 0) (Q9 2 yy (Q1 (Wx C "now" (Q2 0)) (Q1 (Q2 1) Q5))))))
def Ui (C:aA):FN:=Yb (qt C) 2
theorem Q9n {f:aA} {fd:aN} {C:aA} (F:Fun K "come" "House.come" Q01 f fd) (T:Txt mg) (G:ClsT K C) (q:∃ C,mg "NoLetter" = some (.ref C)/\bY K C Vw "ValueError.__new__" = true) (j:DefS P w K mg base 1 "need_as_many_houses" 2 Qy) (z:DefS P w K mg base 1 "is_row_within" 2 Yc) (B:DefS P w K mg base 2 "joined" 2 yy):FnOk P w K mg base (CXD P w) 3 f fd ["self", "table"] (spF mg 2 (Ui C)):=by
 obtain ⟨_,_,_⟩:=q;have:FnScope ["self", "table"] ["self", "table"] (Q6 Q01):=by fail "c"
 delta Ui qt
 fail "K"
def K6 (C:aA):MS:=(J9 (Wx C "now" (Q2 0)))
def Vb (C:aA):FN:=Qh (K6 C) 1
theorem Q7v {f:aA} {fd:aN} {C:aA} (F:Fun K "table" "House.table" zr f fd) (T:Txt mg) (j:ClsT K C)   : FnOk P w K mg base (CXD P w) 1 f fd ["self"] (spF mg 1 (Vb C)):=by
 have:FnScope ["self"] ["self"] (Q6 zr):=by fail "c"
 delta Vb K6
 fail "k"
def Q1t (C:aA):MS:=(J9 (Q9 2 Ym (Q1 (Wx C "now" (Q2 0)) (Q1 (Wx C "number" (Q2 0)) Q5))))
def jv (C:aA):FN:=Qh (Q1t C) 1
theorem Q66 {f:aA} {fd:aN} {C:aA} (F:Fun K "rights" "House.rights" jf f fd) (T:Txt mg) (q:ClsT K C)  (j:DefS P w K mg base 4 "rights_tables" 2 Ym):FnOk P w K mg base (CXD P w) 5 f fd ["self"] (spF mg 1 (jv C)):=by
 have:FnScope ["self"] ["self"] (Q6 jf):=by fail "c"
 delta jv Q1t
 fail "k"
def Q47 (C:aA):MS:=(J9 (U8 (Q1 (mOp oIx (mOp oIx (Wx C "kept" (Q2 0)) (Wx C "number" (Q2 0))) (Q2x (mC (.int 1)))) (Q1 (mOp oIx (mOp oIx (Wx C "now" (Q2 0)) (Wx C "number" (Q2 0))) (Q2x (mC (.int 1)))) Q5))))
def Q0z (C:aA):FN:=Qh (Q47 C) 1
theorem Q9h {f:aA} {fd:aN} {C:aA} (F:Fun K "used" "House.used" xu f fd) (T:Txt mg) (j:ClsT K C)   : FnOk P w K mg base (CXD P w) 1 f fd ["self"] (spF mg 1 (Q0z C)):=by
 have:FnScope ["self"] ["self"] (Q6 xu):=by fail "c"
 delta Q0z Q47
 fail "k"
def Zv:MS:=(J9 (Q5a (Q9 1 Qe (Q1 (Q2 0) Q5)) (mOp oEq (Qm Zt (Q1 (Q2 0) Q5)) (qv (mOp oIx (Q2 0) (mC (.int 0)))))))
def Qz:FN:=Qh Zv 1
theorem Q50 {f:aA} {fd:aN} (F:Fun K "is_other_deed" "is_other_deed" Km f fd) (T:Txt mg) (PO:PartsO P w K mg)  (j:DefS P w K mg base 2 "is_text_and_numbers" 1 Qe):FnOk P w K mg base (CXD P w) 3 f fd ["thing"] (spF mg 1 Qz):=by
 have:FnScope ["thing"] ["thing"] (Q6 Km):=by fail "c"
 delta Qz Zv
 fail "k"
def Y1:MS:=(Y2 (toB (Q9 1 Yh (Q1 (Q2 2) Q5))) (W1 (Q9 2 Qx (Q1 (Q2 0) (Q1 (Q2 2) Q5)))) (Y2 (Vy (toB (Q9 1 Qz (Q1 (Q2 2) Q5)))) (Um "NoDeed" (mC (.str "a deed of no kind that runs have"))) (Y2 (Vy (toB (Q9 2 Jy (Q1 (Q2 0) (Q1 (mOp oIx (Q2 2) (Q2x (mC (.int 1)))) Q5))))) (Um "NoHouse" (mC (.str "no house of this run"))) (Y2 (Q10 (toB (mOp oEq (mOp oIx (Q2 2) (mC (.int 0))) (mC (.str "come")))) (Vy (toB (Q1v (oI fun a b=>.bl (decide (a<=b))) oLt (mC (.int 0)) (mOp oIx (Q2 2) (mC (.int 1))) (Qm Zt (Q1 (Q2 1) Q5)))))) (Um "NoLetter" (mC (.str "no letter of this number is put by so far"))) Ze))))
def J6:FN:=Qh Y1 3
theorem Q2v {f:aA} {fd:aN} (F:Fun K "need_deed_of_run" "need_deed_of_run" Uw f fd) (T:Txt mg) (B:∃ C,mg "NoDeed" = some (.ref C)/\bY K C Vw "ValueError.__new__" = true) (z:∃ C,mg "NoHouse" = some (.ref C)/\bY K C Vw "ValueError.__new__" = true) (q:∃ C,mg "NoLetter" = some (.ref C)/\bY K C Vw "ValueError.__new__" = true) (J:DefS P w K mg base 3 "is_deed" 1 Yh) (j:DefS P w K mg base 4 "need_houses_of_deed" 2 Qx) (G:DefS P w K mg base 3 "is_other_deed" 1 Qz) (I:DefS P w K mg base 3 "is_house" 2 Jy):FnOk P w K mg base (CXD P w) 5 f fd ["table", "letters", "deed"] (spF mg 3 J6):=by
 obtain ⟨_,_,_⟩:=B;obtain ⟨_,_,_⟩:=z;obtain ⟨_,_,_⟩:=q;have:FnScope ["table", "letters", "deed"] ["table", "letters", "deed"] (Q6 Uw):=by fail "c"
 delta J6 Y1
 fail "k"
def zt (C : aA) : MS := (Qf (J2 2 (mOp oIx (Q2 0) (mOp oIx (Q2 1) (mC (.int 1)))))
  (Y2 (toB (mOp oEq (mOp oIx (Q2 1) (mC (.int 0))) (mC (.str "make")))) (W1 (ym C "make" 2 (Ue C) (Q2 2) (Q1 (mOp oIx (Q2 1) (mC (.int 2))) Q5))) (Y2 (toB (mOp oEq (mOp oIx (Q2 1) (mC (.int 0))) (mC (.str "lend")))) (W1 (ym C "lend" 3 (Uf C) (Q2 2) (Q1 (mOp oIx (Q2 1) (mC (.int 2))) (Q1 (mOp oIx (Q2 1) (mC (.int 3))) Q5)))) (W1 (ym C "use" 2 (X8 C) (Q2 2) (Q1 (mOp oIx (Q2 1) (mC (.int 2))) Q5))))))
def Yx (C:aA):FN:=Yb (zt C) 3
theorem Q7m {f:aA} {fd:aN} {C:aA} (F:Fun K "do_own_deed" "do_own_deed" zh f fd) (T:Txt mg) (B:ClsT K C)   (j:MethS P w K mg base 6 C "make" 2 (Ue C)) (q:MethS P w K mg base 6 C "lend" 3 (Uf C)) (z:MethS P w K mg base 6 C "use" 2 (X8 C)):FnOk P w K mg base (CXD P w) 7 f fd ["houses", "deed"] (spF mg 2 (Yx C)):=by
 have:FnScope ["houses", "deed", "house"] ["houses", "deed"] (Q6 zh):=by fail "c"
 delta Yx zt
 fail "K"
def W6 (C : aA) : MS := (Qf (J2 3 (mOp oIx (Q2 0) (mOp oIx (Q2 2) (Q2x (mC (.int 1))))))
  (Y2 (toB (mOp oEq (mOp oIx (Q2 2) (mC (.int 0))) (mC (.str "keep")))) (W1 (ym C "keep" 1 (Ug C) (Q2 3) Q5)) (Y2 (toB (mOp oEq (mOp oIx (Q2 2) (mC (.int 0))) (mC (.str "fall")))) (W1 (ym C "fall" 1 (Uh C) (Q2 3) Q5)) (Y2 (toB (mOp oEq (mOp oIx (Q2 2) (mC (.int 0))) (mC (.str "send")))) (W1 (mBM Wv (Q2 1) (Q1 (ym C "letter" 1 (W4 C) (Q2 3) Q5) Q5))) (W1 (ym C "come" 2 (Ui C) (Q2 3) (Q1 (mOp oIx (Q2 1) (mOp oIx (Q2 2) (mC (.int 1)))) Q5)))))))
def V3 (C:aA):FN:=Yb (W6 C) 4
theorem Q51 {f:aA} {fd:aN} {C:aA} (F:Fun K "do_other_deed" "do_other_deed" Kn f fd) (T:Txt mg) (G:ClsT K C)   (B:MethS P w K mg base 1 C "keep" 1 (Ug C)) (z:MethS P w K mg base 1 C "fall" 1 (Uh C)) (j:MethS P w K mg base 1 C "letter" 1 (W4 C)) (q:MethS P w K mg base 3 C "come" 2 (Ui C)):FnOk P w K mg base (CXD P w) 4 f fd ["houses", "letters", "deed"] (spF mg 3 (V3 C)):=by
 have:FnScope ["houses", "letters", "deed", "house"] ["houses", "letters", "deed"] (Q6 Kn):=by fail "c"
 delta V3 W6
 fail "K"
def Kc (C : aA) : MS := (Qf (Y2 (toB (Q9 1 Qz (Q1 (Q2 2) Q5))) (Qf (W1 (Q9 3 (V3 C) (Q1 (Q2 0) (Q1 (Q2 1) (Q1 (Q2 2) Q5)))))
  (J9 (mC (.str "done")))) Ze)
  (Qf (Qdn "Short" "had" 3 2 (Yx C) (Q1 (Q2 0) (Q1 (Q2 2) Q5)))
  (J9 (mC (.str "done")))))
def zf (C:aA):FN:=Yb (Kc C) 4
theorem sc_answer_to:FnScope ["houses", "letters", "deed", "refusal"] ["houses", "letters", "deed"] (Q6 Q1g):=⟨rfl,rfl,rfl,by decide +kernel,rfl,by decide +kernel,by decide +kernel⟩
theorem Qbj {f:aA} {fd:aN} {C:aA} (F:Fun K "answer_to" "answer_to" Q1g f fd) (T:Txt mg) (Z:ClsT K C) (J:∃ C,mg "Short" = some (.ref C)/\dL K (.ref C) (.ref C)=some true/\XGet K C "had")  (q:DefS P w K mg base 3 "is_other_deed" 1 Qz) (j:DefS P w K mg base 4 "do_other_deed" 3 (V3 C)) (z:DefS P w K mg base 7 "do_own_deed" 2 (Yx C)):FnOk P w K mg base (CXD P w) 8 f fd ["houses", "letters", "deed"] (spF mg 3 (zf C)):=by
 obtain ⟨Y,U,O,I⟩:=J;refine Qe5 (k:=7) (m:=(Kc C)) F sc_answer_to rfl rfl rfl fun G A outer s H E B=>?_
 exact (Wj (Q9z (Qkh (U6 q (B.mono (by decide)) Uq rfl (J0 (Qj 2) Yg))) (Wj (Qgm (U6 j (B.mono (by decide)) Uq rfl (J0 (Qj 0) (J0 (Qj 1) (J0 (Qj 2) Yg)))))
  (j9 (Q37 Qf1))) Q4r)
  (Wj (Qgk z (B.mono (by decide)) (J0 (Qj 0) (J0 (Qj 2) Yg)) sc_answer_to.nd U O I)
  (j9 (Q37 Qf1))))
def jt (C:aA):ME:=(Qu9 C 3 (Yi C) (Q1 (Q2 0) (Q1 (Q2 1) Q5)))
def Q0v (C : aA) : MS := (Qf (W1 (Q9 3 J6 (Q1 (Q2 0) (Q1 (Q2 3) (Q1 (Q2 5) Q5)))))
  (W1 (mBM Wv (Q2 4) (Q1 (Q9 3 (zf C) (Q1 (Q2 2) (Q1 (Q2 3) (Q1 (Q2 5) Q5)))) Q5))))
def Q3s (C:aA):ME:=(ym C "table" 1 (Vb C) (Q2 0) Q5)
def Q83 (C : aA) : MS := (Qf (W1 (Q9 1 Zg (Q1 (Q2 0) Q5)))
  (Qf (J2 2 (Yz (Qs [none,some 0] (Q8 0) (J7 (Q1 (Qm Zt (Q1 (Q2 0) Q5)) Q5)) Qp (jt C))))
  (Qf (J2 3 (y0 (z9 Q5)))
  (Qf (J2 4 (y0 (z9 Q5)))
  (Qf (Q1u (Q8 5) (Ke (Q2 1)) (Q0v C))
  (J9 (U8 (Q1 (Q2 4) (Q1 (y0 (Qs [none] (Q8 0) (Ke (Q2 2)) Qp (Q3s C))) Q5)))))))))
def yx (C:aA):FN:=Yb (Q83 C) 6
theorem Qii {f:aA} {fd:aN} {C:aA} (F:Fun K "played" "played" Q7a f fd) (T:Txt mg) (I:ClsT K C)  (j:DefS P w K mg base 7 "need_comes_about" 1 Zg) (q:DefS P w K mg base 5 "need_deed_of_run" 3 J6) (B:DefS P w K mg base 8 "answer_to" 3 (zf C)) (G:MakeS P w K mg base 8 C "House" 3 (Yi C)) (z:MethS P w K mg base 1 C "table" 1 (Vb C)):FnOk P w K mg base (CXD P w) 10 f fd ["table", "deeds"] (spF mg 2 (yx C)):=by
 have:FnScope ["table", "deeds", "houses", "letters", "answers", "deed"] ["table", "deeds"] (Q6 Q7a):=by fail "c"
 delta yx Q83 Q3s Q0v jt
 fail "K"
def qk : MS := (Qf (Y2 (toB (mOp oLt (Q2 1) (Qm Zt (Q1 (Q2 0) Q5)))) (J9 (mOp oIx (Q2 0) (Q2 1))) Ze)
  (J9 (mC (.int 0))))
def Wu:FN:=Qh qk 2
theorem Q9f {f:aA} {fd:aN} (F:Fun K "_law_acell" "_law_acell" xr f fd) (T:Txt mg)   : FnOk P w K mg base (CXD P w) 1 f fd ["script", "k"] (spF mg 2 Wu):=by
 have:FnScope ["script", "k"] ["script", "k"] (Q6 xr):=by fail "c"
 delta Wu qk
 fail "k"
def Xr : MS := (Qf (J2 4 (mOp Yj (mOp Q68 (Q2 4) (Q2 3)) (Q2 5)))
  (J2 5 (mOp Q43 (mOp Yj (mOp Yj (mOp Q68 (Q2 5) (Q2 5)) (mOp Q68 (mC (.int 40692)) (Q2 1))) (Q2 6)) (Q2 3))))
def qi : MS := (Qf (J2 2 (Q9 2 Wu (Q1 (Q2 0) (Q1 (Q2 1) Q5))))
  (Qf (Y2 (toB (mOp oEq (mOp Q43 (Q2 2) (mC (.int 2))) (mC (.int 0)))) (J9 (y0 (z9 (Q1 (mOp Qse (Q2 2) (mC (.int 2))) Q5)))) Ze)
  (Qf (J2 3 (mC (.int 2305843009213693951)))
  (Qf (J2 4 (mC (.int 0)))
  (Qf (J2 5 (mOp Q43 (mOp Yj (mOp Yj (mOp Q68 (mOp Q43 (Q2 2) (Q2 3)) (mC (.int 48271))) (mOp Q68 (mC (.int 69621)) (Q2 1))) (mC (.int 11))) (Q2 3)))
  (Qf (Q1u (Q8 6) (J7 (Q1 (mC (.int 5)) Q5)) Xr)
  (J9 (y0 (z9 (Q1 (Q2 4) Q5))))))))))
def Yk:FN:=Yb qi 7
theorem Q9c {f:aA} {fd:aN} (F:Fun K "_law_atape" "_law_atape" xm f fd) (T:Txt mg)  (j:DefS P w K mg base 1 "_law_acell" 2 Wu):FnOk P w K mg base (CXD P w) 2 f fd ["script", "k"] (spF mg 2 Yk):=by
 have:FnScope ["script", "k", "cell", "p", "number", "last", "turn"] ["script", "k"] (Q6 xm):=by fail "c"
 delta Yk qi Xr
 fail "K"
def zy : MS := (Qf (J2 2 (mOp Q43 (mOp oIx (Q2 0) (mC (.int 0))) (Q2 1)))
  (Qf (y3 (Q2 0) (mC (.int 0)) (mOp Qgz (mOp oIx (Q2 0) (mC (.int 0))) (Q2 1)))
  (J9 (Q2 2))))
def Qc:FN:=Qh zy 3
theorem Q7t {f:aA} {fd:aN} (F:Fun K "_law_adigit" "_law_adigit" zp f fd) (T:Txt mg)   : FnOk P w K mg base (CXD P w) 1 f fd ["tape", "many"] (spF mg 2 Qc):=by
 have:FnScope ["tape", "many", "found"] ["tape", "many"] (Q6 zp):=by fail "c"
 delta Qc zy
 fail "k"
def K1:ME:=(mOp oIx (mOp oIx (Q2 2) (Q2 0)) (Q2 1))
def K0:ME:=(Q2 0)
def jk : MS := (Qf (J2 2 (Qm (Wr fun ns => some (.int ns.sum)) (Q1 (Yz (Qs [none, some 1, some 0] (Q8 0) (J7 (Q1 (Qm Zt (Q1 (Q2 0) Q5)) Q5)) Qp K1)) Q5)))
  (J9 (mOp Yj (mOp (oI fun a b=>.int (a - b)) (Q2 2) (Qm (Wr fun ns=>some (.int ns.sum)) (Q1 (Yz (Qs [none] (Q8 0) (Ke (mOp oIx (Q2 0) (Q2 1))) Qp K0)) Q5))) (mOp oIx (mOp oIx (Q2 0) (Q2 1)) (Q2 1)))))
def J8:FN:=Qh jk 3
theorem Q62 {f:aA} {fd:aN} (F:Fun K "_law_arights" "_law_arights" jb f fd) (T:Txt mg)   : FnOk P w K mg base (CXD P w) 1 f fd ["table", "i"] (spF mg 2 J8):=by
 have:FnScope ["table", "i", "lent"] ["table", "i"] (Q6 jb):=by fail "c"
 delta J8 jk K0 K1
 fail "k"
def Xp:ME:=(Qm Vh (Q1 (mOp Q68 (Q9q (Q1 (mC (.int 0)) Q5)) (mOp Yj (Q2 1) (mC (.int 1)))) Q5))
def Q0g:MS:=(J9 (Qm Vh (Q1 (Yz (Qs [none,some 0] (Q8 0) (J7 (Q1 (Q2 0) Q5)) Qp Xp)) Q5)))
def Xv:FN:=Qh Q0g 1
theorem Q9g {f:aA} {fd:aN} (F:Fun K "_law_abare" "_law_abare" xt f fd) (T:Txt mg)   : FnOk P w K mg base (CXD P w) 1 f fd ["size"] (spF mg 1 Xv):=by
 have:FnScope ["size"] ["size"] (Q6 xt):=by fail "c"
 delta Xv Q0g Xp
 fail "k"
def jm : MS := (Qf (J2 4 (mOp Yj (mOp Yj (mSl (mOp oIx (Q2 0) (Q2 1)) Wc (X5 (Q2 2))) (U8 (Q1 (mOp Yj (mOp oIx (mOp oIx (Q2 0) (Q2 1)) (Q2 2)) (Q2 3)) Q5))) (mSl (mOp oIx (Q2 0) (Q2 1)) (X5 (mOp Yj (Q2 2) (mC (.int 1)))) Wc)))
  (J9 (mOp Yj (mOp Yj (mSl (Q2 0) Wc (X5 (Q2 1))) (U8 (Q1 (Q2 4) Q5))) (mSl (Q2 0) (X5 (mOp Yj (Q2 1) (mC (.int 1)))) Wc))))
def Zh:FN:=Qh jm 5
theorem Q63 {f:aA} {fd:aN} (F:Fun K "_law_araised" "_law_araised" jc f fd) (T:Txt mg)   : FnOk P w K mg base (CXD P w) 1 f fd ["table", "i", "at", "k"] (spF mg 4 Zh):=by
 have:FnScope ["table", "i", "at", "k", "row"] ["table", "i", "at", "k"] (Q6 jc):=by fail "c"
 delta Zh jm
 fail "k"
def U9:ME:=(Qm Q8x (Q1 (Q2 0) (Q1 (Q2 1) Q5)))
def K2:MS:=(W1 (mBM Wv (Q2 2) (Q1 (Qm Vh (Q1 (Yz (Qs [none,none] (Wz (J1 (Q8 0) (J1 (Q8 1) V0))) (Q48 (Q1 (Q2 3) (Q1 (Q2 4) Q5))) Qp U9)) Q5)) Q5)))
def jq : MS := (Qf (J2 2 (y0 (z9 Q5)))
  (Qf (Q1u (Wz (J1 (Q8 3) (J1 (Q8 4) V0))) (Q48 (Q1 (Q2 0) (Q1 (Q2 1) Q5))) K2)
  (J9 (Qm Vh (Q1 (Q2 2) Q5)))))
def W3:FN:=Qh jq 5
theorem Q65 {f:aA} {fd:aN} (F:Fun K "_law_ajoined" "_law_ajoined" je f fd) (T:Txt mg)   : FnOk P w K mg base (CXD P w) 1 f fd ["one", "other"] (spF mg 2 W3):=by
 have:FnScope ["one", "other", "rows", "row", "told"] ["one", "other"] (Q6 je):=by fail "c"
 delta W3 jq K2 U9
 fail "k"
def qj : MS := (Qf (J2 1 (Q9 2 Qc (Q1 (Q2 0) (Q1 (mC (.int 12)) Q5))))
  (Qf (Y2 (toB (mOp oEq (Q2 1) (mC (.int 11)))) (J9 (mOp (oI fun a b=>.int (a - b)) (mOp Qn7 (mC (.int 10)) (mC (.int 20))) (Q9 2 Qc (Q1 (Q2 0) (Q1 (mC (.int 3)) Q5))))) Ze)
  (J9 (mOp Yj (mC (.int 1)) (mOp Q43 (Q2 1) (mC (.int 7)))))))
def Wg:FN:=Qh qj 2
theorem Q9e {f:aA} {fd:aN} (F:Fun K "_law_amuch" "_law_amuch" xq f fd) (T:Txt mg)  (j:DefS P w K mg base 1 "_law_adigit" 2 Qc):FnOk P w K mg base (CXD P w) 2 f fd ["tape"] (spF mg 1 Wg):=by
 have:FnScope ["tape", "way"] ["tape"] (Q6 xq):=by fail "c"
 delta Wg qj
 fail "k"
def Uu : MS := (Qf (J2 5 (Q9 2 Qc (Q1 (Q2 0) (Q1 (Q2 1) Q5))))
  (Qf (J2 6 (Q9 2 Qc (Q1 (Q2 0) (Q1 (mC (.int 4)) Q5))))
  (Qf (J2 7 (Q9 2 J8 (Q1 (Q2 3) (Q1 (Q2 5) Q5))))
  (Y2 (Q1c (toB (mOp oLt (Q2 6) (mC (.int 2)))) (toB (mOp oEq (Q2 7) (mC (.int 0))))) (J2 3 (Q9 4 Zh (Q1 (Q2 3) (Q1 (Q2 5) (Q1 (Q2 5) (Q1 (Q9 1 Wg (Q1 (Q2 0) Q5)) Q5)))))) (Y2 (Q10 (toB (mOp oEq (Q2 6) (mC (.int 2)))) (toB (mOp (oI fun a b=>.bl (decide (b < a))) (Q2 1) (mC (.int 1))))) (Qf (J2 8 (mOp Q43 (mOp Yj (mOp Yj (Q2 5) (mC (.int 1))) (Q9 2 Qc (Q1 (Q2 0) (Q1 (mOp (oI fun a b=>.int (a - b)) (Q2 1) (mC (.int 1))) Q5)))) (Q2 1)))
  (J2 3 (Q9 4 Zh (Q1 (Q2 3) (Q1 (Q2 5) (Q1 (Q2 8) (Q1 (mOp Yj (mC (.int 1)) (Q9 2 Qc (Q1 (Q2 0) (Q1 (Q2 7) Q5)))) Q5))))))) (J2 3 (Q9 4 Zh (Q1 (Q2 3) (Q1 (Q2 5) (Q1 (Q2 1) (Q1 (mOp Yj (mC (.int 1)) (Q9 2 Qc (Q1 (Q2 0) (Q1 (Q2 7) Q5)))) Q5)))))))))))
def zu : MS := (Qf (J2 3 (Q9 1 Xv (Q1 (Q2 1) Q5)))
  (Qf (Q1u (Q8 4) (J7 (Q1 (Q2 2) Q5)) Uu)
  (J9 (Q2 3))))
def V7:FN:=Qh zu 9
theorem Q7p {f:aA} {fd:aN} (F:Fun K "_law_atable" "_law_atable" zj f fd) (T:Txt mg)  (G:DefS P w K mg base 1 "_law_abare" 1 Xv) (z:DefS P w K mg base 1 "_law_adigit" 2 Qc) (q:DefS P w K mg base 1 "_law_arights" 2 J8) (j:DefS P w K mg base 1 "_law_araised" 4 Zh) (B:DefS P w K mg base 2 "_law_amuch" 1 Wg):FnOk P w K mg base (CXD P w) 3 f fd ["tape", "size", "many"] (spF mg 3 V7):=by
 have:FnScope ["tape", "size", "many", "table", "turn", "i", "way", "have", "j"] ["tape", "size", "many"] (Q6 zj):=by fail "c"
 delta V7 zu Uu
 fail "k"
def Kv:ME:=(Q2 1)
def Ku:ME:=(Q2 1)
def zw:MS:=(J9 (Qbv "now" "last" "letters" (y0 (Qs [none,some 0] (Q8 0) (J7 (Q1 (Qm Zt (Q1 (Q2 0) Q5)) Q5)) Qp Kv)) (y0 (Qs [none,some 0] (Q8 0) (J7 (Q1 (Qm Zt (Q1 (Q2 0) Q5)) Q5)) Qp Ku)) (y0 (z9 Q5))))
def V8:FN:=Yb zw 1
theorem Q7q {f:aA} {fd:aN} (F:Fun K "_law_astart" "_law_astart" zk f fd) (T:Txt mg)   : FnOk P w K mg base (CXD P w) 1 f fd ["table"] (spF mg 1 V8):=by
 have:FnScope ["table"] ["table"] (Q6 zk):=by fail "c"
 delta V8 zw Ku Kv
 fail "K"
def Wb : MS := (Qf (J2 2 (U1 (Q2 0) (mC (.str "now"))))
  (Qf (Y2 (toB (mOp oEq (mOp oIx (Q2 1) (mC (.int 0))) (mC (.str "keep")))) (y3 (U1 (Q2 0) (mC (.str "last"))) (mOp oIx (Q2 1) (mC (.int 1))) (mOp oIx (Q2 2) (mOp oIx (Q2 1) (mC (.int 1))))) (Y2 (toB (mOp oEq (mOp oIx (Q2 1) (mC (.int 0))) (mC (.str "fall")))) (y3 (Q2 2) (mOp oIx (Q2 1) (mC (.int 1))) (mOp oIx (U1 (Q2 0) (mC (.str "last"))) (mOp oIx (Q2 1) (mC (.int 1))))) (Y2 (toB (mOp oEq (mOp oIx (Q2 1) (mC (.int 0))) (mC (.str "send")))) (W1 (mBM Wv (U1 (Q2 0) (mC (.str "letters"))) (Q1 (mOp oIx (U1 (Q2 0) (mC (.str "last"))) (mOp oIx (Q2 1) (mC (.int 1)))) Q5))) (Y2 (toB (mOp oEq (mOp oIx (Q2 1) (mC (.int 0))) (mC (.str "come")))) (y3 (Q2 2) (mOp oIx (Q2 1) (mC (.int 2))) (Q9 2 W3 (Q1 (mOp oIx (Q2 2) (mOp oIx (Q2 1) (mC (.int 2)))) (Q1 (mOp oIx (U1 (Q2 0) (mC (.str "letters"))) (mOp oIx (Q2 1) (mC (.int 1)))) Q5)))) (Qf (J2 3 (mOp oIx (Q2 1) (mC (.int 1))))
  (Qf (J2 4 (Q9 2 J8 (Q1 (mOp oIx (Q2 2) (Q2 3)) (Q1 (Q2 3) Q5))))
  (Qf (Y2 (Q10 (toB (mOp oNe (mOp oIx (Q2 1) (mC (.int 0))) (mC (.str "make")))) (toB (mOp oLt (Q2 4) (mOp oIx (Q2 1) (Q2x (mC (.int 1))))))) (J9 (Q2 4)) Ze)
  (Qf (J2 5 (Qdr "make" "use" "lend" (Q2 3) (Qm Zt (Q1 (Q2 2) Q5)) (mOp oIx (Q2 1) (mC (.int 2))) (mOp oIx (Q2 1) (mC (.int 0)))))
  (y3 (Q2 2) (Q2 3) (Q9 4 Zh (Q1 (mOp oIx (Q2 2) (Q2 3)) (Q1 (Q2 3) (Q1 (Q2 5) (Q1 (mOp oIx (Q2 1) (Q2x (mC (.int 1)))) Q5))))))))))))))
  (J9 (mC (.str "done")))))
def Xu:FN:=Qh Wb 6
theorem Q9d {f:aA} {fd:aN} (F:Fun K "_law_astep" "_law_astep" xn f fd) (T:Txt mg)  (z:DefS P w K mg base 1 "_law_ajoined" 2 W3) (q:DefS P w K mg base 1 "_law_arights" 2 J8) (j:DefS P w K mg base 1 "_law_araised" 4 Zh):FnOk P w K mg base (CXD P w) 2 f fd ["state", "deed"] (spF mg 2 Xu):=by
 have:FnScope ["state", "deed", "now", "i", "have", "at"] ["state", "deed"] (Q6 xn):=by fail "c"
 delta Xu Wb
 fail "k"
def zx : MS := (Qf (J2 2 (Qm Zt (Q1 (U1 (Q2 1) (mC (.str "now"))) Q5)))
  (Qf (J2 3 (Q9 2 Qc (Q1 (Q2 0) (Q1 (Q2 2) Q5))))
  (Qf (J2 4 (Q9 2 Qc (Q1 (Q2 0) (Q1 (mC (.int 12)) Q5))))
  (Qf (J2 5 (Qm Q8x (Q1 (mC (.int 0)) (Q1 (Q9 2 J8 (Q1 (mOp oIx (U1 (Q2 1) (mC (.str "now"))) (Q2 3)) (Q1 (Q2 3) Q5))) Q5))))
  (Qf (J2 6 (mOp Yj (mC (.int 1)) (Q9 2 Qc (Q1 (Q2 0) (Q1 (mOp Yj (Q2 5) (mC (.int 2))) Q5)))))
  (Qf (Y2 (toB (mOp oEq (Q2 4) (mC (.int 0)))) (J9 (U8 (Q1 (mC (.str "make")) (Q1 (Q2 3) (Q1 (Q9 1 Wg (Q1 (Q2 0) Q5)) Q5))))) Ze)
  (Qf (Y2 (Q10 (toB (mOp oLt (Q2 4) (mC (.int 4)))) (toB (mOp (oI fun a b=>.bl (decide (b < a))) (Q2 2) (mC (.int 1))))) (J9 (U8 (Q1 (mC (.str "lend")) (Q1 (Q2 3) (Q1 (mOp Q43 (mOp Yj (mOp Yj (Q2 3) (mC (.int 1))) (Q9 2 Qc (Q1 (Q2 0) (Q1 (mOp (oI fun a b=>.int (a - b)) (Q2 2) (mC (.int 1))) Q5)))) (Q2 2)) (Q1 (Q2 6) Q5)))))) Ze)
  (Qf (Y2 (toB (mOp oLt (Q2 4) (mC (.int 6)))) (J9 (U8 (Q1 (mC (.str "use")) (Q1 (Q2 3) (Q1 (Q2 6) Q5))))) Ze)
  (Qf (Y2 (toB (mOp oLt (Q2 4) (mC (.int 8)))) (J9 (U8 (Q1 (mOp oIx (Q9q (Q1 (mC (.str "keep")) (Q1 (mC (.str "fall")) Q5))) (Qm Qef (Q1 (mOp oEq (Q9 2 Qc (Q1 (Q2 0) (Q1 (mC (.int 3)) Q5))) (mC (.int 0))) Q5))) (Q1 (Q2 3) Q5)))) Ze)
  (Qf (Y2 (Q1c (toB (mOp oEq (Q2 4) (mC (.int 8)))) (toB (mOp oEq (U1 (Q2 1) (mC (.str "letters"))) (Q9q Q5)))) (J9 (U8 (Q1 (mC (.str "send")) (Q1 (Q2 3) Q5)))) Ze)
  (J9 (U8 (Q1 (mC (.str "come")) (Q1 (Q9 2 Qc (Q1 (Q2 0) (Q1 (Qm Zt (Q1 (U1 (Q2 1) (mC (.str "letters"))) Q5)) Q5))) (Q1 (Q2 3) Q5)))))))))))))))
def V9:FN:=Qh zx 7
theorem Q7s {f:aA} {fd:aN} (F:Fun K "_law_adrawn" "_law_adrawn" zn f fd) (T:Txt mg)  (q:DefS P w K mg base 1 "_law_adigit" 2 Qc) (j:DefS P w K mg base 1 "_law_arights" 2 J8) (z:DefS P w K mg base 2 "_law_amuch" 1 Wg):FnOk P w K mg base (CXD P w) 3 f fd ["tape", "state"] (spF mg 2 V9):=by
 have:FnScope ["tape", "state", "size", "i", "way", "have", "much"] ["tape", "state"] (Q6 zn):=by fail "c"
 delta V9 zx
 fail "k"
def Ua : MS := (Qf (W1 (mBM Wv (Q2 5) (Q1 (Q9 2 V9 (Q1 (Q2 8) (Q1 (Q2 4) Q5))) Q5)))
  (W1 (mBM Wv (Q2 6) (Q1 (Q9 2 Xu (Q1 (Q2 4) (Q1 (mOp oIx (Q2 5) (Q2x (mC (.int 1)))) Q5))) Q5))))
def Ub : MS := (Qf (J2 8 (Q9 2 Yk (Q1 (Q2 0) (Q1 (Q2 7) Q5))))
  (Q1u (Q8 9) (J7 (Q1 (mC (.int 3)) Q5)) Ua))
def jp : MS := (Qf (J2 4 (Q9 1 V8 (Q1 (Q2 3) Q5)))
  (Qf (J2 5 (y0 (z9 Q5)))
  (Qf (J2 6 (y0 (z9 Q5)))
  (Qf (Q1u (Q8 7) (Q0h (Q1 (Q2 1) (Q1 (mOp Yj (Q2 1) (Q2 2)) Q5))) Ub)
  (J9 (U8 (Q1 (Q2 5) (Q1 (Q2 6) (Q1 (Q2 4) Q5)))))))))
def Wp:FN:=Yb jp 10
theorem Q64 {f:aA} {fd:aN} (F:Fun K "_law_aplayed" "_law_aplayed" jd f fd) (T:Txt mg)  (j:DefS P w K mg base 1 "_law_astart" 1 V8) (z:DefS P w K mg base 2 "_law_atape" 2 Yk) (q:DefS P w K mg base 3 "_law_adrawn" 2 V9) (B:DefS P w K mg base 2 "_law_astep" 2 Xu):FnOk P w K mg base (CXD P w) 4 f fd ["script", "start", "many", "table"] (spF mg 4 Wp):=by
 have:FnScope ["script", "start", "many", "table", "state", "deeds", "answers", "k", "tape", "turn"] ["script", "start", "many", "table"] (Q6 jd):=by fail "c"
 delta Wp jp Ub Ua
 fail "K"
def zz : MS := (Qf (J2 1 (Q9 2 Yk (Q1 (Q2 0) (Q1 (mC (.int 0)) Q5))))
  (Qf (J2 2 (mOp Yj (mC (.int 1)) (Q9 2 Qc (Q1 (Q2 1) (Q1 (mC (.int 8)) Q5)))))
  (J9 (Q9 3 V7 (Q1 (Q2 1) (Q1 (Q2 2) (Q1 (Q9 2 Qc (Q1 (Q2 1) (Q1 (mC (.int 9)) Q5))) Q5)))))))
def Va:FN:=Qh zz 3
theorem Q7u {f:aA} {fd:aN} (F:Fun K "_law_abegun" "_law_abegun" zq f fd) (T:Txt mg)  (z:DefS P w K mg base 2 "_law_atape" 2 Yk) (j:DefS P w K mg base 1 "_law_adigit" 2 Qc) (q:DefS P w K mg base 3 "_law_atable" 3 V7):FnOk P w K mg base (CXD P w) 4 f fd ["script"] (spF mg 1 Va):=by
 have:FnScope ["script", "tape", "size"] ["script"] (Q6 zq):=by fail "c"
 delta Va zz
 fail "k"
def Vv:ME:=(U8 (Q1 (mC (.str "keep")) (Q1 (Q2 0) Q5)))
def Vu:ME:=(U8 (Q1 (mC (.str "send")) (Q1 (Q2 0) Q5)))
def Xn:ME:=(Q2 0)
def Xa:MT:=(toB (mOp oEq (mOp oIx (Q2 0) (mC (.int 0))) (mC (.str "send"))))
def Xm:ME:=(U8 (Q1 (mC (.str "come")) (Q1 (Q2 1) (Q1 (Q2 0) Q5))))
def Xs:MS:=(W1 (mBM jj (Q2 2) (Q1 (Yz (Qs [none,some 4] (Q8 0) (J7 (Q1 (Q2 1) Q5)) Qp Xm)) Q5)))
def Ks : MS := (Qf (J2 2 (y0 (Qaf (mOp Yj (Qm Q34 (Q1 (Q2 0) Q5)) (Yz (Qs [none] (Q8 0) (J7 (Q1 (Q2 1) Q5)) Qp Vv))) (Yz (Qs [none] (Q8 0) (J7 (Q1 (Q2 1) Q5)) Qp Vu)))))
  (Qf (J2 3 (Qm Zt (Q1 (Yz (Qs [none] (Q8 0) (Ke (Q2 0)) Xa Xn)) Q5)))
  (Qf (Q1u (Q8 4) (Q0h (Q1 (Q2 3) (Q1 (mOp Yj (Q2 3) (Q2 1)) Q5))) Xs)
  (J9 (Q2 2)))))
def V4:FN:=Yb Ks 5
theorem Q52 {f:aA} {fd:aN} (F:Fun K "_law_aletters" "_law_aletters" Kp f fd) (T:Txt mg)   : FnOk P w K mg base (CXD P w) 1 f fd ["deeds", "size"] (spF mg 2 V4):=by
 have:FnScope ["deeds", "size", "row", "first", "number"] ["deeds", "size"] (Q6 Kp):=by fail "c"
 delta V4 Ks Xs Xm Xa Xn Vu Vv
 fail "K"
def Kw:MS:=(J2 3 (Q9 2 W3 (Q1 (Q2 3) (Q1 (Q2 4) Q5))))
def Q18:ME:=(Q9 2 J8 (Q1 (mOp oIx (Q2 1) (Q2 0)) (Q1 (Q2 0) Q5)))
def Q17:ME:=(mC (.int 0))
def Q19 : MS := (Y2 (toB (mOp oNe (Q2 7) (Q2 8))) (Qf (J2 9 (mOp (oI fun a b => .int (a - b)) (mOp oIx (mOp oIx (mOp oIx (Q2 1) (Q2 7)) (Q2 7)) (Q2 8)) (mOp oIx (mOp oIx (mOp oIx (Q2 1) (Q2 8)) (Q2 7)) (Q2 8))))
  (Qf (y3 (Q2 6) (Q2 8) (mOp Yj (mOp oIx (Q2 6) (Q2 8)) (Q2 9)))
  (Y2 (toB (mOp oNe (Q9 3 Xt (Q1 (Q2 1) (Q1 (Q2 7) (Q1 (Q2 8) Q5)))) (Q2 9))) (J9 (mC (.bl false))) Ze))) Ze)
def Uv:MS:=(Q1u (Q8 8) (J7 (Q1 (Q2 2) Q5)) Q19)
def Q16:ME:=(U8 (Q1 (mOp oIx (Q2 1) (Q2 0)) (Q1 (mOp oIx (Q2 2) (Q2 0)) (Q1 (mOp Yj (mOp oIx (Q2 1) (Q2 0)) (mOp oIx (Q2 2) (Q2 0))) Q5))))
def Q15:ME:=(mOp oIx (Q2 0) (mC (.int 2)))
def Q14:ME:=(Q9 2 Ym (Q1 (Q2 1) (Q1 (Q2 0) Q5)))
def K5 : MS := (Qf (J2 2 (Qm Zt (Q1 (Q2 1) Q5)))
  (Qf (Y2 (toB (mOp Q7w (Q9 1 X3 (Q1 (Q2 1) Q5)) (mC (.bl true)))) (J9 (mC (.bl false))) Ze)
  (Qf (J2 3 (mOp oIx (Q2 1) (mC (.int 0))))
  (Qf (Q1u (Q8 4) (Ke (Q2 1)) Kw)
  (Qf (J2 5 (Yz (Qs [none,some 1] (Q8 0) (J7 (Q1 (Q2 2) Q5)) Qp Q18)))
  (Qf (J2 6 (y0 (Qs [none] (Q8 0) (J7 (Q1 (Q2 2) Q5)) Qp Q17)))
  (Qf (Q1u (Q8 7) (J7 (Q1 (Q2 2) Q5)) Uv)
  (Qf (J2 10 (Yz (Qs [none,some 5,some 6] (Q8 0) (J7 (Q1 (Q2 2) Q5)) Qp Q16)))
  (Qf (Y2 (Q1c (toB (mOp oNe (Q9 1 Q4m (Q1 (Q2 1) Q5)) (Q2 3))) (Q1c (toB (mOp oNe (Q9 1 Q3u (Q1 (Q2 1) Q5)) (Q2 5))) (toB (mOp oNe (Q9 1 K3 (Q1 (Q2 1) Q5)) (Q2 10))))) (J9 (mC (.bl false))) Ze)
  (Qf (J2 11 (Yz (Qs [none] (Q8 0) (Ke (Q2 10)) Qp Q15)))
  (J9 (Q5a (mOp oEq (Qm (Wr fun ns=>some (.int ns.sum)) (Q1 (Q2 11) Q5)) (Q9 1 Q2q (Q1 (Q2 3) Q5))) (mOp oEq (Yz (Qs [none,some 3] (Q8 0) (J7 (Q1 (Q2 2) Q5)) Qp Q14)) (Q2 11))))))))))))))
def Ka:FN:=Qh K5 12
theorem sc__law_aright:FnScope ["deeds", "tables", "size", "joint", "table", "have", "coming", "i", "j", "way", "due", "last"] ["deeds", "tables"] (Q6 zm):=⟨rfl,rfl,rfl,by decide +kernel,rfl,by decide +kernel,by decide +kernel⟩
theorem Q7r {f:aA} {fd:aN} (F:Fun K "_law_aright" "_law_aright" zm f fd) (T:Txt mg)  (I:DefS P w K mg base 4 "is_stand" 1 X3) (z:DefS P w K mg base 1 "_law_ajoined" 2 W3) (j:DefS P w K mg base 1 "_law_arights" 2 J8) (B:DefS P w K mg base 6 "on_the_way" 3 Xt) (U:DefS P w K mg base 6 "whole" 1 Q4m) (Y:DefS P w K mg base 6 "held" 1 Q3u) (J:DefS P w K mg base 7 "account" 1 K3) (O:DefS P w K mg base 1 "stock" 1 Q2q) (q:DefS P w K mg base 4 "rights_tables" 2 Ym):FnOk P w K mg base (CXD P w) 8 f fd ["deeds", "tables"] (spF mg 2 Ka):=by
 refine Qhd (k:=7) (m:=K5) F sc__law_aright rfl rfl rfl fun Z A outer s H E G=>?_
 exact (Wj (xg 2 sc__law_aright.nd (Q77 Qpd rfl T.b_len gg (J0 (Qj 1) Yg)))
  (Wj (Q9z (Q36 Qd6 (U6 I (G.mono (by decide)) Uq rfl (J0 (Qj 1) Yg)) Qct) (j9 (Q37 Qct)) Q4r)
  (Wj (xg 3 sc__law_aright.nd (Up (Qj 1) Q4q))
  (Wj (Qb4 PassesOwn.leaving rfl (Qb7 (Qj 1)) (U5 (i:=4) sc__law_aright.nd) (j9 (xg 3 sc__law_aright.nd (U6 z (G.mono (by decide)) Uq rfl (J0 (Qj 3) (J0 (Qj 4) Yg))))))
  (Wj (by first | exact Q3x [none,some 1] ["i", "tables"] 5 sc__law_aright.nd rfl (V5 rfl T.b_range (J0 (Qj 2) Yg)) (fun _ _ _ _ _=>(U5 (i:=0) (show (["i", "tables"]:List Str).Nodup by decide +kernel))) (fun _ _ _ _ _=>(U6 j (G.mono (by decide)) Q6g rfl (J0 (Up (Qj 1) (Qj 0)) (J0 (Qj 0) Yg)))) (fun _ _ _ _ _=>K4) V6 | exact xg 5 sc__law_aright.nd (Q75 (Q29 [none,some 1] ["i", "tables"] rfl (V5 rfl T.b_range (J0 (Qj 2) Yg)) (fun _ _ _ _ _=>(U5 (i:=0) (show (["i", "tables"]:List Str).Nodup by decide +kernel))) (fun _ _ _ _ _=>(U6 j (G.mono (by decide)) Q6g rfl (J0 (Up (Qj 1) (Qj 0)) (J0 (Qj 0) Yg)))) (fun _ _ _ _ _=>K4) V6)))
  (Wj (by first | exact ss_compT [none] ["i"] 6 sc__law_aright.nd rfl (V5 rfl T.b_range (J0 (Qj 2) Yg)) (fun _ _ _ _ _=>(U5 (i:=0) (show (["i"]:List Str).Nodup by decide +kernel))) (fun _ _ _ _ _=>Q4q) (fun _ _ _ _ _=>K4) V6 | exact xg 6 sc__law_aright.nd (Qkt (Q29 [none] ["i"] rfl (V5 rfl T.b_range (J0 (Qj 2) Yg)) (fun _ _ _ _ _=>(U5 (i:=0) (show (["i"]:List Str).Nodup by decide +kernel))) (fun _ _ _ _ _=>Q4q) (fun _ _ _ _ _=>K4) V6)))
  (Wj (Qb4 PassesOwn.leaving rfl (V5 rfl T.b_range (J0 (Qj 2) Yg)) (U5 (i:=7) sc__law_aright.nd) (j9 (Qb4 PassesOwn.leaving rfl (V5 rfl T.b_range (J0 (Qj 2) Yg)) (U5 (i:=8) sc__law_aright.nd) (j9 (Q9z (Q36 (Qaa G.units) (Qj 7) (Qj 8)) (Wj (xg 9 sc__law_aright.nd (Qcs Qmv (Up (Up (Up (Qj 1) (Qj 7)) (Qj 7)) (Qj 8)) (Up (Up (Up (Qj 1) (Qj 8)) (Qj 7)) (Qj 8))))
  (Wj (Qkk (Qcs Qbe (Up (Qj 6) (Qj 8)) (Qj 9)) (Qj 6) (Qj 8))
  (j9 (Q9z (Q36 (Qaa G.units) (U6 B (G.mono (by decide)) Uq rfl (J0 (Qj 1) (J0 (Qj 7) (J0 (Qj 8) Yg)))) (Qj 9)) (j9 (Q37 Qct)) Q4r)))) Q4r)))))
  (Wj (by first | exact Q3x [none,some 5,some 6] ["i", "have", "coming"] 10 sc__law_aright.nd rfl (V5 rfl T.b_range (J0 (Qj 2) Yg)) (fun _ _ _ _ _=>(U5 (i:=0) (show (["i", "have", "coming"]:List Str).Nodup by decide +kernel))) (fun _ _ _ _ _=>(Qf0 (J0 (Up (Qj 1) (Qj 0)) (J0 (Up (Qj 2) (Qj 0)) (J0 (Qcs Qbe (Up (Qj 1) (Qj 0)) (Up (Qj 2) (Qj 0))) Yg))))) (fun _ _ _ _ _=>K4) V6 | exact xg 10 sc__law_aright.nd (Q75 (Q29 [none,some 5,some 6] ["i", "have", "coming"] rfl (V5 rfl T.b_range (J0 (Qj 2) Yg)) (fun _ _ _ _ _=>(U5 (i:=0) (show (["i", "have", "coming"]:List Str).Nodup by decide +kernel))) (fun _ _ _ _ _=>(Qf0 (J0 (Up (Qj 1) (Qj 0)) (J0 (Up (Qj 2) (Qj 0)) (J0 (Qcs Qbe (Up (Qj 1) (Qj 0)) (Up (Qj 2) (Qj 0))) Yg))))) (fun _ _ _ _ _=>K4) V6)))
  (Wj (Q9z (SimW.t (Qke (Q36 (Qaa G.units) (U6 U (G.mono (by decide)) Uq rfl (J0 (Qj 1) Yg)) (Qj 3)) (Qke (Q36 (Qaa G.units) (U6 Y (G.mono (by decide)) Uq rfl (J0 (Qj 1) Yg)) (Qj 5)) (Qkd (Q36 (Qaa G.units) (U6 J (G.mono (by decide)) Uq rfl (J0 (Qj 1) Yg)) (Qj 10)))))) (j9 (Q37 Qct)) Q4r)
  (Wj (by first | exact Q3x [none] ["row"] 11 sc__law_aright.nd rfl (Qb7 (Qj 10)) (fun _ _ _ _ _=>(U5 (i:=0) (show (["row"]:List Str).Nodup by decide +kernel))) (fun _ _ _ _ _=>(Up (Qj 0) Q4q)) (fun _ _ _ _ _=>K4) V6 | exact xg 11 sc__law_aright.nd (Q75 (Q29 [none] ["row"] rfl (Qb7 (Qj 10)) (fun _ _ _ _ _=>(U5 (i:=0) (show (["row"]:List Str).Nodup by decide +kernel))) (fun _ _ _ _ _=>(Up (Qj 0) Q4q)) (fun _ _ _ _ _=>K4) V6)))
  (j9 (Q37 (Qm1 (Qf2 (Qmx G.units) (Q77 (Qpc rfl) rfl T.b_sum Qeg (J0 (Qj 11) Yg)) (U6 O (G.mono (by decide)) Uq rfl (J0 (Qj 3) Yg))) (Qkw (Qf2 (Qmx G.units) (Q75 (Q29 [none,some 3] ["i", "joint"] rfl (V5 rfl T.b_range (J0 (Qj 2) Yg)) (fun _ _ _ _ _=>(U5 (i:=0) (show (["i", "joint"]:List Str).Nodup by decide +kernel))) (fun _ _ _ _ _=>(U6 q (G.mono (by decide)) Q6g rfl (J0 (Qj 1) (J0 (Qj 0) Yg)))) (fun _ _ _ _ _=>K4) V6)) (Qj 11))))))))))))))))
def Qc5 (C:aA):ME:=(Q9 2 Ym (Q1 (mOp oIx (Q2 1) (Q2 0)) (Q1 (Q2 0) Q5)))
def Qc4 (C:aA):ME:=(mOp oIx (Q2 0) (mC (.int 2)))
def Q6r (C : aA) : MS := (Qf (J2 7 (mOp oIx (Q9 2 (yx C) (Q1 (Q2 1) (Q1 (mSl (Q2 3) Wc (X5 (Q2 6))) Q5))) (mC (.int 1))))
  (Qf (Y2 (Vy (toB (Q9 2 Ka (Q1 (mSl (Q2 3) Wc (X5 (Q2 6))) (Q1 (Q2 7) Q5))))) (J9 (mC (.bl false))) Ze)
  (Qf (J2 8 (mOp oIx (Q9 2 (yx C) (Q1 (Q2 1) (Q1 (Q9 2 V4 (Q1 (mSl (Q2 3) Wc (X5 (Q2 6))) (Q1 (Q2 2) Q5))) Q5))) (mC (.int 1))))
  (Y2 (toB (mOp oNe (Yz (Qs [none,some 8] (Q8 0) (J7 (Q1 (Q2 2) Q5)) Qp (Qc5 C))) (Yz (Qs [none] (Q8 0) (Ke (Q9 1 K3 (Q1 (Q2 7) Q5))) Qp (Qc4 C))))) (J9 (mC (.bl false))) Ze))))
def Qnd (C : aA) : MS := (Qf (J2 1 (Q9 1 Va (Q1 (Q2 0) Q5)))
  (Qf (J2 2 (Qm Zt (Q1 (Q2 1) Q5)))
  (Qf (Qnk (Wz (J1 (Q8 3) (J1 (Q8 4) (J1 (Q8 5) V0)))) (Q9 4 Wp (Q1 (Q2 0) (Q1 (mC (.int 1)) (Q1 (Qm Q8x (Q1 (mC (.int 4)) (Q1 (Qm Qed (Q1 (mC (.int 10)) (Q1 (mOp (oI fun a b=>.int (a - b)) (Qm Zt (Q1 (Q2 0) Q5)) (mC (.int 1))) Q5))) Q5))) (Q1 (Q2 1) Q5))))))
  (Qf (Q1u (Q8 6) (Q4a (Q1 (mC (.int 0)) (Q1 (mOp Yj (Qm Zt (Q1 (Q2 3) Q5)) (mC (.int 1))) (Q1 (mC (.int 3)) Q5)))) (Q6r C))
  (J9 (mC (.bl true)))))))
def Qqa (C:aA):FN:=Qh (Qnd C) 9
theorem Qwb {f:aA} {fd:aN} {C:aA} (F:Fun K "law" "law" Q3z f fd) (T:Txt mg) (O:ClsT K C)  (B:DefS P w K mg base 4 "_law_abegun" 1 Va) (z:DefS P w K mg base 4 "_law_aplayed" 4 Wp) (J:DefS P w K mg base 10 "played" 2 (yx C)) (G:DefS P w K mg base 8 "_law_aright" 2 Ka) (q:DefS P w K mg base 1 "_law_aletters" 2 V4) (j:DefS P w K mg base 4 "rights_tables" 2 Ym) (I:DefS P w K mg base 7 "account" 1 K3):FnOk P w K mg base (CXD P w) 11 f fd ["script"] (spF mg 1 (Qqa C)):=by
 have:FnScope ["script", "start", "size", "deeds", "answers", "state", "many", "tables", "last"] ["script"] (Q6 Q3z):=by fail "c"
 delta Qqa Qnd Q6r Qc4 Qc5
 fail "k"
end
end Lw
namespace Lw
open PySem PySem.Spec L2 Sm
theorem Q6p (a:Int) {b:Int} (h:0 < b):0<=a % b/\a % b < b:=⟨Int.emod_nonneg a (by omega),Int.emod_lt_of_pos a h⟩
def Qk (r:List Int):PV:=.tup (r.map .int)
def Q4 (tb:List (List Int)):PV:=.tup (tb.map Qk)
theorem Qcf {α:Type} (xs:List α) (p:α->Bool):(xs.map p).all id=xs.all p:=by
 rw [dG]; rfl
structure Wt' (n:Nat) (tb:List (List Int)):Prop where
 len:tb.length=n
 row:∀ r∈tb,r.length=n + 1
 nn:∀ r∈tb,∀ x∈r,(0:Int)<=x
 n1:1<=n
 n8:n<=8
def Y3 (n:Nat) (f:Nat->Int):Int:=((bS n).map f).sum
theorem J3 (n:Nat) (f:Nat->Int):Y3 (n + 1) f=Y3 n f + f n:=by
 unfold Y3;rw [cJ,F0,fB];simp
theorem Y6 {n:Nat} {f g:Nat->Int} (h:∀ i,i < n->f i=g i):Y3 n f=Y3 n g:=by
 induction n with
 | zero=>rfl
 | succ n j=>rw [J3,J3,j fun i hi=>h i (by omega),h n (by omega)]
theorem Q3w (n:Nat) (f g:Nat->Int):Y3 n (fun i=>f i + g i)=Y3 n f + Y3 n g:=by
 induction n with
 | zero=>rfl
 | succ n j=>rw [J3,J3,J3,j]; omega
theorem Q3v (n:Nat) (f g:Nat->Int):Y3 n (fun i=>f i - g i)=Y3 n f - Y3 n g:=by
 induction n with
 | zero=>rfl
 | succ n j=>rw [J3,J3,J3,j]; omega
theorem Q28 (n:Nat):Y3 n (fun _=>0)=0:=by
 induction n with
 | zero=>rfl
 | succ n j=>rw [J3,j]; rfl
theorem Qhs (n m:Nat) (f:Nat->Nat->Int):Y3 n (fun i=>Y3 m (f i))=Y3 m (fun j=>Y3 n fun i=>f i j):=by
 induction n with
 | zero=>exact (Q28 m).symm
 | succ n q=>
  rw [J3,q,<- Q3w];exact Y6 fun i _=>(J3 _ _).symm
theorem Q5m {n:Nat} {f:Nat->Int} (h:∀ i,i < n->0<=f i):0<=Y3 n f:=by
 induction n with
 | zero=>exact bc _
 | succ n j=>rw [J3]; have:=j fun i hi=>h i (by omega); have:=h n (by omega); omega
theorem Qet (n:Nat) (p:Nat->Bool) (f:Nat->Int):(((bS n).filter p).map f).sum=Y3 n fun j=>if p j=true then f j else 0:=by
 induction n with
 | zero=>rfl
 | succ n q=>
  rw [J3,<- q,cJ,List.filter_append,F0,fB];congr 1;cases h:p n <;> simp [h]
theorem Q80 {α β:Type} (l:List α) (d:α) (f:α->β):l.map f=(bS l.length).map fun i=>f (l.getD i d):=by
 refine cy fun i=>?_
 rw [E2,E2]
 by_cases hi:i < l.length
 ·rw [E4 hi,getD_some hi d]; rfl
 ·rw [F3 (by omega),F3 (by rw [D5]; omega)]; rfl
theorem Q6t {α β:Type} (l:List α) (d:α) (f:α × Nat->β):l.zipIdx.map f=(bS l.length).map fun i=>f (l.getD i d,i):=by
 refine cy fun i=>?_
 rw [E2,E2,List.getElem?_zipIdx]
 by_cases hi:i < l.length
 ·rw [E4 hi,getD_some hi d]; simp
 ·rw [F3 (by omega),F3 (by rw [D5]; omega)]; rfl
theorem Qcp (r:List Int):r.sum=Y3 r.length fun j=>r.getD j 0:=by
 have:=Q80 r 0 id;rw [List.map_id] at this;rw [Y3]
 conv=>lhs; rw [this]
 rfl
def ent (tb:List (List Int)) (i j:Nat):Int:=(tb.getD i []).getD j 0
def Sz (n:Nat) (tb:List (List Int)):Prop:=tb.length=n/\∀ r∈tb,r.length=n + 1
theorem Wt'.sz {n:Nat} {tb:List (List Int)} (w:Wt' n tb):Sz n tb:=⟨w.len,w.row⟩
theorem Sz.row {n i:Nat} {tb:List (List Int)} (z:Sz n tb) (hi:i < n):tb[i]?=some (tb.getD i [])/\(tb.getD i []).length=n + 1:=by
 have e:=getD_some (show i < tb.length by rw [z.1]; exact hi) [];exact ⟨e,z.2 _ (D4 e)⟩
theorem Sz.cell {n i j:Nat} {tb:List (List Int)} (z:Sz n tb) (hi:i < n) (q:j<=n):(tb.getD i [])[j]?=some (ent tb i j):=getD_some (by rw [(z.row hi).2]; omega) 0
theorem Qgh {n:Nat} {t1 t2:List (List Int)} (z:Sz n t1) (q:Sz n t2) (h:∀ i j,i < n->j<=n->ent t1 i j=ent t2 i j):t1=t2:=by
 refine cy fun i=>?_
 by_cases hi:i < n
 ·rw [(z.row hi).1,(q.row hi).1];congr 1;refine cy fun j=>?_
  by_cases B:j<=n
  ·rw [z.cell hi B,q.cell hi B,h i j hi B]
  ·rw [F3 (by rw [(z.row hi).2]; omega),F3 (by rw [(q.row hi).2]; omega)]
 ·rw [F3 (by rw [z.1]; omega),F3 (by rw [q.1]; omega)]
theorem Wt'.ent_nn {n i j:Nat} {tb:List (List Int)} (w:Wt' n tb) (hi:i < n) (q:j<=n):0<=ent tb i j:=w.nn _ (D4 (w.sz.row hi).1) _ (D4 (w.sz.cell hi q))
theorem Wt'.of_ent {n:Nat} {tb:List (List Int)} (z:Sz n tb) (h1:1<=n) (G:n<=8) (h:∀ i j,i < n->j<=n->0<=ent tb i j):Wt' n tb:=by
 refine ⟨z.1,z.2,fun r q x B=>?_,h1,G⟩;obtain ⟨i,hi,e⟩:=cr.mp q;obtain ⟨j,I,e2⟩:=cr.mp B;have O:=z.2 r q;have:=h i j (by rw [<- z.1]; exact hi) (by omega);have e3:tb.getD i []=r:=by rw [ba,O5 hi,e]; rfl
 have J:r.getD j 0=x:=by rw [ba,O5 I,e2]; rfl
 unfold ent at this;rw [e3,J] at this;exact this
theorem Q0k (i:Int) (st:Q0):Wi [.int i] st=.ok (.bl true) st:=by
 simp [Wi,Qh,Q3k,isI,tyN]
theorem Q9u (a b c:Int) (st:Q0):Ud [.int a,.int b,.int c] st=.ok (.bl (decide (b<=a) && decide (a<=c))) st:=by
 by_cases h:b<=a <;> simp [Ud,Qh,Q0e,Q0k,h]
theorem Q1x {V:PV} {n:Nat} {st:Q0} (j:Zt st [V]=.ok (.int n) st) (i:Int):Jy [V,.int i] st=.ok (.bl (decide (0<=i) && decide (i < n))) st:=by
 have e:decide (i<=(n:Int) - 1)=decide (i < (n:Int)):=by
  rw [decide_eq_decide]; omega
 simp [Jy,Qh,Q3p,j,Q9u,e]
theorem Q0m {V:PV} {n i:Nat} {st:Q0} (j:Zt st [V]=.ok (.int n) st) (hi:i < n):Jy [V,.int i] st=.ok (.bl true) st:=by
 rw [Q1x j];simp; omega
def Zs (k:Nat):PV:=.int (k:Int)
theorem Qt8 {n r:Nat} {S:Q0} {hs:List Int} (q:n<=r) (h:S[r]?=some (.lst (hs.map .int))):fz n S 16 (.ref r)=some (.lst (hs.map .int)):=by
 have j:Jk 12 (.lst (hs.map .int))=true:=by simp [Jk]
 have:=Q6m (n:=n) (st:=S) (k:=16) j (by decide);rw [fz,bP (by omega),h];simpa [fz] using this
def Qi (tb:List (List Int)) (h:Nat):Int:=Y3 tb.length (fun o=>ent tb o h) - ((tb.getD h []).sum - ent tb h h)
theorem Wh {n h:Nat} {tb:List (List Int)} (z:Sz n tb) (q:h < n):Qi tb h=Y3 n (fun o=>ent tb o h) - (Y3 n (fun j=>ent tb h j) + ent tb h n - ent tb h h):=by
 unfold Qi;rw [z.1,Qcp (tb.getD h []),(z.row q).2,J3];rfl
theorem yg {n h:Nat} {tb:List (List Int)} (z:Sz n tb) (Z:n<=100) (j:h < n) (st:Q0):Ym [Q4 tb,.int h] st=.ok (.int (Qi tb h)) st:=by
 have J:=Q0m (V:=Q4 tb) (n:=n) (i:=h) (st:=st) (by simp [Q4,z.1]) j;have B:Qw (Q8 0) Qp Q0p [] (Jx [none,some 1] [some (Q4 tb),some (.int h),none,none,none]) (tb.map Qk) st=.ok (tb.map fun r=>.int (r.getD h 0)) st:=by
  refine Qu _ _ (by simp) fun r G=>⟨_,rfl,?_⟩
  have e:=atI_get (getD_some (show h < r.length by rw [z.2 r G]; omega) 0);simp [Jx,Q0p,Qk,Ws,e]
 have e1:=atI_get (z.row j).1;have e2:=atI_get (z.cell j (E9 j));have hs:(tb.map fun r=>r.getD h 0).sum=Y3 n fun o=>ent tb o h:=by
  rw [Q80 tb [] fun r=>r.getD h 0,z.1]; rfl
 have Y:tb.length<=1000000:=by rw [z.1]; omega
 unfold Qi;rw [z.1,<- hs];obtain ⟨r,G⟩:∃ r,tb.getD h []=r:=⟨_,rfl⟩;obtain ⟨x,U⟩:∃ x,ent tb h h=x:=⟨_,rfl⟩;rw [G] at e1 e2 ⊢;rw [U] at e2 ⊢;obtain ⟨q,O⟩:∃ q,(tb.map fun r=>r.getD h 0)=q:=⟨_,rfl⟩;have I:(tb.map fun r=>PV.int (r.getD h 0))=q.map .int:=by rw [<- O,G6]; rfl
 rw [I] at B;rw [O];unfold Q4 at J B ⊢;simp [Ym,Qh,Q81,J,B,Y,Jc,Ws,e1,Qk,e2]
theorem K9 {n i j:Nat} {tb:List (List Int)} (z:Sz n tb) (hi:i < n) (q:j<=n) (st:Q0):oIx st (Q4 tb) (.int i)=.ok (Qk (tb.getD i [])) st/\oIx st (Qk (tb.getD i [])) (.int j)=.ok (.int (ent tb i j)) st:=by
 constructor
 ·unfold Q4; rw [Qgy,Ws,atI_get (z.row hi).1]; rfl
 ·unfold Qk; rw [Qgy,Ws,atI_get (z.cell hi q)]; rfl
def Q13 (tb:List (List Int)) (h:Nat):Bool:=decide (0 < ent tb h h)
theorem Qsh {n h:Nat} {tb:List (List Int)} (z:Sz n tb) (j:h < n) (st:Q0):X6 [Q4 tb,.int h] st=.ok (.bl (Q13 tb h)) st:=by
 obtain ⟨B,q⟩:=K9 z j (E9 j) st;unfold Q13;generalize ent tb h h=x at *;generalize tb.getD h []=r at *;simp [X6,Qh,Q1q,B,q]
def U3 (tb:List (List Int)) (h:Nat):Bool:=decide (ent tb h h < (tb.getD h []).sum)
theorem Qtq {n h:Nat} {tb:List (List Int)} (z:Sz n tb) (j:h < n) (st:Q0):Y9 [Q4 tb,.int h] st=.ok (.bl (U3 tb h)) st:=by
 obtain ⟨q,G⟩:=K9 z j (E9 j) st;unfold U3;generalize ent tb h h=x at *;generalize tb.getD h []=r at *;have B:Wr (fun ns=>some (.int ns.sum)) st [Qk r]=.ok (.int r.sum) st:=by unfold Qk; rw [Qjp]; rfl
 simp [Y9,Qh,Uk,q,G,B]
def Qds (tb:List (List Int)) (h:Nat) (ls:List Nat):Bool:=ls.any fun o=>decide (o≠h) && decide (0 < ent tb o h)
theorem Qq5 {α:Type} (xs:List α) (p:α->Bool):(xs.map p).any id=xs.any p:=by
 rw [dj]; rfl
theorem Qsu {n h:Nat} {tb:List (List Int)} (z:Sz n tb) (O:h < n) {ls:List Nat} (Z:∀ o∈ls,o < n) (J:ls.length<=1000) {V:PV} {st:Q0} (hV:ListAt st V (ls.map Zs)):W8 [Q4 tb,.int h,V] st=.ok (.bl (Qds tb h ls)) st:=by
 obtain ⟨w,j,U⟩:=hV.src;have I:Qw (Q8 0) Vk Vq w (Jx [none,some 1,some 0] [some (Q4 tb),some (.int h),some V]) (ls.map Zs) st=.ok ((ls.filter fun o=>decide (o≠h)).map fun o=>.bl (decide (0 < ent tb o h))) st:=by
  refine qy _ _ _ U fun o G=>⟨_,rfl,?_,fun ht=>?_⟩
  ·simp [Jx,Vk,Zs]
   by_cases e:o=h
   ·simp [e]
   ·have:¬ ((o:Int)=h):=by omega
    simp [e,this]
  ·obtain ⟨Y,c2⟩:=K9 z (Z o G) (E9 O) st;generalize ent tb o h=x at *;generalize tb.getD o []=r at *;simp [Jx,Vq,Zs,Y,c2]
 have q:(ls.map Zs).length<=1000000:=by rw [O2]; omega
 have B:Qds tb h ls=((ls.filter fun o=>decide (o≠h)).map fun o=>decide (0 < ent tb o h)).any id:=by
  rw [Qq5,gh]; rfl
 rw [B];generalize ls.map Zs=ov at *;generalize ls.filter (fun o=>decide (o≠h))=fs at *
 simp [W8,Qh,Kq,j,q,Jc,I,-dj]
def Q02 (tb:List (List Int)) (h:Nat) (ls:List Nat):Bool:=Q13 tb h || Qds tb h ls
theorem Qr8 {n h:Nat} {tb:List (List Int)} (z:Sz n tb) (q:h < n) {ls:List Nat} (G:∀ o∈ls,o < n) (j:ls.length<=1000) {V:PV} {st:Q0} (I:ListAt st V (ls.map Zs)):X4 [Q4 tb,.int h,V] st=.ok (.bl (Q02 tb h ls)) st:=by
 have h1:=Qsh z q st;have h2:=Qsu z q G j I;unfold Q02;cases B:Q13 tb h with
 | true=>rw [B] at h1; simp [X4,Qh,Q0f,h1]
 | false=>rw [B] at h1; simp [X4,Qh,Q0f,h1,h2]
theorem Qt4 (hs:List Int) (x:Int):((hs.map PV.int).any fun y=>peq y (.int x))=decide (x∈hs):=by
 rw [dj,dN,dO,decide_eq_true_iff];constructor
 ·rintro ⟨y,j,e⟩;have:y=x:=by simpa [peq] using e
  rw [<- this]; exact j
 ·intro h;exact ⟨x,h,by simp [peq]⟩
theorem Qua {hs:List Int} {V:PV} {st:Q0} (q:ListAt st V (hs.map .int)) (x:Int) (b:Bool):oIn b st (.int x) V=.ok (.bl (decide (x∈hs) != b)) st:=by
 have j:Xb st V=some (hs.map .int):=by
  rcases q with rfl | rfl | ⟨i,rfl,e⟩
  ·rfl
  ·rfl
  ·rw [Q3y,e]
 have hd:der st (.int x)=.int x:=rfl;have z:Jk dep (.int x)=true:=rfl;have g2:(hs.map PV.int).all (Jk dep)=true:=by simp [Jk,dep]
 unfold oIn;rw [j,hd];simp only [z,g2,and_self,if_true,Qt4]
theorem ListAt.sl {st:Q0} {V:PV} {xs:List PV} (h:ListAt st V xs) (l u:Option Int):oSl st V l u=.ok (.lst (cut xs l u)) st:=by
 rcases h with rfl | rfl | ⟨i,rfl,e⟩
 ·rfl
 ·rfl
 ·unfold oSl; simp only [Qnn,e]
def Qpt (n:Nat) (tb:List (List Int)) (h:Nat):Bool:=(bS (n + 1)).any fun j=>decide (j≠h) && decide (0 < ent tb h j)
theorem Qb1 {n j:Nat} {f:Nat->Int} (q:∀ i,i < n->0<=f i) (z:j < n):f j<=Y3 n f:=by
 induction n with
 | zero=>exact absurd z (cb _)
 | succ n G=>
  rw [J3];have B:=q n (cO n)
  by_cases e:j=n
  ·subst e;have:=Q5m (f:=f) (n:=j) fun i hi=>q i (cV hi)
   omega
  ·have:=G (fun i hi=>q i (cV hi)) (by omega)
   omega
theorem Qk8 {n h:Nat} (f:Nat->Int) (q:h < n):Y3 n f=f h + Y3 n fun j=>if j≠h then f j else 0:=by
 induction n with
 | zero=>exact absurd q (cb _)
 | succ n z=>
  rw [J3,J3]
  by_cases e:n=h
  ·subst e;rw [bP (by simp),Y6 (f:=f) (g:=fun j=>if j≠n then f j else 0) fun i hi=>by rw [bO (by omega)]]
   omega
  ·rw [bO e,z (by omega)];omega
theorem Qk6 {n h:Nat} {f:Nat->Int} (I:∀ i,i < n->0<=f i) (O:h < n):f h < Y3 n f <-> ∃ j,j < n/\j≠h/\0 < f j:=by
 have e:=Qk8 f O;have J:∀ i,i < n->0<=(fun j=>if j≠h then f j else 0) i:=fun i hi=>by
  show 0<=if i≠h then f i else 0
  split
  ·exact I i hi
  ·exact bc _
 constructor
 ·intro q;refine Classical.byContradiction fun z=>?_
  have:Y3 n (fun j=>if j≠h then f j else 0)=Y3 n fun _=>0:=Y6 fun i hi=>by
   by_cases B:i=h
   ·rw [bP (by simp [B])]
   ·rw [bO B];have h1:=I i hi;have h2:¬ 0 < f i:=fun q=>z ⟨i,hi,B,q⟩
    omega
  rw [Q28] at this;omega
 ·rintro ⟨j,U,G,hp⟩;have:=Qb1 J U;simp only [bO G] at this;omega
theorem Qtr {n h:Nat} {tb:List (List Int)} (w:Wt' n tb) (B:h < n):Qpt n tb h=U3 tb h:=by
 have hs:(tb.getD h []).sum=Y3 (n + 1) fun j=>ent tb h j:=by
  rw [Qcp,(w.sz.row B).2]; rfl
 have hp:=(Qk6 (n:=n + 1) (h:=h) (f:=fun j=>ent tb h j) (fun i hi=>w.ent_nn B (by omega)) (by omega))
 unfold Qpt U3;rw [hs,dN,dO,decide_eq_true_iff,hp];constructor
 ·rintro ⟨j,z,q⟩;simp at q;exact ⟨j,O8.mp z,q.1,q.2⟩
 ·rintro ⟨j,z,a,b⟩;exact ⟨j,O8.mpr z,by simp [a,b]⟩
theorem J2f (x:Int) {n:Nat} (h:1<=n):∃ k:Nat,k < n/\x % (n:Int)=(k:Int):=by
 have:=Q6p x (b:=(n:Int)) (by omega);exact ⟨(x % (n:Int)).toNat,by omega,by omega⟩
def kn3 (tb:List (List Int)) (i:Nat) (bs:List Bool) (j:Nat):List Bool:=if bs.getD i false=true/\i≠j/\0 < ent tb i j then bs.set j true else bs
def kn2 (n:Nat) (tb:List (List Int)) (bs:List Bool) (i:Nat):List Bool:=(bS n).foldl (kn3 tb i) bs
def kn1 (n:Nat) (tb:List (List Int)) (bs:List Bool) (_:Nat):List Bool:=(bS n).foldl (kn2 n tb) bs
def Qby (n:Nat) (tb:List (List Int)):List Bool:=(bS n).map (Q13 tb)
def Q5d (n:Nat) (tb:List (List Int)):List Bool:=(bS n).foldl (kn1 n tb) (Qby n tb)
theorem Q8q {α β:Type} {f:List α->β->List α} (h:∀ bs x,(f bs x).length=bs.length):∀ (xs:List β) (bs:List α),(xs.foldl f bs).length=bs.length
 | [],_=>rfl
 | x :: xs,bs=>by rw [cU,Q8q h xs,h]
theorem Qh4 (tb:List (List Int)) (i:Nat) (bs:List Bool) (j:Nat):(kn3 tb i bs j).length=bs.length:=by
 unfold kn3; split <;> simp
theorem Qh5 (n:Nat) (tb:List (List Int)) (bs:List Bool) (i:Nat):(kn2 n tb bs i).length=bs.length:=Q8q (Qh4 tb i) _ _
theorem Qsz (n:Nat) (tb:List (List Int)) (bs:List Bool) (t:Nat):(kn1 n tb bs t).length=bs.length:=Q8q (Qh5 n tb) _ _
inductive Rc (n:Nat) (tb:List (List Int)):Nat->Prop
 | made {h:Nat}:h < n->Q13 tb h=true->Rc n tb h
 | lent {o h:Nat}:Rc n tb o->h < n->0 < ent tb o h->Rc n tb h
theorem Rc.lt {n h:Nat} {tb:List (List Int)} (r:Rc n tb h):h < n:=by cases r <;> assumption
theorem Ut {α β:Type} {f:β->α->β} {P:β->Prop}:∀ {xs:List α} {b:β},(∀ b x,x∈xs->P b->P (f b x))->P b->P (xs.foldl f b)
 | [],_,_,h=>h
 | x :: xs,b,hs,h=>Ut (xs:=xs) (fun b y j=>hs b y (D1 _ j)) (hs b x D6 h)
theorem Q8r {α β:Type} {f:β->α->β} {P Q:β->Prop} (G:∀ b y,P b->P (f b y)) (q:∀ b y,Q b->Q (f b y)) {x:α} (B:∀ b,P b->Q (f b x)):∀ {xs:List α} {b:β},x∈xs->P b->Q (xs.foldl f b)
 | [],_,j,_=>by cases j
 | y :: ys,b,j,z=>by
  rw [cU];rcases E3.mp j with rfl | j
  ·exact Ut (fun b y _=>q b y) (B b z)
  ·exact Q8r G q B j (G b y z)
def Cl (n:Nat) (tb:List (List Int)) (mem:Nat->Bool):Prop:=∀ o h,o < n->h < n->o≠h->0 < ent tb o h->mem o=true->mem h=true
def cnt (n:Nat) (mem:Nat->Bool):Int:=Y3 n fun h=>if mem h=true then 1 else 0
theorem Qxa (n:Nat) (mem:Nat->Bool):cnt n mem<=n:=by
 unfold cnt
 induction n with
 | zero=>exact bc _
 | succ n j=>rw [J3]; split <;> omega
theorem Qpe {n:Nat} {m1 m2:Nat->Bool} (z:∀ h,h < n->m1 h=true->m2 h=true) {h:Nat} (q:h < n) (h1:m1 h=false) (h2:m2 h=true):cnt n m1 + 1<=cnt n m2:=by
 have e:=Q3v n (fun h=>if m2 h=true then (1:Int) else 0) (fun h=>if m1 h=true then 1 else 0)
 have l:=Qb1 (n:=n) (j:=h) (f:=fun h=>(if m2 h=true then (1:Int) else 0) - (if m1 h=true then 1 else 0)) (fun i hi=>by
  have:=z i hi;cases a:m1 i <;> cases b:m2 i <;> simp_all) q
 simp only [h1,h2] at l;unfold cnt;simp at l;omega
theorem Qck {X:Type} (n:Nat) (tb:List (List Int)) (mem:X->Nat->Bool) (f:X->Nat->X) (Inv:X->Prop) (hi:∀ x t,Inv x->Inv (f x t))
  (mono:∀ x t h,Inv x->h < n->mem x h=true->mem (f x t) h=true)
  (Y:∀ x t o h,Inv x->o < n->h < n->o≠h->0 < ent tb o h->mem x o=true->mem (f x t) h=true)
  (stay:∀ x t,Inv x->Cl n tb (mem x)->∀ h,h < n->mem (f x t) h=true->mem x h=true) (B:X) (h0:Inv B):Cl n tb (mem ((bS n).foldl f B)):=by
 have Z:∀ t:Nat,Inv ((bS t).foldl f B)/\(Cl n tb (mem ((bS t).foldl f B))\/(t:Int)<=cnt n (mem ((bS t).foldl f B))):=by
  intro t
  induction t with
  | zero=>
   refine ⟨h0,.inr ?_⟩;exact Q5m fun i _=>by split <;> omega
  | succ t U=>
   rw [cJ,List.foldl_append,cU,List.foldl_nil];obtain ⟨O,U⟩:=U;generalize (bS t).foldl f B=x at *;refine ⟨hi x t O,?_⟩;rcases Classical.em (Cl n tb (mem x)) with c | c
   ·refine .inl fun o h G z j J I=>?_
    exact mono x t h O z (c o h G z j J (stay x t O c o G I))
   ·rcases U with U | U
    ·exact absurd U c
    ·refine .inr ?_;have:∃ o h,o < n/\h < n/\o≠h/\0 < ent tb o h/\mem x o=true/\mem x h=false:=by
      refine Classical.byContradiction fun q=>c fun o h G z j J I=>?_
      cases e:mem x h with
      | true=>rfl
      | false=>exact absurd ⟨o,h,G,z,j,J,I,e⟩ q
     obtain ⟨o,h,G,z,j,J,I,hf⟩:=this;have:=Qpe (fun h z=>mono x t h O z) z hf (Y x t o h O G z j J I)
     push_cast
     omega
 obtain ⟨O,h | h⟩:=Z n
 ·exact h
 ·intro o k G hk j J I;generalize (bS n).foldl f B=x at *;cases e:mem x k with
  | true=>rfl
  | false=>
   have:=Qpe (m1:=mem x) (m2:=fun _=>true) (fun _ _ _=>rfl) hk e rfl;have h2:=Qxa n fun _=>true
   omega
theorem set_get {bs:List Bool} {j h:Nat}:((bs.set j true).getD h false=true) <-> (h=j/\j < bs.length)\/bs.getD h false=true:=by
 rw [ba,dn]
 by_cases e:j=h
 ·subst e
  by_cases l:j < bs.length
  ·simp [l]
  ·simp [l,ba]
 ·rw [bP e];constructor
  ·intro q; exact .inr q
  ·rintro (⟨q,_⟩ | q)
   ·exact absurd q.symm e
   ·exact q
theorem Q8e {tb:List (List Int)} {i j h:Nat} {bs:List Bool} (q:bs.getD h false=true):(kn3 tb i bs j).getD h false=true:=by
 unfold kn3
 split
 ·exact set_get.mpr (.inr q)
 ·exact q
theorem Q8f {n:Nat} {tb:List (List Int)} {i h:Nat} {bs:List Bool} (q:bs.getD h false=true):(kn2 n tb bs i).getD h false=true:=Ut (P:=fun bs:List Bool=>bs.getD h false=true) (fun _ _ _ q=>Q8e q) q
theorem Qdx {n:Nat} {tb:List (List Int)} {t h:Nat} {bs:List Bool} (q:bs.getD h false=true):(kn1 n tb bs t).getD h false=true:=Ut (P:=fun bs:List Bool=>bs.getD h false=true) (fun _ _ _ q=>Q8f q) q
theorem Qbx (n:Nat) (tb:List (List Int)):Cl n tb fun h=>(Q5d n tb).getD h false:=by
 refine Qck n tb (fun (bs:List Bool) h=>bs.getD h false) (kn1 n tb) (fun bs=>bs.length=n) (fun x t B=>by rw [Qsz]; exact B) (fun x t h _ _ q=>Qdx q) (fun x t o h B Y G U Z J=>?_) (fun x t B c h G J=>?_) _ (by simp [Qby])
 ·show (kn1 n tb x t).getD h false=true;refine Q8r (P:=fun bs:List Bool=>bs.length=n/\bs.getD o false=true) (Q:=fun bs:List Bool=>bs.getD h false=true) (fun bs y q=>⟨by rw [Qh5]; exact q.1,Q8f q.2⟩) (fun bs y q=>Q8f q) (x:=o) (fun bs q=>?_) (O8.mpr Y) ⟨B,J⟩;refine Q8r (P:=fun bs:List Bool=>bs.length=n/\bs.getD o false=true) (Q:=fun bs:List Bool=>bs.getD h false=true) (fun bs y q=>⟨by rw [Qh4]; exact q.1,Q8e q.2⟩) (fun bs y q=>Q8e q) (x:=h) (fun bs q=>?_) (O8.mpr G) q;unfold kn3;rw [bO ⟨q.2,U,Z⟩];exact set_get.mpr (.inl ⟨rfl,by rw [q.1]; exact G⟩)
 ·have:∀ g,g < n->(kn1 n tb x t).getD g false=true->x.getD g false=true:=by
   refine Ut (P:=fun bs:List Bool=>∀ g,g < n->bs.getD g false=true->x.getD g false=true) (fun bs i hi z=>?_) fun g _ q=>q
   refine Ut (P:=fun bs:List Bool=>∀ g,g < n->bs.getD g false=true->x.getD g false=true) (fun bs j hj z g I q=>?_) z;unfold kn3 at q
   split at q
   ·rename_i O;rcases set_get.mp q with ⟨rfl,_⟩ | q
    ·exact c i g (O8.mp hi) I O.2.1 O.2.2 (z i (O8.mp hi) O.1)
    ·exact z g I q
   ·exact z g I q
  exact this h G J
theorem Qdw (n:Nat) (tb:List (List Int)) {h:Nat} (O:h < n):(Q5d n tb).getD h false=true <-> Rc n tb h:=by
 constructor
 ·have:∀ g,g < n->(Q5d n tb).getD g false=true->Rc n tb g:=by
   refine Ut (P:=fun bs:List Bool=>∀ g,g < n->bs.getD g false=true->Rc n tb g) (fun bs t _ z=>?_) fun g B q=>?_
   ·refine Ut (P:=fun bs:List Bool=>∀ g,g < n->bs.getD g false=true->Rc n tb g) (fun bs i hi z=>?_) z;refine Ut (P:=fun bs:List Bool=>∀ g,g < n->bs.getD g false=true->Rc n tb g) (fun bs j Z z g B q=>?_) z;unfold kn3 at q
    split at q
    ·rename_i I;rcases set_get.mp q with ⟨rfl,_⟩ | q
     ·exact .lent (z i (O8.mp hi) I.1) B I.2.2
     ·exact z g B q
    ·exact z g B q
   ·unfold Qby at q;rw [ba,E2,E4 B] at q;exact .made B (by simpa using q)
  exact this h O
 ·intro r
  induction r with
  | made G U=>
   refine Ut (P:=fun bs:List Bool=>bs.getD _ false=true) (fun bs t _ q=>Qdx q) ?_;unfold Qby
   rw [ba,E2,E4 G];simpa using U
  | @lent o g r G Y J=>
   by_cases e:o=g
   ·subst e; exact J r.lt
   ·exact Qbx n tb o g r.lt G e Y (J r.lt)
def RdOk (n:Nat) (fs:List Nat):Prop:=(∀ x∈fs,x < n)/\fs.Nodup
theorem Q55:∀ {n:Nat} {fs:List Nat},(∀ x∈fs,x < n)->fs.Nodup->fs.length<=n
 | 0,[],_,_=>O7 _
 | 0,x :: _,h,_=>absurd (h x D6) (cb _)
 | n + 1,fs,h,d=>by
  by_cases q:n∈fs
  ·have h1:(fs.erase n).length<=n:=Q55 (fun x j=>by
    have h2:=(d.mem_erase_iff).mp j;have:=h x h2.2;omega) (d.erase n)
   rw [List.length_erase_of_mem q] at h1;omega
  ·have:=Q55 (n:=n) (fs:=fs) (fun x j=>by
    have:=h x j;have:x≠n:=fun e=>q (e ▸ j)
    omega) d
   omega
theorem RdOk.len {n:Nat} {fs:List Nat} (h:RdOk n fs):fs.length<=n:=Q55 h.1 h.2
def AhN (tb:List (List Int)) (fs:List Nat):Prop:=∀ k,k < fs.length->Q13 tb (fs.getD k 0)=true\/∃ o∈fs.take k,0 < ent tb o (fs.getD k 0)
theorem AhN.snoc {tb:List (List Int)} {fs:List Nat} {h:Nat} (a:AhN tb fs) (q:Q13 tb h=true\/∃ o∈fs,0 < ent tb o h):AhN tb (fs ++ [h]):=by
 intro k j;rw [O6,ec] at j
 by_cases e:k < fs.length
 ·have:=a k e;rw [List.take_append_of_le_length (by omega)];rw [show (fs ++ [h]).getD k 0=fs.getD k 0 by rw [ba,ba,O4 e]];exact this
 ·have:k=fs.length:=by omega
  subst this;rw [show (fs ++ [h]).getD fs.length 0=h by simp [ba]];rw [List.take_left];exact q
def Q1z (fs:List Nat):List Int:=fs.map fun k:Nat=>(k:Int)
def rdS (st:Q0) (fs:List Nat):Q0:=st ++ [Cell.lst (fs.map Zs)]
theorem Qm4 (st:Q0) (fs:List Nat):(rdS st fs)[st.length]?=some (.lst (fs.map Zs)):=by unfold rdS; simp
theorem Q2d (fs:List Nat):(Q1z fs).map PV.int=fs.map Zs:=by unfold Q1z; rw [G6]; rfl
theorem intsN_mem {fs:List Nat} {h:Nat}:(h:Int)∈Q1z fs <-> h∈fs:=by
 unfold Q1z;rw [cK];constructor
 ·rintro ⟨k,j,e⟩;have:k=h:=by omega
  rw [<- this]; exact j
 ·intro q; exact ⟨h,q,rfl⟩
def Ur (n:Nat) (fs:List Nat):List Nat:=(bS n).filter fun h=>!decide (h∈fs)
def X9 (n:Nat) (tb:List (List Int)) (fs:List Nat):List Nat:=(Ur n fs).filter fun h=>Q02 tb h fs
structure GdR (n:Nat) (tb:List (List Int)) (fs:List Nat):Prop where
 rd:RdOk n fs
 ah:AhN tb fs
 rc:∀ h∈fs,Rc n tb h
theorem AhN.more {tb:List (List Int)}:∀ {ds fs:List Nat},AhN tb fs->(∀ h∈ds,Q13 tb h=true\/∃ o∈fs,0 < ent tb o h)->AhN tb (fs ++ ds)
 | [],fs,a,_=>by rw [L6]; exact a
 | d :: ds,fs,a,h=>by
  rw [show fs ++ d :: ds=(fs ++ [d]) ++ ds by simp];refine AhN.more (a.snoc (h d D6)) fun g z=>?_
  rcases h g (D1 _ z) with q | ⟨o,j,q⟩
  ·exact .inl q
  ·exact .inr ⟨o,G8 _ j,q⟩
theorem Q6n {n:Nat} {tb:List (List Int)} {fs:List Nat} {h:Nat} (q:h∈X9 n tb fs):h < n/\h∉fs/\(Q13 tb h=true\/∃ o∈fs,0 < ent tb o h):=by
 obtain ⟨q1,q2⟩:=cE.mp q;obtain ⟨q3,j⟩:=cE.mp q1;refine ⟨O8.mp q3,by simpa using j,?_⟩;unfold Q02 Qds at q2;rw [gL] at q2;rcases q2 with q2 | q2
 ·exact .inl q2
 ·obtain ⟨o,z,e⟩:=dO.mp q2;rw [G7] at e;exact .inr ⟨o,z,by simpa using e.2⟩
theorem GdR.step {n:Nat} {tb:List (List Int)} {fs:List Nat} (g:GdR n tb fs):GdR n tb (fs ++ X9 n tb fs):=by
 refine ⟨⟨fun x j=>?_,?_⟩,g.ah.more fun h q=>(Q6n q).2.2,fun h j=>?_⟩
 ·rcases F6.mp j with j | j
  ·exact g.rd.1 x j
  ·exact (Q6n j).1
 ·refine dm.mpr ⟨g.rd.2,(List.nodup_range.filter _).filter _,fun a G b B e=>?_⟩;subst e;exact (Q6n B).2.1 G
 ·rcases F6.mp j with j | j
  ·exact g.rc h j
  ·obtain ⟨h1,_,h2 | ⟨o,z,I⟩⟩:=Q6n j
   ·exact .made h1 h2
   ·exact .lent (g.rc o z) h1 I
theorem GdR.closed {n:Nat} {tb:List (List Int)} {fs:List Nat} (g:GdR n tb fs) (J:X9 n tb fs=[]) {h:Nat} (Z:h < n):h∈fs <-> Rc n tb h:=by
 refine ⟨g.rc h,fun r=>?_⟩;have j:∀ k,k < n->k∉fs->Q02 tb k fs=false:=fun k O z=>by
  cases e:Q02 tb k fs with
  | false=>rfl
  | true=>
   have:k∈X9 n tb fs:=cE.mpr ⟨cE.mpr ⟨O8.mpr O,by simp [z]⟩,e⟩;rw [J] at this;cases this
 induction r with
 | @made k B z=>
  refine Classical.byContradiction fun q=>?_
  have:=j k B q;unfold Q02 at this;rw [z] at this;cases this
 | @lent o k r B U Y=>
  refine Classical.byContradiction fun q=>?_
  have:=j k B q;unfold Q02 Qds at this;rw [Bool.or_eq_false_iff,fW] at this;have I:=Y r.lt;have G:o≠k:=fun e=>q (e ▸ I)
  exact this.2 o I (by simp [G,U])
theorem Qr6 {n:Nat} {tb:List (List Int)} (z:Sz n tb) (hn:n<=100) (st:Q0) (fs:List Nat) (r:RdOk n fs) (b a c:Option PV):Wf [some (Q4 tb),some (.ref st.length),b,a,c] (rdS st fs)=.nx [some (Q4 tb),some (.ref st.length),some (.bl (decide (0 < (X9 n tb fs).length))),some (.lst ((Ur n fs).map Zs)),some (.lst ((X9 n tb fs).map Zs))] (rdS st (fs ++ X9 n tb fs)):=by
 have a2:-1000000<=(n:Int)/\(n:Int)<=1000000:=by omega
 have a7:=r.len;have U:=Qm4 st fs;have O:ListAt (rdS st fs) (.ref st.length) ((Q1z fs).map .int):=.inr (.inr ⟨_,rfl,by rw [Q2d]; exact U⟩);have B:ListAt (rdS st fs) (.ref st.length) (fs.map Zs):=.inr (.inr ⟨_,rfl,U⟩);have Z:Zt (rdS st fs) [Q4 tb]=.ok (.int n) (rdS st fs):=by simp [Q4,z.1]
 have Y:Qw (Q8 0) W9 Vs [] (Jx [none,some 1] [some (Q4 tb),some (.ref st.length),b,a,c]) (Jb 0 n) (rdS st fs)=.ok ((Ur n fs).map Zs) (rdS st fs):=by
  rw [Y7];refine qy _ _ _ (by simp) fun j hj=>⟨_,rfl,?_,fun ht=>?_⟩
  ·have G:=Qua O (j:Int) true
   by_cases q:j∈fs
   ·have J:(j:Int)∈Q1z fs:=intsN_mem.mpr q;generalize rdS st fs=S at *;simp -implicitDefEqProofs [Jx,W9,G,q,J]
   ·have J:¬ (j:Int)∈Q1z fs:=fun z=>q (intsN_mem.mp z)
    generalize rdS st fs=S at *;simp -implicitDefEqProofs [Jx,W9,G,q,J]
  ·simp [Jx,Vs,Zs]
 have a3:(Ur n fs).length<=n:=by
  have:=dz (fun h=>!decide (h∈fs)) (bS n)
  rw [D5] at this;exact this
 have a5:∀ h∈Ur n fs,h < n:=fun h hh=>O8.mp (cE.mp hh).1
 have a4:Qw (Q8 0) Vm Vr [] (Jx [none,some 0,some 1] [some (Q4 tb),some (.ref st.length),b,some (.lst ((Ur n fs).map Zs)),c]) ((Ur n fs).map Zs) (rdS st fs)=.ok ((X9 n tb fs).map Zs) (rdS st fs):=by
  unfold X9;refine qy _ _ _ (by simp) fun j hj=>⟨_,rfl,?_,fun ht=>?_⟩
  ·have hr:=Qr8 z (h:=j) (a5 j hj) r.1 (by omega) B;generalize Q02 tb j fs=rb at *;generalize rdS st fs=S at *;generalize (Ur n fs).map Zs=ov at *;simp -implicitDefEqProofs [Jx,Vm,Zs,hr]
  ·simp [Jx,Vr,Zs]
 have a6:(X9 n tb fs).length<=n:=F1 (dz _ _) a3;have I:(rdS st fs).set st.length (.lst (fs.map Zs ++ (X9 n tb fs).map Zs))=rdS st (fs ++ X9 n tb fs):=by
  unfold rdS;rw [F0];simp
 have l1:((Ur n fs).map Zs).length<=1000000:=by rw [O2]; omega
 have l2:(fs.map Zs).length + ((X9 n tb fs).map Zs).length<=1000000:=by rw [O2,O2]; omega
 have l3:((X9 n tb fs).map Zs).length=(X9 n tb fs).length:=O2 _;generalize rdS st (fs ++ X9 n tb fs)=S2 at *;generalize rdS st fs=S at *;generalize (Ur n fs).map Zs=ov at *;generalize (X9 n tb fs).length=fl at *;generalize (X9 n tb fs).map Zs=fv at *;generalize fs.map Zs=xv at *;rw [l3] at l2;simp -implicitDefEqProofs [Wf,Z,a2,Jc,Y,l1,a4,U,jj,chg,l2,l3,I]
theorem Qcv {n:Nat} {tb:List (List Int)} (z:Sz n tb) (O:n<=100) (st:Q0):∀ (m j:Nat) (fs:List Nat) (a c:Option PV),GdR n tb fs->n<=fs.length + m->m + 2<=j->∃ fs' I q G,GdR n tb fs'/\X9 n tb fs'=[]/\j4 Y5 Wf j [some (Q4 tb),some (.ref st.length),some (.bl true),a,c] (rdS st fs)=.nx [some (Q4 tb),some (.ref st.length),I,q,G] (rdS st fs')
 | m,0,_,_,_,_,_,h=>absurd h (by omega)
 | m,1,_,_,_,_,_,h=>absurd h (by omega)
 | m,k + 2,fs,a,c,g,hm,hf=>by
  have B:=Qr6 z O st fs g.rd (some (.bl true)) a c;have U:∀ S,Y5 [some (Q4 tb),some (.ref st.length),some (.bl true),a,c] S=.ok true S:=fun S=>by simp [Y5]
  by_cases e:X9 n tb fs=[]
  ·refine ⟨fs,some (.bl false),some (.lst ((Ur n fs).map Zs)),some (.lst ((X9 n tb fs).map Zs)),g,e,?_⟩;rw [j4,U];simp only [Vz,if_true,B];rw [j4];have Z:∀ S,Y5 [some (Q4 tb),some (.ref st.length),some (.bl (decide (0 < (X9 n tb fs).length))),some (.lst ((Ur n fs).map Zs)),some (.lst ((X9 n tb fs).map Zs))] S=.ok false S:=fun S=>by simp [Y5,e]
   rw [Z];simp [e]
  ·have hp:0 < (X9 n tb fs).length:=dH.mpr e;have g':=g.step;have J:=g'.rd.len;rw [O6] at J;cases m with
   | zero=>omega
   | succ m=>
    obtain ⟨fs',I,q,G,h1,h2,Y⟩:=Qcv z O st m (k + 1) (fs ++ X9 n tb fs) (some (.lst ((Ur n fs).map Zs))) (some (.lst ((X9 n tb fs).map Zs))) g' (by rw [O6]; omega) (by omega);refine ⟨fs',I,q,G,h1,h2,?_⟩;rw [j4,U];rw [bR hp] at B;simp only [Vz,if_true,B];exact Y
theorem Qf7 {n:Nat} {tb:List (List Int)} (z:Sz n tb) (G:n<=100) (st:Q0):∃ fs,GdR n tb fs/\X9 n tb fs=[]/\Ww [some (Q4 tb),none,none,none,none] st=.rt (.ref st.length) (rdS st fs):=by
 obtain ⟨fs,U,J,O,g,e,h⟩:=Qcv z G st n 100000 [] none none ⟨⟨fun x j=>(by cases j),gf⟩,fun k B=>absurd B (cb _),fun x j=>(by cases j)⟩ (by simp) (by omega)
 refine ⟨fs,g,e,?_⟩;have q:st ++ [Cell.lst []]=rdS st []:=rfl;generalize rdS st fs=I at *;generalize rdS st []=S1 at *;simp -implicitDefEqProofs [Ww,Jc,q,h]
theorem Qa4 {n:Nat} {tb:List (List Int)} (z:Sz n tb) (G:n<=100) (st:Q0):∃ fs,GdR n tb fs/\X9 n tb fs=[]/\Yt [Q4 tb] st=.ok (.lst (fs.map Zs)) st:=by
 obtain ⟨fs,g,e,h⟩:=Qf7 z G st;refine ⟨fs,g,e,?_⟩;have j:=Qt8 (n:=st.length) (r:=st.length) (S:=rdS st fs) (hs:=Q1z fs) (O7 _) (by rw [Q2d]; exact Qm4 _ _);rw [Q2d] at j;have q:st <+: rdS st fs:=dM _ _;generalize rdS st fs=B at *;show Qh Ww 5 [Q4 tb] st=_;unfold Qh;rw [show (([Q4 tb]:List PV).map some ++ bV (5 - [Q4 tb].length) none)=[some (Q4 tb),none,none,none,none] from rfl,h];show Sm.fin st (.ref st.length) B=_;unfold Sm.fin;rw [bO q,j];rfl
theorem Qvd {n:Nat} {tb:List (List Int)} {fs:List Nat} (g:GdR n tb fs) (G:X9 n tb fs=[]):((bS n).all fun h=>(Q5d n tb).getD h false || !U3 tb h)=(bS n).all fun h=>decide (h∈fs) || !U3 tb h:=by
 rw [dN,F9,F9];have B:∀ h,h∈bS n->(decide (h∈fs) || !U3 tb h)=((Q5d n tb).getD h false || !U3 tb h):=fun h I=>by
  have j:=O8.mp I;congr 1;rw [dN,decide_eq_true_iff,g.closed G j,Qdw n tb j]
 constructor <;> intro q x z
 ·rw [B x z]; exact q x z
 ·rw [<- B x z]; exact q x z
def Q3e (n:Nat) (tb:List (List Int)):Bool:=(bS n).all fun h=>(Q5d n tb).getD h false || !U3 tb h
theorem Qmu {n:Nat} {tb:List (List Int)} {fs:List Nat} (g:GdR n tb fs) (j:X9 n tb fs=[]):(Ur n fs).any (U3 tb)=!Q3e n tb:=by
 unfold Q3e;rw [Qvd g j];unfold Ur;rw [gh,List.any_eq_not_all_not];congr 2;funext h;rw [Bool.not_and,Bool.not_not]
theorem Q8p {α:Type} (g:α->PV) (J:Gam->Prop) (B:α->Bool) (v:α->PV) {ga:GA} {body:MS} {w:Wt} {st:Q0} (O:wOk w st):∀ {xs:List α},(∀ x∈xs,∀ Γ,J Γ->∃ Γ1,ga (g x) Γ=some Γ1/\(B x=true->∃ j,J j/\body Γ1 st=.nx j st)/\(B x=false->body Γ1 st=.rt (v x) st)) ->
  ∀ Γ,J Γ->(xs.all B=true->∃ G,J G/\yq ga body w (xs.map g) Γ st=.nx G st)/\(xs.all B=false->∃ x∈xs,B x=false/\yq ga body w (xs.map g) Γ st=.rt (v x) st)
 | [],_,Γ,I=>⟨fun _=>⟨Γ,I,by simp [yq,O]⟩,fun h=>by simp at h⟩
 | x :: xs,h,Γ,I=>by
  obtain ⟨Γ1,h1,h2,Z⟩:=h x D6 Γ I;rw [F7,yq,bO O,h1];cases px:B x with
  | false=>
   refine ⟨fun z=>by simp [px] at z,fun _=>⟨x,D6,px,?_⟩⟩
   simp only [Z px]
  | true=>
   obtain ⟨j,j2,e2⟩:=h2 px;have Y:=Q8p g J B v (ga:=ga) (body:=body) O (xs:=xs) (fun y U=>h y (D1 _ U)) j j2
   simp only [e2,cW,px,fL];exact ⟨Y.1,fun q=>by
    obtain ⟨y,U,p,e⟩:=Y.2 q;exact ⟨y,D1 _ U,p,e⟩⟩
def Q8v (n:Nat) (tb:List (List Int)):Bool:=((bS n).all fun h=>decide (0<=Qi tb h)) && Q3e n tb
theorem Q2s {n:Nat} {tb:List (List Int)} (z:Sz n tb) (hn:n<=100) (st:Q0):∃ us:List Nat,us.length<=n/\(us=[] <-> Q3e n tb=true)/\Y8 [Q4 tb] st=.ok (.lst (us.map Zs)) st:=by
 obtain ⟨fs,g,hc,e⟩:=Qa4 z hn st;have O:-1000000<=(n:Int)/\(n:Int)<=1000000:=by omega
 have J:Zt st [Q4 tb]=.ok (.int n) st:=by simp [Q4,z.1]
 have Z:ListAt st (.lst (fs.map Zs)) ((Q1z fs).map .int):=.inl (by rw [Q2d]);have G:Qw (Q8 0) Yu Wm [] (Jx [none,some 1] [some (Q4 tb),some (.lst (fs.map Zs)),none]) (Jb 0 n) st=.ok ((Ur n fs).map Zs) st:=by
  rw [Y7];refine qy _ _ _ (by simp) fun j hj=>⟨_,rfl,?_,fun ht=>?_⟩
  ·have I:=Qua Z (j:Int) true
   by_cases q:j∈fs
   ·have Y:(j:Int)∈Q1z fs:=intsN_mem.mpr q;generalize fs.map Zs=fv at *;simp -implicitDefEqProofs [Jx,Yu,I,q,Y]
   ·have Y:¬ (j:Int)∈Q1z fs:=fun z=>q (intsN_mem.mp z)
    generalize fs.map Zs=fv at *;simp -implicitDefEqProofs [Jx,Yu,I,q,Y]
  ·simp [Jx,Wm,Zs]
 have a4:(Ur n fs).length<=n:=by
  have:=dz (fun h=>!decide (h∈fs)) (bS n)
  rw [D5] at this;exact this
 have a5:∀ h∈Ur n fs,h < n:=fun h hh=>O8.mp (cE.mp hh).1
 have B:=Qmu g hc;have U:Qw (Q8 0) Qp Wk [] (Jx [none,some 0] [some (Q4 tb),some (.lst (fs.map Zs)),some (.lst ((Ur n fs).map Zs))]) ((Ur n fs).map Zs) st=.ok (((Ur n fs).map (U3 tb)).map .bl) st:=by
  rw [G6];refine Qu _ _ (by simp) fun j hj=>⟨_,rfl,?_⟩
  have hb:=Qtq z (a5 j hj) st;show _=Res.ok (PV.bl (U3 tb j)) st;generalize U3 tb j=rb at *;simp -implicitDefEqProofs [Jx,Wk,Zs,hb]
 have ha:(Ur n fs).any (U3 tb)=((Ur n fs).map (U3 tb)).any id:=(Qq5 _ _).symm;have l1:((Ur n fs).map Zs).length<=1000000:=by rw [O2]; omega
 have a3:fin st (.lst ((Ur n fs).map Zs)) st=.ok (.lst ((Ur n fs).map Zs)) st:=W2 (by simp [Jk,Zs]);have a2:fin st (.lst []) st=.ok (.lst []) st:=W2 (by simp [Jk]);cases hr:Q3e n tb with
 | true=>
  refine ⟨[],by simp,by simp,?_⟩;rw [hr,ha] at B;rw [cj];generalize (Ur n fs).map (U3 tb)=bs at *;generalize (Ur n fs).map Zs=ov at *;have B:bs.any id=false:=B;simp -implicitDefEqProofs [Y8,Qh,Vp,e,J,O,Jc,G,l1,U,B,a2]
 | false=>
  rw [hr] at B;refine ⟨Ur n fs,a4,⟨fun q=>?_,fun q=>by cases q⟩,?_⟩
  ·rw [q] at B; cases B
  ·rw [ha] at B;have B:((Ur n fs).map (U3 tb)).any id=true:=B;generalize (Ur n fs).map (U3 tb)=bs at *;generalize (Ur n fs).map Zs=ov at *;simp -implicitDefEqProofs [Y8,Qh,Vp,e,J,O,Jc,G,l1,U,B,a3]
theorem Qjf {n:Nat} {tb:List (List Int)} (z:Sz n tb) (U:n<=100) (st:Q0):∃ (s:Str) (v:PV),Yy [Q4 tb] st=.ok (.tup [.str s,v]) st/\(s == (bT "comes"))=Q8v n tb:=by
 have j:-1000000<=(n:Int)/\(n:Int)<=1000000:=by omega
 have B:∀ S,Zt S [Q4 tb]=.ok (.int n) S:=fun S=>by simp [Q4,z.1]
 have L:=Q8p (fun k:Nat=>PV.int (k:Int)) (fun Γ=>∃ a,Γ=[some (Q4 tb),a,none]) (fun h=>decide (0<=Qi tb h)) (fun h=>.tup [.str "short",.int h]) (ga:=Q8 1) (body:=V1) (w:=[]) (st:=st) (by simp) (xs:=bS n) (fun h Z Γ ⟨a,e⟩=>by
  subst e;have G:=yg z U (O8.mp Z) st;refine ⟨_,rfl,fun hp=>⟨[some (Q4 tb),some (.int h),none],⟨_,rfl⟩,?_⟩,fun hp=>?_⟩
  ·have Y:0<=Qi tb h:=by simpa using hp
   have:¬ (Qi tb h < 0):=by omega
   generalize Qi tb h=x at *;simp -implicitDefEqProofs [V1,G,this]
  ·have Y:¬ 0<=Qi tb h:=by simpa using hp
   have:Qi tb h < 0:=by omega
   generalize Qi tb h=x at *;simp -implicitDefEqProofs [V1,G,this,Jc])
 have L:=L [some (Q4 tb),none,none] ⟨_,rfl⟩;rw [<- Y7] at L;unfold Q8v;cases ha:(bS n).all fun h=>decide (0<=Qi tb h) with
 | false=>
  obtain ⟨h,Z,hp,e⟩:=L.2 ha;refine ⟨"short",.int h,?_,by rw [fU]; decide +kernel⟩;have I:fin st (.tup [.str "short",.int h]) st=.ok (.tup [.str "short",.int h]) st:=W2 (by simp [Jk]);simp -implicitDefEqProofs [Yy,Qh,Us,B,j,Jc,e,I]
 | true=>
  obtain ⟨a2,⟨a,rfl⟩,e⟩:=L.1 ha;obtain ⟨us,hl,J,e1⟩:=Q2s z U st;cases G:Q3e n tb with
  | true=>
   have O:=J.mpr G;subst O;obtain ⟨fs,g,hc,e2⟩:=Qa4 z U st;refine ⟨"comes",.lst (fs.map Zs),?_,by rw [fL]; decide +kernel⟩;have I:fin st (.tup [.str "comes",.lst (fs.map Zs)]) st=.ok (.tup [.str "comes",.lst (fs.map Zs)]) st:=W2 (by simp [Jk,Zs]);rw [cj] at e1;generalize fs.map Zs=fv at *;simp -implicitDefEqProofs [Yy,Qh,Us,B,j,Jc,e,e1,e2,I]
  | false=>
   have O:us≠[]:=fun q=>by rw [J.mp q] at G; cases G
   refine ⟨"rootless",.lst (us.map Zs),?_,by rw [fL]; decide +kernel⟩;have hp:0 < (us.map Zs).length:=by rw [O2]; exact dH.mpr O
   have I:fin st (.tup [.str "rootless",.lst (us.map Zs)]) st=.ok (.tup [.str "rootless",.lst (us.map Zs)]) st:=W2 (by simp [Jk,Zs]);generalize us.map Zs=uv at *;simp -implicitDefEqProofs [Yy,Qh,Us,B,j,Jc,e,e1,hp,I]
theorem Qbn {a b:List (List Int)} (h:a.length=b.length) (st:Q0):Qy [Q4 a,Q4 b] st=.ok .non st:=by
 simp [Qy,Qh,Vf,Q4,h]
def Q5n (r1 r2:List Int):Bool:=(r1.zip r2).all fun z=>decide (z.1<=z.2)
theorem Q2z (j q:List Int) (st:Q0) (G:j.length<=lim):Yc [Qk j,Qk q] st=.ok (.bl (Q5n j q)) st:=by
 have B:Qw (Wz (J1 (Q8 0) (J1 (Q8 1) V0))) Qp Vt [] (Jx [none,none] [some (Qk j),some (Qk q)]) ((j.zip q).map fun z=>.tup [.int z.1,.int z.2]) st=.ok ((j.zip q).map fun z=>.bl (decide (z.1<=z.2))) st:=by
  refine Qu _ _ (by simp) fun z hz=>⟨_,rfl,?_⟩
  simp [Jx,Vt]
 unfold Qk at B ⊢;simp [Yc,Qh,Kr,G,qz,B,Qcf,Q5n]
def Qgi (t1 t2:List (List Int)):Bool:=(t1.zip t2).all fun z=>Q5n z.1 z.2
theorem Qhr {t1 t2:List (List Int)} (h:t1.length=t2.length) (st:Q0) (G:t1.length<=lim) (B:∀ r∈t1,r.length<=lim):X7 [Q4 t1,Q4 t2] st=.ok (.bl (Qgi t1 t2)) st:=by
 have j:Qw (Wz (J1 (Q8 0) (J1 (Q8 1) V0))) Qp K7 [] (Jx [none,none] [some (Q4 t1),some (Q4 t2)]) ((t1.zip t2).map fun z=>.tup [Qk z.1,Qk z.2]) st=.ok ((t1.zip t2).map fun z=>.bl (Q5n z.1 z.2)) st:=by
  refine Qu _ _ (by simp) fun z hz=>⟨_,rfl,?_⟩
  have:=Q2z z.1 z.2 st (B _ (cQ hz).1);simp [Jx,K7,this]
 have q:=Qbn h st;unfold Q4 at j q ⊢;simp [X7,Qh,Q1r,G,qz,j,Qcf,Qgi,q]
theorem Qj4 (r:List Int) (n:Int) (st:Q0) (q:r.length<=lim):x8 [Qk r,.int n] st=.ok (.bl (decide ((r.length:Int)=n + 1) && r.all fun i=>decide (0<=i))) st:=by
 have j:Qw (Q8 0) Qp Q0u [] (Jx [none] [some (Qk r),some (.int n)]) (r.map .int) st=.ok (r.map fun i=>.bl (decide (0<=i))) st:=by
  refine Qu _ _ (by simp) fun i hi=>⟨_,rfl,?_⟩
  simp [Jx,Q0u,Q0k]
 unfold Qk at j ⊢
 by_cases h:(r.length:Int)=n + 1 <;> simp [x8,Qh,Q85,isI,tyN,j,h,q,Qcf]
theorem Q5s {n:Nat} {tb:List (List Int)} (w:Wt' n tb) (st:Q0):U4 [Q4 tb] st=.ok (.bl true) st:=by
 have h1:=w.n1;have I:=w.n8;have z:Qw (Q8 0) Qp qx [] (Jx [none,some 0] [some (Q4 tb)]) (tb.map Qk) st=.ok (tb.map fun _=>.bl true) st:=by
  refine Qu _ _ (by simp) fun r B=>⟨_,rfl,?_⟩
  have e:=w.row r B;have e2:=Qj4 r tb.length st (by rw [e,Jc]; omega);simp [Jx,qx,Q4,e2];rw [w.len,e];exact ⟨by omega,w.nn r B⟩
 unfold Q4 at z ⊢;have j:(1:Int)<=n:=by omega
 have q:(n:Int)<=8:=by omega
 have G:n<=1000000:=by omega
 simp [U4,Qh,Q3m,isI,tyN,z,w.len,Qcf,j,q,Jc,G]
def maxI (x y:Int):Int:=if y > x then y else x
theorem Q58 (x y:Int):x<=maxI x y:=by unfold maxI; split <;> omega
theorem Qfp (x y:Int):y<=maxI x y:=by unfold maxI; split <;> omega
theorem Qbq (x y:Int):maxI x y=x\/maxI x y=y:=by unfold maxI; split <;> simp
theorem Qad {x y:Int} (h:y<=x):maxI x y=x:=by unfold maxI; rw [bP (by omega)]
theorem Qfn {x y:Int} (h:x<=y):maxI x y=y:=by unfold maxI; split <;> omega
def Wy (a b:List Int):List Int:=(a.zip b).map fun z=>maxI z.1 z.2
def Zf (a b:List (List Int)):List (List Int):=(a.zip b).map fun z=>Wy z.1 z.2
theorem Q9t (a b:List Int) (G:a.length<=lim) (st:Q0):Uc [Qk a,Qk b] st=.ok (Qk (Wy a b)) st:=by
 have j:Qw (Wz (J1 (Q8 0) (J1 (Q8 1) V0))) Qp Xk [] (Jx [none,none] [some (Qk a),some (Qk b)]) ((a.zip b).map fun z=>.tup [.int z.1,.int z.2]) st=.ok ((a.zip b).map fun z=>.int (maxI z.1 z.2)) st:=by
  refine Qu _ _ (by simp) fun z hz=>⟨_,rfl,?_⟩
  simp [Jx,Xk,maxI]
 have e:((a.zip b).map fun z=>PV.int (maxI z.1 z.2))=(Wy a b).map .int:=by unfold Wy; rw [G6]; rfl
 rw [e] at j;have B:Jk 12 (.tup ((Wy a b).map .int))=true:=by simp [Jk]
 generalize Wy a b=q at *;unfold Qk at j ⊢;simp [Uc,Qh,Q0d,G,qz,j,W2 B]
theorem Qj1 {a b:List (List Int)} (h:a.length=b.length) (J:a.length<=lim) (G:∀ r∈a,r.length<=lim) (st:Q0):yy [Q4 a,Q4 b] st=.ok (Q4 (Zf a b)) st:=by
 have j:Qw (Wz (J1 (Q8 0) (J1 (Q8 1) V0))) Qp Q0r [] (Jx [none,none] [some (Q4 a),some (Q4 b)]) ((a.zip b).map fun z=>.tup [Qk z.1,Qk z.2]) st=.ok ((a.zip b).map fun z=>Qk (Wy z.1 z.2)) st:=by
  refine Qu _ _ (by simp) fun z hz=>⟨_,rfl,?_⟩
  have:=Q9t z.1 z.2 (G _ (cQ hz).1) st;simp [Jx,Q0r,this]
 have e:((a.zip b).map fun z=>Qk (Wy z.1 z.2))=(Zf a b).map Qk:=by unfold Zf; rw [G6]; rfl
 rw [e] at j;have B:=Qbn h st;have I:Jk 12 (.tup ((Zf a b).map Qk))=true:=by simp [Jk,Qk]
 generalize Zf a b=q at *;unfold Q4 at j B ⊢;simp [yy,Qh,Q84,J,qz,j,B,W2 I]
theorem Qj2 {a b:List Int} (h:a.length=b.length):(Wy a b).length=a.length:=by unfold Wy; simp [h]
theorem Qqk {n:Nat} {a b:List (List Int)} (j:Sz n a) (q:Sz n b):Sz n (Zf a b):=by
 refine ⟨by unfold Zf; simp [j.1,q.1],fun r B=>?_⟩;obtain ⟨z,hz,rfl⟩:=cK.mp B;have:=cQ hz;rw [Qj2 (by rw [j.2 _ this.1,q.2 _ this.2]),j.2 _ this.1]
theorem We {n i j:Nat} {a b:List (List Int)} (q:Sz n a) (G:Sz n b) (hi:i < n) (B:j<=n):ent (Zf a b) i j=maxI (ent a i j) (ent b i j):=by
 have J:=q.row hi;have rb:=G.row hi;have ca:=q.cell hi B;have I:=G.cell hi B;have e1:(Zf a b).getD i []=Wy (a.getD i []) (b.getD i []):=by
  unfold Zf;rw [ba,E2,(cx (z:=(a.getD i [],b.getD i []))).mpr ⟨J.1,rb.1⟩];rfl
 have e2:(Wy (a.getD i []) (b.getD i []))[j]?=some (maxI (ent a i j) (ent b i j)):=by
  unfold Wy;rw [E2,(cx (z:=(ent a i j,ent b i j))).mpr ⟨ca,I⟩];rfl
 unfold ent;rw [e1,ba,e2];rfl
def Q70 (n:Nat) (tb:List (List Int)):Int:=Y3 n (fun o=>ent tb o o) - Y3 n (fun o=>ent tb o n)
theorem Qf8 {n:Nat} {tb:List (List Int)} (z:Sz n tb):Y3 n (Qi tb)=Q70 n tb:=by
 rw [Y6 fun h j=>Wh z j,Q3v,Q3v,Q3w,Qhs n n fun h o=>ent tb o h,Q70]
 omega
def Kb (n:Nat):List Int:=bV (n + 1) 0
theorem Qqb {n:Nat} (h1:1<=n) (z:n<=8):Wt' n (bV n (Kb n)):=by
 refine ⟨by simp,fun r j=>?_,fun r j x q=>?_,h1,z⟩
 ·rw [fM j]; simp [Kb]
 ·rw [fM j] at q;rw [fM q];exact bc _
def Xw (tb:List (List Int)) (i j:Nat) (x:Int):List (List Int):=tb.set i ((tb.getD i []).set j x)
theorem Q0n {n i j:Nat} {tb:List (List Int)} (z:Sz n tb) (hi:i < n) (I:j<=n) (x:Int) (a b:Nat):ent (Xw tb i j x) a b=if a=i/\b=j then x else ent tb a b:=by
 unfold ent Xw;have J:=(z.row hi).2
 by_cases G:a=i
 ·subst G;rw [show (tb.set a ((tb.getD a []).set j x)).getD a []=(tb.getD a []).set j x by rw [ba,E7 (by rw [z.1]; exact hi)]; rfl]
  by_cases B:b=j
  ·subst B;rw [bO ⟨rfl,rfl⟩,ba,E7 (by omega)]; rfl
  ·rw [bP (fun q=>B q.2),ba,O9 (fun q=>B q.symm)]; rfl
 ·rw [bP (fun q=>G q.1)];rw [show (tb.set i ((tb.getD i []).set j x)).getD a []=tb.getD a [] by rw [ba,O9 (fun q=>G q.symm)]; rfl]
theorem Q6v (n i:Nat) (k:Int):Y3 n (fun o=>if o=i then k else 0)=if i < n then k else 0:=by
 induction n with
 | zero=>rfl
 | succ n j=>
  rw [J3,j]
  by_cases e:n=i
  ·subst e; simp
  ·rw [bP e]
   by_cases h:i < n
   ·rw [bO h,bO (by omega)]; omega
   ·rw [bP h,bP (by omega)]; omega
theorem Qrf {n i j:Nat} {tb:List (List Int)} (z:Sz n tb) (hi:i < n) (x:Int):Sz n (Xw tb i j x):=by
 unfold Xw;refine ⟨by rw [D9]; exact z.1,fun r q=>?_⟩;rcases eA q with q | rfl
 ·exact z.2 r q
 ·rw [D9]; exact (z.row hi).2
theorem Q7d {n i j:Nat} {tb:List (List Int)} (z:Sz n tb) (hi:i < n) (J:j<=n) (k:Int) {h:Nat} (G:h < n) :
  Qi (Xw tb i j (ent tb i j + k)) h=Qi tb h + (if h=j then k else 0) - (if h=i then k else 0) + (if h=i/\j=i then k else 0):=by
 have U:=Qrf (j:=j) z hi (ent tb i j + k);have B:∀ a b,ent (Xw tb i j (ent tb i j + k)) a b=ent tb a b + if a=i/\b=j then k else 0:=fun a b=>by
  rw [Q0n z hi J]
  split
  ·rename_i q; rw [q.1,q.2]
  ·omega
 rw [Wh U G,Wh z G];have I:Y3 n (fun o=>ent (Xw tb i j (ent tb i j + k)) o h)=Y3 n (fun o=>ent tb o h) + if h=j then k else 0:=by
  rw [Y6 (g:=fun o=>ent tb o h + if o=i then (if h=j then k else 0) else 0) fun o _=>by
   rw [B]
   by_cases q1:o=i <;> by_cases q2:h=j <;> simp [q1,q2],Q3w,Q6v,bO hi]
 have O:Y3 n (fun b=>ent (Xw tb i j (ent tb i j + k)) h b) + ent (Xw tb i j (ent tb i j + k)) h n=Y3 n (fun b=>ent tb h b) + ent tb h n + if h=i then k else 0:=by
  rw [<- J3,<- J3,Y6 (g:=fun b=>ent tb h b + if b=j then (if h=i then k else 0) else 0) fun b _=>by
   rw [B]
   by_cases q1:h=i <;> by_cases q2:b=j <;> simp [q1,q2],Q3w,Q6v,bO (by omega)]
 rw [I,O,B]
 by_cases q1:h=i <;> by_cases q2:j=i <;> by_cases q3:h=j <;> simp [q1,q2,q3] <;> omega
structure Ca (n:Nat) (tb:List (List Int)):Prop where
 nn:∀ h,h < n->0<=Qi tb h
 bz:∀ h,h < n->U3 tb h=true->Rc n tb h
theorem Ca.comes {n:Nat} {tb:List (List Int)} (c:Ca n tb):Q8v n tb=true:=by
 unfold Q8v Q3e;rw [G7,F9,F9];refine ⟨fun h j=>by simp [c.nn h (O8.mp j)],fun h j=>?_⟩;have j:=O8.mp j;cases q:U3 tb h with
 | false=>simp
 | true=>rw [(Qdw n tb j).mpr (c.bz h j q)]; rfl
theorem Rc.mono {n:Nat} {t1 t2:List (List Int)} (h:∀ a b,a < n->b < n->ent t1 a b<=ent t2 a b) {g:Nat} (r:Rc n t1 g):Rc n t2 g:=by
 induction r with
 | @made k j q=>
  refine .made j ?_;unfold Q13 at *;have:=h k k j j;simp at q;simp; omega
 | @lent o k r j B z=>
  have:=h o k r.lt j;exact .lent z j (by omega)
theorem Kf {n:Nat} {tb:List (List Int)} (w:Wt' n tb) {h:Nat} (B:h < n):U3 tb h=true <-> ∃ j,j<=n/\j≠h/\0 < ent tb h j:=by
 rw [<- Qtr w B];unfold Qpt;rw [dO];constructor
 ·rintro ⟨j,z,q⟩;simp at q;exact ⟨j,by have:=O8.mp z; omega,q.1,q.2⟩
 ·rintro ⟨j,z,q1,q2⟩;exact ⟨j,O8.mpr (by omega),by simp [q1,q2]⟩
theorem Ca.rc_of {n:Nat} {tb:List (List Int)} (w:Wt' n tb) (c:Ca n tb) {i:Nat} (hi:i < n) (J:1<=Qi tb i):Rc n tb i:=by
 rw [Wh w.sz hi] at J;have I:ent tb i i<=Y3 n (fun j=>ent tb i j):=Qb1 (fun j O=>w.ent_nn hi (E9 O)) hi
 have U:=w.ent_nn hi (O7 n);have:∃ o,o < n/\0 < ent tb o i:=by
  refine Classical.byContradiction fun q=>?_
  have:Y3 n (fun o=>ent tb o i)=Y3 n fun _=>0:=Y6 fun o B=>by
   have h1:=w.ent_nn B (E9 hi);have h2:¬ 0 < ent tb o i:=fun z=>q ⟨o,B,z⟩
   omega
  rw [Q28] at this;omega
 obtain ⟨o,B,G⟩:=this
 by_cases e:o=i
 ·subst e;exact .made hi (by unfold Q13; simp [G])
 ·exact .lent (c.bz o B ((Kf w B).mpr ⟨i,E9 hi,fun z=>e z.symm,G⟩)) hi G
theorem Ca.make {n i:Nat} {tb:List (List Int)} (w:Wt' n tb) (c:Ca n tb) (hi:i < n) {k:Int} (O:0<=k) (J:Wt' n (Xw tb i i (ent tb i i + k))):Ca n (Xw tb i i (ent tb i i + k)):=by
 have B:∀ a b,ent tb a b<=ent (Xw tb i i (ent tb i i + k)) a b:=fun a b=>by
  rw [Q0n w.sz hi (E9 hi)]
  split
  ·rename_i q; rw [q.1,q.2]; omega
  ·omega
 refine ⟨fun h z=>?_,fun h z G=>?_⟩
 ·rw [Q7d w.sz hi (E9 hi) k z];have:=c.nn h z
  by_cases q:h=i <;> simp [q] at * <;> omega
 ·obtain ⟨j,I,q1,q2⟩:=(Kf J z).mp G;rw [Q0n w.sz hi (E9 hi)] at q2;rw [bP (fun q=>q1 (by omega))] at q2
  exact (c.bz h z ((Kf w z).mpr ⟨j,I,q1,q2⟩)).mono fun a b _ _=>B a b
theorem Ca.give {n i j:Nat} {tb:List (List Int)} (w:Wt' n tb) (c:Ca n tb) (hi:i < n) (O:j<=n) (G:j≠i) {k:Int} (hk:0<=k) (hr:k<=Qi tb i) (J:1<=Qi tb i) (Z:Wt' n (Xw tb i j (ent tb i j + k))):Ca n (Xw tb i j (ent tb i j + k)):=by
 have I:∀ a b,ent tb a b<=ent (Xw tb i j (ent tb i j + k)) a b:=fun a b=>by
  rw [Q0n w.sz hi O]
  split
  ·rename_i q; rw [q.1,q.2]; omega
  ·omega
 refine ⟨fun h B=>?_,fun h B Y=>?_⟩
 ·rw [Q7d w.sz hi O k B];have:=c.nn h B
  by_cases q:h=i
  ·subst q;rw [bP (fun z=>G z.symm),bO rfl,bP (fun z=>G z.2)];omega
  ·by_cases q2:h=j
   ·rw [bO q2,bP q,bP (fun z=>q z.1)]; omega
   ·rw [bP q2,bP q,bP (fun z=>q z.1)]; omega
 ·by_cases q:h=i
  ·subst q;exact (c.rc_of w hi J).mono fun a b _ _=>I a b
  ·obtain ⟨b,U,q1,q2⟩:=(Kf Z B).mp Y;rw [Q0n w.sz hi O,bP (fun z=>q z.1)] at q2;exact (c.bz h B ((Kf w B).mpr ⟨b,U,q1,q2⟩)).mono fun a b _ _=>I a b
theorem Ca.zero {n:Nat} (h1:1<=n) (U:n<=8) (w:Wt' n (bV n (Kb n))):Ca n (bV n (Kb n)):=by
 have B:∀ a b,a < n->b<=n->ent (bV n (Kb n)) a b=0:=fun a b J I=>by
  unfold ent Kb;rw [show (bV n (bV (n + 1) (0:Int))).getD a []=bV (n + 1) 0 by rw [ba,G9,bO J]; rfl];rw [ba,G9,bO (by omega)]; rfl
 refine ⟨fun h z=>?_,fun h z I=>?_⟩
 ·rw [Wh w.sz z,Y6 (g:=fun _=>0) fun o G=>B o h G (E9 z),Y6 (f:=fun j=>ent (bV n (Kb n)) h j) (g:=fun _=>0) fun o G=>B h o z (E9 G),Q28,B h n z (O7 n),B h h z (E9 z)]
  omega
 ·obtain ⟨j,O,_,q⟩:=(Kf w z).mp I;rw [B h j z O] at q;omega
theorem Qtf {n:Nat} {tb:List (List Int)} (w:Wt' n tb) (st:Q0):Yr [Q4 tb] st=.ok (.bl (Q8v n tb)) st:=by
 have q:=w.n8;obtain ⟨s,v,e,hs⟩:=Qjf w.sz (by omega) st;have j:=Q5s w st;rw [<- hs];generalize Q4 tb=T at *;simp -implicitDefEqProofs [Yr,Qh,Xe,j,e,atI,ixN]
theorem Wt'.set0 {n i j:Nat} {tb:List (List Int)} (w:Wt' n tb) (hi:i < n) {x:Int} (J:0<=x):Wt' n (tb.set i ((tb.getD i []).set j x)):=by
 have I:=(w.sz.row hi).1;have G:=D4 I;generalize tb.getD i []=r at *;refine ⟨by rw [D9]; exact w.len,fun q z=>?_,fun q z y B=>?_,w.n1,w.n8⟩
 ·rcases eA z with z | rfl
  ·exact w.row q z
  ·rw [D9]; exact w.row r G
 ·rcases eA z with z | rfl
  ·exact w.nn q z y B
  ·rcases eA B with B | rfl
   ·exact w.nn r G y B
   ·exact J
theorem Q6e {α:Type} (xs:List α) (i:Nat) (x:α) (h:i < xs.length):xs.take i ++ [x] ++ xs.drop (i + 1)=xs.set i x:=by
 rw [List.set_eq_take_append_cons_drop,bO h,L5]; rfl
theorem Qi8 {n i j:Nat} {tb:List (List Int)} (z:Sz n tb) (hn:n<=100) (hi:i < n) (Y:j<=n) (k:Int) (st:Q0):yw [Q4 tb,.int i,.int j,.int k] st=.ok (Q4 (Xw tb i j (ent tb i j + k))) st:=by
 have J:=K9 z hi Y st;have q:=(z.row hi).2;have g1:Qk ((tb.getD i []).set j (ent tb i j + k))=.tup (((tb.getD i []).take j).map .int ++ [.int (ent tb i j + k)] ++ ((tb.getD i []).drop (j + 1)).map .int):=by
  unfold Qk;rw [<- Q6e _ _ _ (by omega),F0,F0]; rfl
 have g2:Q4 (Xw tb i j (ent tb i j + k))=.tup ((tb.take i).map Qk ++ [Qk ((tb.getD i []).set j (ent tb i j + k))] ++ (tb.drop (i + 1)).map Qk):=by
  unfold Q4 Xw;rw [<- Q6e _ _ _ (by rw [z.1]; exact hi),F0,F0]; rfl
 have c3:cut ((tb.getD i []).map PV.int) none (some (j:Int))=((tb.getD i []).take j).map .int:=by rw [ze,yt]
 have c4:cut ((tb.getD i []).map PV.int) (some ((j:Int) + 1)) none=((tb.getD i []).drop (j + 1)).map .int:=by rw [ze]; exact congrArg _ (Q23 _ (j + 1))
 have c5:cut (tb.map Qk) none (some (i:Int))=(tb.take i).map Qk:=by rw [ze,yt]
 have c6:cut (tb.map Qk) (some ((i:Int) + 1)) none=(tb.drop (i + 1)).map Qk:=by rw [ze]; exact congrArg _ (Q23 _ (i + 1))
 have l3:(((tb.getD i []).take j).map PV.int).length=j:=by rw [O2,cF,q]; omega
 have O:(((tb.getD i []).drop (j + 1)).map PV.int).length=n - j:=by rw [O2,cR,q]; omega
 have G:((tb.take i).map Qk).length=i:=by rw [O2,cF,z.1]; omega
 have l6:((tb.drop (i + 1)).map Qk).length=n - (i + 1):=by rw [O2,cR,z.1]
 have b1:j + 1<=1000000:=by omega
 have b2:j + 1 + (n - j)<=1000000:=by omega
 have b3:i + 1<=1000000:=by omega
 have I:i + 1 + (n - (i + 1))<=1000000:=by omega
 have B:fin st (Q4 (Xw tb i j (ent tb i j + k))) st=.ok (Q4 (Xw tb i j (ent tb i j + k))) st:=W2 (by simp [Jk,Q4,Qk]);obtain ⟨U,Z⟩:=J;have q1:oSl st (Qk (tb.getD i [])) none (some (j:Int))=.ok (.tup (((tb.getD i []).take j).map .int)) st:=by unfold Qk; rw [jx,c3]
 have q2:oSl st (Qk (tb.getD i [])) (some ((j:Int) + 1)) none=.ok (.tup (((tb.getD i []).drop (j + 1)).map .int)) st:=by unfold Qk; rw [jx,c4]
 have q3:oSl st (Q4 tb) none (some (i:Int))=.ok (.tup ((tb.take i).map Qk)) st:=by unfold Q4; rw [jx,c5]
 have q4:oSl st (Q4 tb) (some ((i:Int) + 1)) none=.ok (.tup ((tb.drop (i + 1)).map Qk)) st:=by unfold Q4; rw [jx,c6]
 rw [g2] at B ⊢;rw [g1] at B ⊢;generalize ent tb i j=x at *;generalize ((tb.getD i []).take j).map PV.int=v3 at *;generalize ((tb.getD i []).drop (j + 1)).map PV.int=v4 at *;generalize (tb.take i).map Qk=v5 at *;generalize (tb.drop (i + 1)).map Qk=v6 at *;generalize Qk (tb.getD i [])=rv at *;generalize Q4 tb=T at *;simp -implicitDefEqProofs at B;simp -implicitDefEqProofs [yw,Qh,Q82,U,Z,q1,q2,q3,q4,Jc,l3,O,G,l6,b1,b2,b3,I,B]
inductive Dd where
 | mk (h:Nat) (k:Int)
 | ld (h q:Nat) (k:Int)
 | us (h:Nat) (k:Int)
def Dd.h:Dd->Nat
 | .mk h _=>h
 | .ld h _ _=>h
 | .us h _=>h
def Dd.k:Dd->Int
 | .mk _ k=>k
 | .ld _ _ k=>k
 | .us _ k=>k
def Dd.pl (n:Nat):Dd->Nat
 | .mk h _=>h
 | .ld _ q _=>q
 | .us _ _=>n
def Dd.isM:Dd->Bool
 | .mk _ _=>true
 | _=>false
def Dd.V:Dd->PV
 | .mk h k=>.tup [.str "make",.int h,.int k]
 | .ld h q k=>.tup [.str "lend",.int h,.int q,.int k]
 | .us h k=>.tup [.str "use",.int h,.int k]
def Dd.ok (n:Nat):Dd->Prop
 | .mk h k=>h < n/\1<=k
 | .ld h q k=>h < n/\q < n/\q≠h/\1<=k
 | .us h k=>h < n/\1<=k
theorem Dd.ok_h {n:Nat} {d:Dd} (o:d.ok n):d.h < n:=by cases d <;> exact o.1
theorem Dd.ok_k {n:Nat} {d:Dd} (o:d.ok n):1<=d.k:=by
 cases d with
 | mk h k=>exact o.2
 | ld h q k=>exact o.2.2.2
 | us h k=>exact o.2
theorem Dd.ok_pl {n:Nat} {d:Dd} (o:d.ok n):d.pl n<=n:=by
 cases d with
 | mk h k=>exact E9 o.1
 | ld h q k=>exact E9 o.2.1
 | us h k=>exact O7 n
theorem Vj (x:Str) (ns:List Int) (O:ns.length<=100) (st:Q0):Qe [.tup (.str x :: ns.map .int)] st=.ok (.bl true) st:=by
 have I:cut (PV.str x :: ns.map .int) (some 1) none=ns.map .int:=Q23 _ 1;have q:Qw (Q8 0) Qp Yp [] (Jx [none] [some (.tup (.str x :: ns.map .int))]) (ns.map .int) st=.ok (ns.map fun _=>.bl true) st:=by
  refine Qu _ _ (by simp) fun i _=>⟨_,rfl,?_⟩
  simp [Jx,Yp,Q0k]
 have e:(ns.map fun _=>PV.bl true)=(ns.map fun _=>true).map PV.bl:=by rw [G6]; rfl
 have G:(ns.map fun _=>true).all id=true:=by simp
 have a0:atI (PV.str x :: ns.map .int) 0=some (.str x):=Sm.atI_get (show (PV.str x :: ns.map .int)[0]?=some (.str x) from rfl);have j:(ns.map PV.int).length<=1000000:=by rw [O2]; omega
 rw [e] at q;have B:isI "tuple" (.tup (.str x :: ns.map .int))=true:=rfl;have z:isI "str" (.str x)=true:=rfl;have hz:¬ (((ns.map PV.int).length:Int) + 1=0):=by omega
 generalize (ns.map fun _=>true)=bs at *;generalize ns.map PV.int=J at *;simp -implicitDefEqProofs [Qe,Qh,Vg,B,z,a0,I,q,G,Jc,j,hz,-G7]
theorem Qux:¬ (bT "make" = bT "lend"):=by decide
theorem Qew:¬ (bT "lend" = bT "make"):=by decide
theorem Qeu:¬ (bT "use" = bT "make"):=by decide
theorem Qev:¬ (bT "use" = bT "lend"):=by decide
theorem Q8i {n:Nat} {d:Dd} (o:d.ok n) (st:Q0):Yh [d.V] st=.ok (.bl true) st:=by
 have j:=Dd.ok_k o;cases d with
 | mk h k=>
  have t:=Vj "make" [h,k] (by simp) st;have a0:atI [PV.str "make",.int h,.int k] 0=some (.str "make"):=rfl;have a1:atI [PV.str "make",.int h,.int k] (-1)=some (.int k):=rfl;have j:(1:Int)<=k:=j;have t:Qe [.tup [.str "make",.int h,.int k]] st=.ok (.bl true) st:=t;unfold Dd.V;simp -implicitDefEqProofs [Yh,Qh,U7,t,a0,a1,j]
 | ld h q k=>
  have t:=Vj "lend" [h,q,k] (by simp) st;have a0:atI [PV.str "lend",.int h,.int q,.int k] 0=some (.str "lend"):=rfl;have a1:atI [PV.str "lend",.int h,.int q,.int k] (-1)=some (.int k):=rfl;have j:(1:Int)<=k:=j;have t:Qe [.tup [.str "lend",.int h,.int q,.int k]] st=.ok (.bl true) st:=t;unfold Dd.V;simp -implicitDefEqProofs [Yh,Qh,U7,t,a0,a1,j,Qew]
 | us h k=>
  have t:=Vj "use" [h,k] (by simp) st;have a0:atI [PV.str "use",.int h,.int k] 0=some (.str "use"):=rfl;have a1:atI [PV.str "use",.int h,.int k] (-1)=some (.int k):=rfl;have j:(1:Int)<=k:=j;have t:Qe [.tup [.str "use",.int h,.int k]] st=.ok (.bl true) st:=t;unfold Dd.V;simp -implicitDefEqProofs [Yh,Qh,U7,t,a0,a1,j,Qeu,Qev]
theorem Qdi {n:Nat} {tb:List (List Int)} (J:tb.length=n) {d:Dd} (o:d.ok n) (st:Q0):Qx [Q4 tb,d.V] st=.ok .non st:=by
 have G:yu (fun ns=>.bl (ns.all id)) st [.lst [.bl true]]=.ok (.bl true) st:=Q4j _ st [true]
 have B:yu (fun ns=>.bl (ns.all id)) st [.lst [.bl true,.bl true]]=.ok (.bl true) st:=Q4j _ st [true,true]
 have z:∀ i:Nat,i < n->Jy [Q4 tb,.int i] st=.ok (.bl true) st:=fun i hi=>by
  have:=Q1x (V:=Q4 tb) (n:=n) (st:=st) (by simp [Q4,J]) (i:Int);rw [show (decide ((0:Int)<=(i:Int)) && decide ((i:Int) < (n:Int)))=true by simp; omega] at this;exact this
 cases d with
 | mk h k=>
  have e:=z h o.1;have s1:cut [PV.str "make",.int h,.int k] (some 1) (some (-1))=[.int h]:=rfl;have a0:atI [PV.str "make",.int h,.int k] 0=some (.str "make"):=rfl;unfold Dd.V;generalize Q4 tb=T at *;simp -implicitDefEqProofs [Qx,Qh,Yf,s1,a0,Qw,Q8,Qp,Jx,Y4,G,B,e,Jc,Qux]
 | ld h q k=>
  have e:=z h o.1;have e2:=z q o.2.1;have s1:cut [PV.str "lend",.int h,.int q,.int k] (some 1) (some (-1))=[.int h,.int q]:=rfl;have a0:atI [PV.str "lend",.int h,.int q,.int k] 0=some (.str "lend"):=rfl;have a1:atI [PV.int (h:Int),.int q] 0=some (.int h):=rfl;have O:atI [PV.int (h:Int),.int q] 1=some (.int q):=rfl;have I:((h:Int) == (q:Int))=false:=by rw [beq_eq_false_iff_ne]; have:=o.2.2.1; omega
  have j:¬ ((h:Int)=(q:Int)):=by have:=o.2.2.1; omega
  unfold Dd.V;generalize Q4 tb=T at *;simp -implicitDefEqProofs [Qx,Qh,Yf,s1,a0,a1,O,Qw,Q8,Qp,Jx,Y4,G,B,e,e2,Jc,I,j]
 | us h k=>
  have e:=z h o.1;have s1:cut [PV.str "use",.int h,.int k] (some 1) (some (-1))=[.int h]:=rfl;have a0:atI [PV.str "use",.int h,.int k] 0=some (.str "use"):=rfl;unfold Dd.V;generalize Q4 tb=T at *;simp -implicitDefEqProofs [Qx,Qh,Yf,s1,a0,Qw,Q8,Qp,Jx,Y4,G,B,e,Jc,Qev]
theorem Qmg {n:Nat} {tb:List (List Int)} (j:tb.length=n) {d:Dd} (o:d.ok n) (st:Q0):Yn [Q4 tb,d.V] st=.ok (.int (d.pl n)) st:=by
 cases d with
 | mk h k=>
  have a0:atI [PV.str "make",.int h,.int k] 0=some (.str "make"):=rfl;have a1:atI [PV.str "make",.int h,.int k] 1=some (.int h):=rfl;unfold Dd.V Dd.pl;generalize Q4 tb=T at *;simp -implicitDefEqProofs [Yn,Qh,U0,a0,a1]
 | ld h q k=>
  have a0:atI [PV.str "lend",.int h,.int q,.int k] 0=some (.str "lend"):=rfl;have a1:atI [PV.str "lend",.int h,.int q,.int k] 2=some (.int q):=rfl;unfold Dd.V Dd.pl;generalize Q4 tb=T at *;simp -implicitDefEqProofs [Yn,Qh,U0,a0,a1,Qew]
 | us h k=>
  have a0:atI [PV.str "use",.int h,.int k] 0=some (.str "use"):=rfl;have z:(tb.map Qk).length=n:=by rw [O2]; exact j
  unfold Dd.V Dd.pl Q4;generalize tb.map Qk=T at *;simp -implicitDefEqProofs [Yn,Qh,U0,a0,z,Qeu,Qev]
def Dd.fits (tb:List (List Int)) (d:Dd):Bool:=d.isM || decide (d.k<=Qi tb d.h)
def Dd.put (n:Nat) (tb:List (List Int)) (d:Dd):List (List Int):=Xw tb d.h (d.pl n) (ent tb d.h (d.pl n) + d.k)
theorem Dd.a0 (d:Dd) (st:Q0):∃ w:Str,oIx st d.V (.int 0)=.ok (.str w) st/\(w = "make" <-> d.isM=true):=by
 cases d with
 | mk h k=>exact ⟨"make",rfl,by simp [Dd.isM]⟩
 | ld h q k=>exact ⟨"lend",rfl,by simp [Dd.isM,Qew]⟩
 | us h k=>exact ⟨"use",rfl,by simp [Dd.isM,Qeu]⟩
theorem Dd.a1 (d:Dd) (st:Q0):oIx st d.V (.int 1)=.ok (.int d.h) st:=by cases d <;> rfl
theorem Dd.al (d:Dd) (st:Q0):oIx st d.V (.int (-1))=.ok (.int d.k) st:=by cases d <;> rfl
theorem Qc6 {n:Nat} {tb:List (List Int)} (w:Wt' n tb) {d:Dd} (o:d.ok n) (st:Q0):Ky [Q4 tb,d.V] st=if d.fits tb=true then .ok (Q4 (d.put n tb)) st else .exc ⟨"Short",some ("had",.int (Qi tb d.h))⟩ st:=by
 have h8:=w.n8;have e1:=Q8i o st;have e2:=Qdi w.len o st;have e3:=yg w.sz (by omega) (Dd.ok_h o) st;have e4:=Qmg w.len o st;have Z:=Qi8 w.sz (by omega) (Dd.ok_h o) (Dd.ok_pl o) d.k st;obtain ⟨x,U,B⟩:=d.a0 st;have O:=d.a1 st;have G:=d.al st;have a2:st <+: st:=cX _;have hf:fin st (Q4 (d.put n tb)) st=.ok (Q4 (d.put n tb)) st:=W2 (by simp [Jk,Q4,Qk]);have J:Qp2 st ⟨"Short",some ("had",.int (Qi tb d.h))⟩ st=.exc ⟨"Short",some ("had",.int (Qi tb d.h))⟩ st:=by simp [Qp2,fz]
 unfold Dd.put Dd.fits at *;generalize Q4 (Xw tb d.h (d.pl n) (ent tb d.h (d.pl n) + d.k))=V2 at *;generalize Qi tb d.h=r at *;generalize Q4 tb=T at *;generalize d.V=DV at *;generalize (d.pl n:Int)=pl at *;generalize d.k=k at *;cases I:d.isM with
 | true=>
  have B:x = "make" := B.mpr I;subst B;simp -implicitDefEqProofs [Ky,Qh,Q86,e1,e2,e4,Z,U,O,G,hf]
 | false=>
  have q:¬ x = "make" := fun z=>by rw [B.mp z] at I; cases I
  by_cases Y:k<=r
  ·have j:¬ r < k:=by omega
   simp -implicitDefEqProofs [Ky,Qh,Q86,e1,e2,e3,e4,Z,U,O,G,hf,q,Y,j]
  ·have j:r < k:=by omega
   simp -implicitDefEqProofs [Ky,Qh,Q86,e1,e2,e3,U,O,G,J,q,Y,j]
theorem Qb {a b:MS} {Γ Γ1:Gam} {S S1:Q0} {r:SR} (h1:a Γ S=.nx Γ1 S1) (h2:b Γ1 S1=r):Qf a b Γ S=r:=by rw [Qdp,h1]; exact h2
theorem Qr {i:Nat} {m:ME} {Γ:Gam} {S S1:Q0} {v:PV} (h:m Γ S=.ok v S1):J2 i m Γ S=.nx (Γ.set i (some v)) S1:=by rw [Qsm,h]; rfl
theorem Qg {n:Nat} {F:FN} {mr:ML} {Γ:Gam} {S S1 j:Q0} {ps:List PV} {v:PV} (h1:mr Γ S=.ok ps S1) (h2:ps.length=n) (q:F ps S1=.ok v j):Q9 n F mr Γ S=.ok v j:=by rw [Qae,h1,Qn,bO h2,q]
theorem Q7 {o:OP} {a b:ME} {Γ:Gam} {S S1 j q:Q0} {x y v:PV} (h1:a Γ S=.ok x S1) (h2:b Γ S1=.ok y j) (z:o j x y=.ok v q):mOp o a b Γ S=.ok v q:=by rw [Qwk,h1,Qn,h2,Qn,z]
theorem Q3 {m:ME} {mr:ML} {Γ:Gam} {S S1 j:Q0} {p:PV} {ps:List PV} (h1:m Γ S=.ok p S1) (h2:mr Γ S1=.ok ps j):Q1 m mr Γ S=.ok (p :: ps) j:=by rw [Qni,h1,Qn,h2,Qn]
theorem Yq {o:CF} {mr:ML} {Γ:Gam} {S S1 j:Q0} {ps:List PV} {v:PV} (h1:mr Γ S=.ok ps S1) (h2:o S1 ps=.ok v j):Qm o mr Γ S=.ok v j:=by rw [Qnj,h1,Qn,h2]
theorem y8 {ga:GA} {mi:MI} {b:MS} {Γ:Gam} {S S1:Q0} {xs:List PV} {w:Wt} {r:SR} (h1:mi Γ S=.ok (xs,w) S1) (h2:yq ga b w xs Γ S1=r):Q1u ga mi b Γ S=r:=by rw [Qsq,h1]; exact h2
theorem y6 {c:MT} {a b:MS} {Γ:Gam} {S S1:Q0} {r:SR} (h1:c Γ S=.ok true S1) (h2:a Γ S1=r):Y2 c a b Γ S=r:=by rw [Qh3,h1]; exact h2
theorem W0 {c:MT} {a b:MS} {Γ:Gam} {S S1:Q0} {r:SR} (h1:c Γ S=.ok false S1) (h2:b Γ S1=r):Y2 c a b Γ S=r:=by rw [Qh3,h1]; exact h2
theorem Qxi {ga:GA} {m:ME} {Γ Γ1:Gam} {S S1:Q0} {p:PV} (h1:m Γ S=.ok p S1) (h2:ga p Γ=some Γ1):Qnk ga m Γ S=.nx Γ1 S1:=by rw [Qss,h1]; show (match ga p Γ with | some Γ1=>SR.nx Γ1 S1 | none=>.stuck)=_; rw [h2]
theorem Q72 {m:ME} {Γ:Gam} {S S1:Q0} {p:PV} {xs:List PV} {w:Wt} (h1:m Γ S=.ok p S1) (h2:Vn S1 p=some (xs,w)) (j:xs.length<=1000000):Ke m Γ S=.ok (xs,w) S1:=by rw [Qsn,h1,Qn,h2]; exact bO j
theorem W5 {m:ML} {Γ:Gam} {S S1:Q0} {ps:List PV} (h:m Γ S=.ok ps S1):Yz m Γ S=.ok (.lst ps) S1:=by rw [Qsi,h,Qn]
theorem Zq {cap:List (Option Nat)} {ga:GA} {mi:MI} {mt:MT} {me:ME} {Γ:Gam} {S S1 j:Q0} {xs ys:List PV} {w:Wt} (h1:mi Γ S=.ok (xs,w) S1) (h2:Qw ga mt me w (Jx cap Γ) xs S1=.ok ys j):Qs cap ga mi mt me Γ S=.ok ys j:=by rw [Qiw,h1,Qn,h2]; rfl
theorem j7 {m:ML} {Γ:Gam} {S S1:Q0} {ps:List PV} (h:m Γ S=.ok ps S1):y0 m Γ S=.ok (.ref S1.length) (S1 ++ [.lst ps]):=by rw [Qsk,h,Qn]
theorem Q1p {t:MT} {Γ:Gam} {S S1:Q0} {b:Bool} (h:t Γ S=.ok b S1):Vy t Γ S=.ok (!b) S1:=by rw [Qkc,h,Qn]
theorem Qq {m:ME} {Γ:Gam} {S S1:Q0} {b:Bool} (h:m Γ S=.ok (.bl b) S1):toB m Γ S=.ok b S1:=by rw [Quq,h]; rfl
theorem Q4n {mo mi m:ME} {Γ:Gam} {S S1 q z j:Q0} {p o i:PV} (h1:m Γ S=.ok p S1) (h2:mo Γ S1=.ok o q) (G:mi Γ q=.ok i z) (B:Q11 z o i p=some j):y3 mo mi m Γ S=.nx Γ j:=by
 rw [Qiu,h1,Vz,h2,Vz,G,Vz,B]
theorem Q3t {f:MF} {mo:ME} {mr:ML} {Γ:Gam} {S S1 j q:Q0} {p v:PV} {xs ps:List PV} (h1:mo Γ S=.ok p S1) (h2:Q0i S1 p=some xs) (B:mr Γ S1=.ok ps j) (z:f j p ps=.ok v q):W1 (mBM f mo mr) Γ S=.nx Γ q:=by
 rw [Q88,Qwp,h1,Qn];simp only [h2];rw [B,Qn,z,Vz]
theorem jr {m:ME} {Γ:Gam} {S S1:Q0} {v:PV} (h:m Γ S=.ok v S1):W1 m Γ S=.nx Γ S1:=by rw [Q88,h]; rfl
theorem Qzg {a b:MT} {Γ:Gam} {S S1:Q0} (h:a Γ S=.ok true S1):Q1c a b Γ S=.ok true S1:=by rw [Qgj,h]; rfl
theorem Qbf {a b:MT} {Γ:Gam} {S S1:Q0} {r:Res Bool} (h:a Γ S=.ok false S1) (h2:b Γ S1=r):Q1c a b Γ S=r:=by rw [Qgj,h]; exact h2
theorem j8 {a b:MS} {Γ:Gam} {S S1:Q0} {v:PV} (h:a Γ S=.rt v S1):Qf a b Γ S=.rt v S1:=by rw [Qdp,h]
theorem Vx {mr:ML} {Γ:Gam} {S S1:Q0} {ps:List PV} (h1:mr Γ S=.ok ps S1) (h2:ps.length<=1000000):U8 mr Γ S=.ok (.tup ps) S1:=by rw [Qsj,h1,Qn]; exact bO h2
theorem Qpg {n:Nat} {F:FN} {mr:ML} {Γ:Gam} {S S1 j:Q0} {ps:List PV} {x:Exc} (h1:mr Γ S=.ok ps S1) (h2:ps.length=n) (q:F ps S1=.exc x j):Q9 n F mr Γ S=.exc x j:=by rw [Qae,h1,Qn,bO h2,q]
theorem Q53 {C:aA} {S:Q0} {i:Nat} {fs:List (Str × PV)} (h:S[i]?=some (.obj C fs)):Q30 C S (.ref i)=some (i,fs):=by
 unfold Q30;simp only [h,if_true]
theorem Kt {C:aA} {f:Str} {mo:ME} {Γ:Gam} {S:Q0} {i:Nat} {fs:List (Str × PV)} {q:PV} (h1:mo Γ S=.ok (.ref i) S) (h2:S[i]?=some (.obj C fs)) (j:fs.lookup f=some q):Wx C f mo Γ S=.ok q S:=by
 rw [Qsr,h1,Qn,Q53 h2];simp only [j]
theorem qe {C:aA} {f:Str} {mo m:ME} {Γ:Gam} {S S1:Q0} {i:Nat} {fs:List (Str × PV)} {p:PV} (h1:m Γ S=.ok p S1) (h2:mo Γ S1=.ok (.ref i) S1) (q:S1[i]?=some (.obj C fs)) (j:fs.length < 1000):yk C f mo m Γ S=.nx Γ (S1.set i (.obj C (yi f p fs))):=by
 rw [Qdq,h1,Vz,h2,Vz,Q53 q];exact bO j
theorem Qey {C:aA} {f:Str} {mo m:ME} {Γ:Gam} {S S1:Q0} {x:Exc} (h1:m Γ S=.exc x S1):yk C f mo m Γ S=.exc x S1:=by
 rw [Qdq,h1]; rfl
theorem jz {C:aA} {x:Str} {n:Nat} {F:FN} {mo:ME} {mr:ML} {Γ:Gam} {S S1:Q0} {i:Nat} {fs:List (Str × PV)} {ps:List PV} (h1:mo Γ S=.ok (.ref i) S) (h2:S[i]?=some (.obj C fs)) (z:fs.lookup x=none) (j:mr Γ S=.ok ps S1) (q:ps.length + 1=n):ym C x n F mo mr Γ S=F (.ref i :: ps) S1:=by
 rw [Qnf,h1,Qn,Q53 h2];simp only [z,if_true];rw [j,Qn,bO q]
def hsF (h:Nat) (now last:List (List Int)):List (Str × PV):=[("number",.int h),("now",Q4 now),("kept",Q4 last)]
theorem s1:((bT "now") == (bT "number"))=false:=by decide +kernel
theorem s2:((bT "kept") == (bT "number"))=false:=by decide +kernel
theorem s3:((bT "kept") == (bT "now"))=false:=by decide +kernel
theorem s1':¬ (bT "number" = bT "now"):=by decide +kernel
theorem s2':¬ (bT "number" = bT "kept"):=by decide +kernel
theorem s3':¬ (bT "now" = bT "kept"):=by decide +kernel
theorem Q2e (h:Nat) (a b:List (List Int)):(hsF h a b).lookup (bT "number")=some (.int h):=by unfold hsF; rw [E6,beq_self_eq_true]
theorem Q5f (h:Nat) (a b:List (List Int)):(hsF h a b).lookup (bT "now")=some (Q4 a):=by unfold hsF; rw [E6,s1,E6,beq_self_eq_true]
theorem Qh8 (h:Nat) (a b:List (List Int)):(hsF h a b).lookup (bT "kept")=some (Q4 b):=by unfold hsF; rw [E6,s2,E6,s3,E6,beq_self_eq_true]
theorem Q40 (h:Nat) (a b c:List (List Int)):yi "now" (Q4 c) (hsF h a b)=hsF h c b:=by
 unfold hsF;rw [yi,bP s1',yi,bO rfl]
theorem Qm9 (h:Nat) (a b c:List (List Int)):yi "kept" (Q4 c) (hsF h a b)=hsF h a c:=by
 unfold hsF;rw [yi,bP s2',yi,bP s3',yi,bO rfl]
theorem Q5g (h:Nat) (a b:List (List Int)):(hsF h a b).length < 1000:=by unfold hsF; simp
theorem zc {x:Str} (h1:(x == (bT "number"))=false) (h2:(x == (bT "now"))=false) (j:(x == (bT "kept"))=false) (h:Nat) (a b:List (List Int)):(hsF h a b).lookup x=none:=by
 unfold hsF;rw [E6,h1,E6,h2,E6,j]; rfl
def Q60 (C:aA) (S:Q0) (i n:Nat) (now last:List (List Int)) (d:Dd):Res PV:=if d.fits now=true then .ok .non (S.set i (.obj C (hsF d.h (d.put n now) last))) else .exc ⟨"Short",some ("had",.int (Qi now d.h))⟩ S
theorem Qsg {C:aA} {S:Q0} {i h n:Nat} {now last:List (List Int)} (j:S[i]?=some (.obj C (hsF h now last))) (w:Wt' n now) {k:Int} (o:(Dd.mk h k).ok n):Ue C [.ref i,.int k] S=Q60 C S i n now last (.mk h k):=by
 have e:=Qc6 w o S;have G:(Wx C "now" (Q2 0)) [some (.ref i),some (.int k)] S=.ok (Q4 now) S:=Kt rfl j (Q5f _ _ _);have B:(Wx C "number" (Q2 0)) [some (.ref i),some (.int k)] S=.ok (.int h) S:=Kt rfl j (Q2e _ _ _);have z:(Q1 (Wx C "now" (Q2 0)) (Q1 (U8 (Q1 (mC (.str "make")) (Q1 (Wx C "number" (Q2 0)) (Q1 (Q2 1) Q5)))) Q5)) [some (.ref i),some (.int k)] S=.ok [Q4 now,(Dd.mk h k).V] S:=Q3 G (Q3 (Vx (Q3 rfl (Q3 B rfl)) (by simp)) rfl);unfold Q60;show Yb (qm C) 2 _ S=_;unfold Yb;rw [show (([.ref i,.int k]:List PV).map some ++ bV (2 - [PV.ref i,.int k].length) none)=[some (.ref i),some (.int k)] from rfl];unfold qm
 by_cases q:(Dd.mk h k).fits now=true
 ·rw [bO q] at e ⊢;rw [qe (Qg (n:=2) z rfl e) rfl j (Q5g _ _ _),Q40]; rfl
 ·rw [bP q] at e ⊢;rw [Qey (Qpg (n:=2) z rfl e)]
theorem Qsv {C:aA} {S:Q0} {i h n:Nat} {now last:List (List Int)} (j:S[i]?=some (.obj C (hsF h now last))) (w:Wt' n now) {t:Nat} {k:Int} (o:(Dd.ld h t k).ok n):Uf C [.ref i,.int t,.int k] S=Q60 C S i n now last (.ld h t k):=by
 have e:=Qc6 w o S;have G:(Wx C "now" (Q2 0)) [some (.ref i),some (.int t),some (.int k)] S=.ok (Q4 now) S:=Kt rfl j (Q5f _ _ _);have B:(Wx C "number" (Q2 0)) [some (.ref i),some (.int t),some (.int k)] S=.ok (.int h) S:=Kt rfl j (Q2e _ _ _);have z:(Q1 (Wx C "now" (Q2 0)) (Q1 (U8 (Q1 (mC (.str "lend")) (Q1 (Wx C "number" (Q2 0)) (Q1 (Q2 1) (Q1 (Q2 2) Q5))))) Q5)) [some (.ref i),some (.int t),some (.int k)] S=.ok [Q4 now,(Dd.ld h t k).V] S:=Q3 G (Q3 (Vx (Q3 rfl (Q3 B rfl)) (by simp)) rfl);unfold Q60;show Yb (qp C) 3 _ S=_;unfold Yb;rw [show (([.ref i,.int t,.int k]:List PV).map some ++ bV (3 - [PV.ref i,.int t,.int k].length) none)=[some (.ref i),some (.int t),some (.int k)] from rfl];unfold qp
 by_cases q:(Dd.ld h t k).fits now=true
 ·rw [bO q] at e ⊢;rw [qe (Qg (n:=2) z rfl e) rfl j (Q5g _ _ _),Q40]; rfl
 ·rw [bP q] at e ⊢;rw [Qey (Qpg (n:=2) z rfl e)]
theorem Quj {C:aA} {S:Q0} {i h n:Nat} {now last:List (List Int)} (j:S[i]?=some (.obj C (hsF h now last))) (w:Wt' n now) {k:Int} (o:(Dd.us h k).ok n):X8 C [.ref i,.int k] S=Q60 C S i n now last (.us h k):=by
 have e:=Qc6 w o S;have G:(Wx C "now" (Q2 0)) [some (.ref i),some (.int k)] S=.ok (Q4 now) S:=Kt rfl j (Q5f _ _ _);have B:(Wx C "number" (Q2 0)) [some (.ref i),some (.int k)] S=.ok (.int h) S:=Kt rfl j (Q2e _ _ _);have z:(Q1 (Wx C "now" (Q2 0)) (Q1 (U8 (Q1 (mC (.str "use")) (Q1 (Wx C "number" (Q2 0)) (Q1 (Q2 1) Q5)))) Q5)) [some (.ref i),some (.int k)] S=.ok [Q4 now,(Dd.us h k).V] S:=Q3 G (Q3 (Vx (Q3 rfl (Q3 B rfl)) (by simp)) rfl);unfold Q60;show Yb (z8 C) 2 _ S=_;unfold Yb;rw [show (([.ref i,.int k]:List PV).map some ++ bV (2 - [PV.ref i,.int k].length) none)=[some (.ref i),some (.int k)] from rfl];unfold z8
 by_cases q:(Dd.us h k).fits now=true
 ·rw [bO q] at e ⊢;rw [qe (Qg (n:=2) z rfl e) rfl j (Q5g _ _ _),Q40]; rfl
 ·rw [bP q] at e ⊢;rw [Qey (Qpg (n:=2) z rfl e)]
theorem Qt0 {C:aA} {S:Q0} {i h:Nat} {now last:List (List Int)} (j:S[i]?=some (.obj C (hsF h now last))):Ug C [.ref i] S=.ok .non (S.set i (.obj C (hsF h now now))):=by
 show Yb (qq C) 1 _ S=_;unfold Yb qq;rw [show (([.ref i]:List PV).map some ++ bV (1 - [PV.ref i].length) none)=[some (.ref i)] from rfl,qe (Kt rfl j (Q5f _ _ _)) rfl j (Q5g _ _ _),Qm9]
theorem Qtb {C:aA} {S:Q0} {i h:Nat} {now last:List (List Int)} (j:S[i]?=some (.obj C (hsF h now last))):Uh C [.ref i] S=.ok .non (S.set i (.obj C (hsF h last last))):=by
 show Yb (qr C) 1 _ S=_;unfold Yb qr;rw [show (([.ref i]:List PV).map some ++ bV (1 - [PV.ref i].length) none)=[some (.ref i)] from rfl,qe (Kt rfl j (Qh8 _ _ _)) rfl j (Q5g _ _ _),Q40]
theorem Qc2 (S:Q0) (a:List (List Int)):fin S (Q4 a) S=.ok (Q4 a) S:=W2 (by simp [Jk,Q4,Qk])
theorem Qiy {C:aA} {S:Q0} {i h:Nat} {now last:List (List Int)} (j:S[i]?=some (.obj C (hsF h now last))):W4 C [.ref i] S=.ok (Q4 last) S:=by
 show Qh (Xf C) 1 _ S=_;unfold Qh Xf;rw [show (([.ref i]:List PV).map some ++ bV (1 - [PV.ref i].length) none)=[some (.ref i)] from rfl,Q49,Kt rfl j (Qh8 _ _ _)];exact Qc2 S last
theorem Qka {C:aA} {S:Q0} {i h:Nat} {now last:List (List Int)} (j:S[i]?=some (.obj C (hsF h now last))):Vb C [.ref i] S=.ok (Q4 now) S:=by
 show Qh (K6 C) 1 _ S=_;unfold Qh K6;rw [show (([.ref i]:List PV).map some ++ bV (1 - [PV.ref i].length) none)=[some (.ref i)] from rfl,Q49,Kt rfl j (Q5f _ _ _)];exact Qc2 S now
theorem Qtj {C:aA} {S:Q0} {i h n:Nat} {now last L:List (List Int)} (z:S[i]?=some (.obj C (hsF h now last))) (w:Wt' n now) (q:Wt' n L) (I:h < n) (B:Q5n (L.getD h []) (now.getD h [])=true):Ui C [.ref i,Q4 L] S=.ok .non (S.set i (.obj C (hsF h (Zf now L) last))):=by
 have h8:=w.n8;have j:lim=1000000:=rfl;have G:(Wx C "now" (Q2 0)) [some (.ref i),some (Q4 L)] S=.ok (Q4 now) S:=Kt rfl z (Q5f _ _ _);have J:(Wx C "number" (Q2 0)) [some (.ref i),some (Q4 L)] S=.ok (.int h) S:=Kt rfl z (Q2e _ _ _);have e1:=Qbn (a:=now) (b:=L) (by rw [w.len,q.len]) S;have O:L[h]?=some (L.getD h []):=getD_some (by rw [q.len]; exact I) [];have gN:now[h]?=some (now.getD h []):=getD_some (by rw [w.len]; exact I) [];have Z:oIx S (Q4 L) (.int h)=.ok (Qk (L.getD h [])) S:=by
  have:oIx S (Q4 L) (.int h)=okO S (atI (L.map Qk) (h:Int)):=rfl;rw [this,Ws,Sm.atI_get O]; rfl
 have U:oIx S (Q4 now) (.int h)=.ok (Qk (now.getD h [])) S:=by
  have:oIx S (Q4 now) (.int h)=okO S (atI (now.map Qk) (h:Int)):=rfl;rw [this,Ws,Sm.atI_get gN]; rfl
 have Y:∀ r∈now,r.length<=lim:=fun r B=>by rw [w.sz.2 r B,j]; omega
 have e2:=Q2z (L.getD h []) (now.getD h []) S (by rw [q.sz.2 _ (D4 O),j]; omega);rw [B] at e2;have e3:=Qj1 (a:=now) (b:=L) (by rw [w.len,q.len]) (by rw [w.len,j]; omega) Y S;have step:qt C [some (.ref i),some (Q4 L)] S=.nx [some (.ref i),some (Q4 L)] (S.set i (.obj C (yi "now" (Q4 (Zf now L)) (hsF h now last)))):=
  Qb (jr (Qg (n:=2) (Q3 G rfl) rfl e1)) (Qb (W0 (Q1p (Qq (Qg (n:=2) (Q3 (Q7 rfl J Z) (Q3 (Q7 G J U) rfl)) rfl e2))) rfl) (qe (Qg (n:=2) (Q3 G rfl) rfl e3) rfl z (Q5g _ _ _)))
 rw [Q40] at step;show Yb (qt C) 2 _ S=_;unfold Yb;rw [show (([.ref i,Q4 L]:List PV).map some ++ bV (2 - [PV.ref i,Q4 L].length) none)=[some (.ref i),some (Q4 L)] from rfl,step]
abbrev Tab:=List (List Int)
inductive Dx where
 | own (d:Dd)
 | kp (i:Nat)
 | fl (i:Nat)
 | sd (i:Nat)
 | cm (l i:Nat)
def Dx.V:Dx->PV
 | .own d=>d.V
 | .kp i=>.tup [.str "keep",.int i]
 | .fl i=>.tup [.str "fall",.int i]
 | .sd i=>.tup [.str "send",.int i]
 | .cm l i=>.tup [.str "come",.int l,.int i]
structure RS where
 now:List Tab
 last:List Tab
 le:List Tab
def Dx.ok (n:Nat) (s:RS):Dx->Prop
 | .own d=>d.ok n
 | .kp i=>i < n
 | .fl i=>i < n
 | .sd i=>i < n
 | .cm l i=>l < s.le.length/\i < n
def Jd (n:Nat) (s:RS):Dx->RS
 | .own d=>if d.fits (s.now.getD d.h [])=true then ⟨s.now.set d.h (d.put n (s.now.getD d.h [])),s.last,s.le⟩ else s
 | .kp i=>⟨s.now,s.last.set i (s.now.getD i []),s.le⟩
 | .fl i=>⟨s.now.set i (s.last.getD i []),s.last,s.le⟩
 | .sd i=>⟨s.now,s.last,s.le ++ [s.last.getD i []]⟩
 | .cm l i=>⟨s.now.set i (Zf (s.now.getD i []) (s.le.getD l [])),s.last,s.le⟩
def Q6c (s:RS):Dx->PV
 | .own d=>if d.fits (s.now.getD d.h [])=true then .str "done" else .int (Qi (s.now.getD d.h []) d.h)
 | _=>.str "done"
structure RI (n:Nat) (s:RS):Prop where
 ln:s.now.length=n
 ll:s.last.length=n
 wn:∀ i,i < n->Wt' n (s.now.getD i [])
 wl:∀ i,i < n->Wt' n (s.last.getD i [])
 we:∀ L∈s.le,Wt' n L
 up:∀ i j,i < n->j<=n->ent (s.last.getD i []) i j<=ent (s.now.getD i []) i j
 bn:∀ a i j,a < n->i < n->a≠i->j<=n->ent (s.now.getD a []) i j<=ent (s.last.getD i []) i j
 bl:∀ a i j,a < n->i < n->j<=n->ent (s.last.getD a []) i j<=ent (s.last.getD i []) i j
 be:∀ L∈s.le,∀ i j,i < n->j<=n->ent L i j<=ent (s.last.getD i []) i j
theorem J4 {α:Type} {xs:List α} {i:Nat} (hi:i < xs.length) (v d:α) (j:Nat):(xs.set i v).getD j d=if j=i then v else xs.getD j d:=by
 rw [F4,dn,F4]
 by_cases q:i=j
 ·subst q; rw [bO rfl,bO hi,bO rfl]; rfl
 ·rw [bP q,bP (fun z=>q z.symm)]
theorem Qm8 {n:Nat} {tb:Tab} (w:Wt' n tb) {d:Dd} (o:d.ok n):Wt' n (d.put n tb):=by
 unfold Dd.put Xw;refine Wt'.set0 w (Dd.ok_h o) ?_;have h1:=w.ent_nn (Dd.ok_h o) (Dd.ok_pl o);have h2:=Dd.ok_k o;omega
theorem Q6f {n:Nat} {tb:Tab} (w:Wt' n tb) {d:Dd} (o:d.ok n) (a b:Nat):ent tb a b<=ent (d.put n tb) a b/\(a≠d.h->ent (d.put n tb) a b=ent tb a b):=by
 unfold Dd.put;rw [Q0n w.sz (Dd.ok_h o) (Dd.ok_pl o)];have h2:=Dd.ok_k o;refine ⟨?_,fun h=>bP fun z=>h z.1⟩
 split
 ·rename_i z; rw [z.1,z.2]; omega
 ·exact bc _
theorem Qbz {n:Nat} {a b:Tab} (q:Wt' n a) (B:Wt' n b):Wt' n (Zf a b):=by
 refine Wt'.of_ent (Qqk q.sz B.sz) q.n1 q.n8 fun i j hi z=>?_
 rw [We q.sz B.sz hi z];exact bh (q.ent_nn hi z) (Q58 _ _)
theorem RI.step {n:Nat} {s:RS} (r:RI n s) {x:Dx} (o:x.ok n s):RI n (Jd n s x):=by
 cases x with
 | own d=>
  have J:=Dd.ok_h o;unfold Jd
  by_cases q:d.fits (s.now.getD d.h [])=true
  ·simp only [bO q];have w:=r.wn d.h J;have I:d.h < s.now.length:=by rw [r.ln]; exact J
   refine ⟨by simp only [D9]; exact r.ln,r.ll,fun i hi=>?_,r.wl,r.we,fun i j hi B=>?_,fun a i j O hi G B=>?_,r.bl,r.be⟩
   ·simp only [J4 I]
    split
    ·exact Qm8 w o
    ·exact r.wn i hi
   ·simp only [J4 I]
    split
    ·rename_i z; subst z;exact bh (r.up _ j hi B) (Q6f w o _ _).1
    ·exact r.up i j hi B
   ·simp only [J4 I]
    split
    ·rename_i z; subst z;rw [(Q6f w o i j).2 (fun z=>G z.symm)];exact r.bn _ i j O hi G B
    ·exact r.bn a i j O hi G B
  ·simp only [bP q]; exact r
 | kp U=>
  have J:U < n:=o;have I:U < s.last.length:=by rw [r.ll]; exact J
  refine ⟨r.ln,by simp only [Jd,D9]; exact r.ll,r.wn,fun i hi=>?_,r.we,fun i j hi B=>?_,fun a i j O hi G B=>?_,fun a i j O hi B=>?_,fun L Y i j hi B=>?_⟩
  ·simp only [Jd,J4 I]
   split
   ·exact r.wn U J
   ·exact r.wl i hi
  ·simp only [Jd,J4 I]
   split
   ·rename_i z; subst z; exact bc _
   ·exact r.up i j hi B
  ·simp only [Jd,J4 I]
   split
   ·rename_i z; subst z;exact bh (r.bn a i j O hi G B) (r.up i j hi B)
   ·exact r.bn a i j O hi G B
  ·simp only [Jd,J4 I];have Z:ent (s.last.getD a []) i j<=ent (s.last.getD i []) i j:=r.bl a i j O hi B
   split
   ·rename_i z; subst z
    split
    ·rename_i z2; subst z2; exact bc _
    ·rename_i z2;exact r.bn _ i j O hi (fun z=>z2 z.symm) B
   ·split
    ·rename_i z2; subst z2;exact bh Z (r.up _ j hi B)
    ·exact Z
  ·simp only [Jd,J4 I];have Z:=r.be L Y i j hi B
   split
   ·rename_i z; subst z;exact bh Z (r.up _ j hi B)
   ·exact Z
 | fl U=>
  have J:U < n:=o;have I:U < s.now.length:=by rw [r.ln]; exact J
  refine ⟨by simp only [Jd,D9]; exact r.ln,r.ll,fun i hi=>?_,r.wl,r.we,fun i j hi B=>?_,fun a i j O hi G B=>?_,r.bl,r.be⟩
  ·simp only [Jd,J4 I]
   split
   ·exact r.wl U J
   ·exact r.wn i hi
  ·simp only [Jd,J4 I]
   split
   ·rename_i z; subst z; exact bc _
   ·exact r.up i j hi B
  ·simp only [Jd,J4 I]
   split
   ·rename_i z; subst z; exact r.bl _ i j O hi B
   ·exact r.bn a i j O hi G B
 | sd U=>
  have J:U < n:=o;refine ⟨r.ln,r.ll,r.wn,r.wl,fun L Y=>?_,r.up,r.bn,r.bl,fun L Y i j hi B=>?_⟩
  ·rcases F6.mp Y with h | h
   ·exact r.we L h
   ·rw [cz.mp h]; exact r.wl U J
  ·rcases F6.mp Y with h | h
   ·exact r.be L h i j hi B
   ·rw [cz.mp h]; exact r.bl U i j J hi B
 | cm l U=>
  obtain ⟨a2,J⟩:=o;have I:U < s.now.length:=by rw [r.ln]; exact J
  have Y:s.le.getD l []∈s.le:=D4 (getD_some a2 []);have wL:=r.we _ Y;have wN:=r.wn U J;refine ⟨by simp only [Jd,D9]; exact r.ln,r.ll,fun i hi=>?_,r.wl,r.we,fun i j hi B=>?_,fun a i j O hi G B=>?_,r.bl,r.be⟩
  ·simp only [Jd,J4 I]
   split
   ·exact Qbz wN wL
   ·exact r.wn i hi
  ·simp only [Jd,J4 I]
   split
   ·rename_i z; subst z;rw [We wN.sz wL.sz hi B];exact bh (r.up _ j hi B) (Q58 _ _)
   ·exact r.up i j hi B
  ·simp only [Jd,J4 I]
   split
   ·rename_i z; subst z;rw [We wN.sz wL.sz hi B];have Z:=r.bn _ i j O hi G B;have b2:=r.be _ Y i j hi B;rcases Qbq (ent (s.now.getD a []) i j) (ent (s.le.getD l []) i j) with e | e
    ·rw [e]; exact Z
    ·rw [e]; exact b2
   ·exact r.bn a i j O hi G B
theorem RI.row {n:Nat} {s:RS} (r:RI n s) {L:Tab} (I:L∈s.le) {i:Nat} (hi:i < n):Q5n (L.getD i []) ((s.now.getD i []).getD i [])=true:=by
 unfold Q5n;rw [F9];intro z hz;obtain ⟨j,B⟩:=List.mem_iff_getElem?.mp hz;rw [cx] at B;have J:=r.we L I;have U:=r.wn i hi;have O:L[i]?=some (L.getD i []):=getD_some (by rw [J.len]; exact hi) [];have Y:=J.row _ (D4 O);have q:j<=n:=by have:=(O0.mp B.1).1; omega
 have G:=bh (r.be L I i j hi q) (r.up i j hi q);unfold ent at G;rw [F4,B.1,F4,B.2] at G;simpa using G
theorem Q4e (S:Q0) (a:Str):oEq S (.str a) (.str a)=.ok (.bl true) S:=by simp
theorem qc {a b:Str} (S:Q0) (h:¬ a=b):oEq S (.str a) (.str b)=.ok (.bl false) S:=by simp [h]
theorem Z2:¬ (bT "make" = bT "lend"):=by decide +kernel
theorem Zx:¬ (bT "make" = bT "use"):=by decide +kernel
theorem Jp:¬ (bT "make" = bT "keep"):=by decide +kernel
theorem Jq:¬ (bT "make" = bT "fall"):=by decide +kernel
theorem Jn:¬ (bT "make" = bT "send"):=by decide +kernel
theorem Jr:¬ (bT "make" = bT "come"):=by decide +kernel
theorem Ja:¬ (bT "lend" = bT "make"):=by decide +kernel
theorem Zp:¬ (bT "lend" = bT "use"):=by decide +kernel
theorem Jt:¬ (bT "lend" = bT "keep"):=by decide +kernel
theorem Ju:¬ (bT "lend" = bT "fall"):=by decide +kernel
theorem Js:¬ (bT "lend" = bT "send"):=by decide +kernel
theorem Jv:¬ (bT "lend" = bT "come"):=by decide +kernel
theorem Jw:¬ (bT "use" = bT "make"):=by decide +kernel
theorem Zj:¬ (bT "use" = bT "lend"):=by decide +kernel
theorem Zk:¬ (bT "use" = bT "keep"):=by decide +kernel
theorem Zm:¬ (bT "use" = bT "fall"):=by decide +kernel
theorem Zi:¬ (bT "use" = bT "send"):=by decide +kernel
theorem Zn:¬ (bT "use" = bT "come"):=by decide +kernel
theorem Z4:¬ (bT "keep" = bT "make"):=by decide +kernel
theorem Z5:¬ (bT "keep" = bT "lend"):=by decide +kernel
theorem Zy:¬ (bT "keep" = bT "use"):=by decide +kernel
theorem Z6:¬ (bT "keep" = bT "fall"):=by decide +kernel
theorem Z3:¬ (bT "keep" = bT "send"):=by decide +kernel
theorem Z7:¬ (bT "keep" = bT "come"):=by decide +kernel
theorem Z9:¬ (bT "fall" = bT "make"):=by decide +kernel
theorem Za:¬ (bT "fall" = bT "lend"):=by decide +kernel
theorem Zz:¬ (bT "fall" = bT "use"):=by decide +kernel
theorem Jg:¬ (bT "fall" = bT "keep"):=by decide +kernel
theorem Z8:¬ (bT "fall" = bT "send"):=by decide +kernel
theorem Zb:¬ (bT "fall" = bT "come"):=by decide +kernel
theorem Jz:¬ (bT "send" = bT "make"):=by decide +kernel
theorem Z0:¬ (bT "send" = bT "lend"):=by decide +kernel
theorem Zw:¬ (bT "send" = bT "use"):=by decide +kernel
theorem Je:¬ (bT "send" = bT "keep"):=by decide +kernel
theorem Jf:¬ (bT "send" = bT "fall"):=by decide +kernel
theorem Z1:¬ (bT "send" = bT "come"):=by decide +kernel
theorem Zc:¬ (bT "come" = bT "make"):=by decide +kernel
theorem Zd:¬ (bT "come" = bT "lend"):=by decide +kernel
theorem Y0:¬ (bT "come" = bT "use"):=by decide +kernel
theorem Ji:¬ (bT "come" = bT "keep"):=by decide +kernel
theorem Jj:¬ (bT "come" = bT "fall"):=by decide +kernel
theorem Jh:¬ (bT "come" = bT "send"):=by decide +kernel
theorem js (S:Q0) (k:Int):oEq S (.int k) .non=.ok (.bl false) S:=rfl
def Dx.oth:Dx->Bool
 | .own _=>false
 | _=>true
theorem Qd5 (x:Dx) (S:Q0):Qz [x.V] S=.ok (.bl x.oth) S:=by
 cases x with
 | own d=>
  cases d with
  | mk h k=>
   have t:Qe [.tup [.str "make",.int h,.int k]] S=.ok (.bl true) S:=Vj "make" [h,k] (by simp) S;have a0:atI [PV.str "make",.int h,.int k] 0=some (.str "make"):=rfl;unfold Dx.V Dd.V Dx.oth;simp -implicitDefEqProofs [Qz,Qh,Zv,qv,js,t,a0,Z2,Zx,Jp,Jq,Jn,Jr,Ja,Zp,Jt,Ju,Js,Jv,Jw,Zj,Zk,Zm,Zi,Zn,Z4,Z5,Zy,Z6,Z3,Z7,Z9,Za,Zz,Jg,Z8,Zb,Jz,Z0,Zw,Je,Jf,Z1,Zc,Zd,Y0,Ji,Jj,Jh]
  | ld h q k=>
   have t:Qe [.tup [.str "lend",.int h,.int q,.int k]] S=.ok (.bl true) S:=Vj "lend" [h,q,k] (by simp) S;have a0:atI [PV.str "lend",.int h,.int q,.int k] 0=some (.str "lend"):=rfl;unfold Dx.V Dd.V Dx.oth;simp -implicitDefEqProofs [Qz,Qh,Zv,qv,js,t,a0,Z2,Zx,Jp,Jq,Jn,Jr,Ja,Zp,Jt,Ju,Js,Jv,Jw,Zj,Zk,Zm,Zi,Zn,Z4,Z5,Zy,Z6,Z3,Z7,Z9,Za,Zz,Jg,Z8,Zb,Jz,Z0,Zw,Je,Jf,Z1,Zc,Zd,Y0,Ji,Jj,Jh]
  | us h k=>
   have t:Qe [.tup [.str "use",.int h,.int k]] S=.ok (.bl true) S:=Vj "use" [h,k] (by simp) S;have a0:atI [PV.str "use",.int h,.int k] 0=some (.str "use"):=rfl;unfold Dx.V Dd.V Dx.oth;simp -implicitDefEqProofs [Qz,Qh,Zv,qv,js,t,a0,Z2,Zx,Jp,Jq,Jn,Jr,Ja,Zp,Jt,Ju,Js,Jv,Jw,Zj,Zk,Zm,Zi,Zn,Z4,Z5,Zy,Z6,Z3,Z7,Z9,Za,Zz,Jg,Z8,Zb,Jz,Z0,Zw,Je,Jf,Z1,Zc,Zd,Y0,Ji,Jj,Jh]
 | kp i=>
  have t:Qe [.tup [.str "keep",.int i]] S=.ok (.bl true) S:=Vj "keep" [i] (by simp) S;have a0:atI [PV.str "keep",.int i] 0=some (.str "keep"):=rfl;unfold Dx.V Dx.oth;simp -implicitDefEqProofs [Qz,Qh,Zv,qv,js,t,a0,Z2,Zx,Jp,Jq,Jn,Jr,Ja,Zp,Jt,Ju,Js,Jv,Jw,Zj,Zk,Zm,Zi,Zn,Z4,Z5,Zy,Z6,Z3,Z7,Z9,Za,Zz,Jg,Z8,Zb,Jz,Z0,Zw,Je,Jf,Z1,Zc,Zd,Y0,Ji,Jj,Jh]
 | fl i=>
  have t:Qe [.tup [.str "fall",.int i]] S=.ok (.bl true) S:=Vj "fall" [i] (by simp) S;have a0:atI [PV.str "fall",.int i] 0=some (.str "fall"):=rfl;unfold Dx.V Dx.oth;simp -implicitDefEqProofs [Qz,Qh,Zv,qv,js,t,a0,Z2,Zx,Jp,Jq,Jn,Jr,Ja,Zp,Jt,Ju,Js,Jv,Jw,Zj,Zk,Zm,Zi,Zn,Z4,Z5,Zy,Z6,Z3,Z7,Z9,Za,Zz,Jg,Z8,Zb,Jz,Z0,Zw,Je,Jf,Z1,Zc,Zd,Y0,Ji,Jj,Jh]
 | sd i=>
  have t:Qe [.tup [.str "send",.int i]] S=.ok (.bl true) S:=Vj "send" [i] (by simp) S;have a0:atI [PV.str "send",.int i] 0=some (.str "send"):=rfl;unfold Dx.V Dx.oth;simp -implicitDefEqProofs [Qz,Qh,Zv,qv,js,t,a0,Z2,Zx,Jp,Jq,Jn,Jr,Ja,Zp,Jt,Ju,Js,Jv,Jw,Zj,Zk,Zm,Zi,Zn,Z4,Z5,Zy,Z6,Z3,Z7,Z9,Za,Zz,Jg,Z8,Zb,Jz,Z0,Zw,Je,Jf,Z1,Zc,Zd,Y0,Ji,Jj,Jh]
 | cm l i=>
  have t:Qe [.tup [.str "come",.int l,.int i]] S=.ok (.bl true) S:=Vj "come" [l,i] (by simp) S;have a0:atI [PV.str "come",.int l,.int i] 0=some (.str "come"):=rfl;unfold Dx.V Dx.oth;simp -implicitDefEqProofs [Qz,Qh,Zv,qv,js,t,a0,Z2,Zx,Jp,Jq,Jn,Jr,Ja,Zp,Jt,Ju,Js,Jv,Jw,Zj,Zk,Zm,Zi,Zn,Z4,Z5,Zy,Z6,Z3,Z7,Z9,Za,Zz,Jg,Z8,Zb,Jz,Z0,Zw,Je,Jf,Z1,Zc,Zd,Y0,Ji,Jj,Jh]
theorem Q4h {x:Dx} (h:x.oth=true) (S:Q0):Yh [x.V] S=.ok (.bl false) S:=by
 cases x with
 | own d=>cases h
 | kp i=>
  have t:Qe [.tup [.str "keep",.int i]] S=.ok (.bl true) S:=Vj "keep" [i] (by simp) S;have a0:atI [PV.str "keep",.int i] 0=some (.str "keep"):=rfl;unfold Dx.V;simp -implicitDefEqProofs [Yh,Qh,U7,js,t,a0,Z2,Zx,Jp,Jq,Jn,Jr,Ja,Zp,Jt,Ju,Js,Jv,Jw,Zj,Zk,Zm,Zi,Zn,Z4,Z5,Zy,Z6,Z3,Z7,Z9,Za,Zz,Jg,Z8,Zb,Jz,Z0,Zw,Je,Jf,Z1,Zc,Zd,Y0,Ji,Jj,Jh]
 | fl i=>
  have t:Qe [.tup [.str "fall",.int i]] S=.ok (.bl true) S:=Vj "fall" [i] (by simp) S;have a0:atI [PV.str "fall",.int i] 0=some (.str "fall"):=rfl;unfold Dx.V;simp -implicitDefEqProofs [Yh,Qh,U7,js,t,a0,Z2,Zx,Jp,Jq,Jn,Jr,Ja,Zp,Jt,Ju,Js,Jv,Jw,Zj,Zk,Zm,Zi,Zn,Z4,Z5,Zy,Z6,Z3,Z7,Z9,Za,Zz,Jg,Z8,Zb,Jz,Z0,Zw,Je,Jf,Z1,Zc,Zd,Y0,Ji,Jj,Jh]
 | sd i=>
  have t:Qe [.tup [.str "send",.int i]] S=.ok (.bl true) S:=Vj "send" [i] (by simp) S;have a0:atI [PV.str "send",.int i] 0=some (.str "send"):=rfl;unfold Dx.V;simp -implicitDefEqProofs [Yh,Qh,U7,js,t,a0,Z2,Zx,Jp,Jq,Jn,Jr,Ja,Zp,Jt,Ju,Js,Jv,Jw,Zj,Zk,Zm,Zi,Zn,Z4,Z5,Zy,Z6,Z3,Z7,Z9,Za,Zz,Jg,Z8,Zb,Jz,Z0,Zw,Je,Jf,Z1,Zc,Zd,Y0,Ji,Jj,Jh]
 | cm l i=>
  have t:Qe [.tup [.str "come",.int l,.int i]] S=.ok (.bl true) S:=Vj "come" [l,i] (by simp) S;have a0:atI [PV.str "come",.int l,.int i] 0=some (.str "come"):=rfl;unfold Dx.V;simp -implicitDefEqProofs [Yh,Qh,U7,js,t,a0,Z2,Zx,Jp,Jq,Jn,Jr,Ja,Zp,Jt,Ju,Js,Jv,Jw,Zj,Zk,Zm,Zi,Zn,Z4,Z5,Zy,Z6,Z3,Z7,Z9,Za,Zz,Jg,Z8,Zb,Jz,Z0,Zw,Je,Jf,Z1,Zc,Zd,Y0,Ji,Jj,Jh]
theorem Q20 {n i:Nat} {tb:Tab} (j:tb.length=n) (hi:i < n) (S:Q0):Jy [Q4 tb,.int i] S=.ok (.bl true) S:=by
 have:=Q1x (V:=Q4 tb) (n:=n) (st:=S) (by simp [Q4,j]) (i:Int);rw [show (decide ((0:Int)<=(i:Int)) && decide ((i:Int) < (n:Int)))=true by simp; omega] at this;exact this
theorem Qfj {n:Nat} {s:RS} {tb:Tab} (q:tb.length=n) {x:Dx} (o:x.ok n s) {S:Q0} {j:Nat} (z:S[j]?=some (.lst (s.le.map Q4))):J6 [Q4 tb,.ref j,x.V] S=.ok .non S:=by
 have ll:Zt S [.ref j]=.ok (.int s.le.length) S:=by
  have G:ListAt S (.ref j) (s.le.map Q4):=.inr (.inr ⟨j,rfl,z⟩);rw [G.len,O2]
 have e2:=Qd5 x S;cases x with
 | own d=>
  have e1:=Q8i o S;have e3:=Qdi q o S;clear e2;show J6 [Q4 tb,.ref j,d.V] S=_;generalize Q4 tb=T at *;generalize d.V=V at *;simp -implicitDefEqProofs [J6,Qh,Y1,e1,e3]
 | kp i=>
  have e1:=Q4h (x:=.kp i) rfl S;have e3:=Q20 q o S;have a0:atI [PV.str "keep",.int i] 0=some (.str "keep"):=rfl;have a1:atI [PV.str "keep",.int i] (-1)=some (.int i):=rfl;unfold Dx.V Dx.oth at *;generalize Q4 tb=T at *;simp -implicitDefEqProofs [J6,Qh,Y1,e1,e2,e3,a0,a1,Z2,Zx,Jp,Jq,Jn,Jr,Ja,Zp,Jt,Ju,Js,Jv,Jw,Zj,Zk,Zm,Zi,Zn,Z4,Z5,Zy,Z6,Z3,Z7,Z9,Za,Zz,Jg,Z8,Zb,Jz,Z0,Zw,Je,Jf,Z1,Zc,Zd,Y0,Ji,Jj,Jh]
 | fl i=>
  have e1:=Q4h (x:=.fl i) rfl S;have e3:=Q20 q o S;have a0:atI [PV.str "fall",.int i] 0=some (.str "fall"):=rfl;have a1:atI [PV.str "fall",.int i] (-1)=some (.int i):=rfl;unfold Dx.V Dx.oth at *;generalize Q4 tb=T at *;simp -implicitDefEqProofs [J6,Qh,Y1,e1,e2,e3,a0,a1,Z2,Zx,Jp,Jq,Jn,Jr,Ja,Zp,Jt,Ju,Js,Jv,Jw,Zj,Zk,Zm,Zi,Zn,Z4,Z5,Zy,Z6,Z3,Z7,Z9,Za,Zz,Jg,Z8,Zb,Jz,Z0,Zw,Je,Jf,Z1,Zc,Zd,Y0,Ji,Jj,Jh]
 | sd i=>
  have e1:=Q4h (x:=.sd i) rfl S;have e3:=Q20 q o S;have a0:atI [PV.str "send",.int i] 0=some (.str "send"):=rfl;have a1:atI [PV.str "send",.int i] (-1)=some (.int i):=rfl;unfold Dx.V Dx.oth at *;generalize Q4 tb=T at *;simp -implicitDefEqProofs [J6,Qh,Y1,e1,e2,e3,a0,a1,Z2,Zx,Jp,Jq,Jn,Jr,Ja,Zp,Jt,Ju,Js,Jv,Jw,Zj,Zk,Zm,Zi,Zn,Z4,Z5,Zy,Z6,Z3,Z7,Z9,Za,Zz,Jg,Z8,Zb,Jz,Z0,Zw,Je,Jf,Z1,Zc,Zd,Y0,Ji,Jj,Jh]
 | cm l i=>
  have e1:=Q4h (x:=.cm l i) rfl S;have e3:=Q20 q o.2 S;have a0:atI [PV.str "come",.int l,.int i] 0=some (.str "come"):=rfl;have a1:atI [PV.str "come",.int l,.int i] (-1)=some (.int i):=rfl;have I:atI [PV.str "come",.int l,.int i] 1=some (.int l):=rfl;have B:l < s.le.length:=o.1;unfold Dx.V Dx.oth at *;generalize Q4 tb=T at *;generalize s.le.length=nl at *;simp -implicitDefEqProofs [J6,Qh,Y1,e1,e2,e3,a0,a1,I,ll,B,-Qpr,Z2,Zx,Jp,Jq,Jn,Jr,Ja,Zp,Jt,Ju,Js,Jv,Jw,Zj,Zk,Zm,Zi,Zn,Z4,Z5,Zy,Z6,Z3,Z7,Z9,Za,Zz,Jg,Z8,Zb,Jz,Z0,Zw,Je,Jf,Z1,Zc,Zd,Y0,Ji,Jj,Jh]
theorem Q24 {m:MS} {nl:Nat} {ps:List PV} {S q:Q0} {j:Gam} (h:m (ps.map some ++ bV (nl - ps.length) none) S=.nx j q):Yb m nl ps S=.ok .non q:=by unfold Yb; rw [h]
theorem ju {m:MS} {nl:Nat} {ps:List PV} {S j:Q0} {v:PV} (h:m (ps.map some ++ bV (nl - ps.length) none) S=.rt v j):Yb m nl ps S=.ok v j:=by unfold Yb; rw [h]
theorem Jm {m:MS} {nl:Nat} {ps:List PV} {S j:Q0} {v:PV} (h:m (ps.map some ++ bV (nl - ps.length) none) S=.rt v j):Qh m nl ps S=fin S v j:=by unfold Qh; rw [h]
def hsV (B n:Nat):PV:=.lst ((bS n).map fun i=>.ref (B + i))
structure HsAt (C:aA) (B n:Nat) (s:RS) (S:Q0):Prop where
 at_:∀ i,i < n->S[B + i]?=some (.obj C (hsF i (s.now.getD i []) (s.last.getD i [])))
theorem Qe1 {B n i:Nat} (hi:i < n) (S:Q0):oIx S (hsV B n) (.int i)=.ok (.ref (B + i)) S:=by
 have:oIx S (hsV B n) (.int i)=okO S (atI ((bS n).map fun i=>PV.ref (B + i)) (i:Int)):=rfl
 rw [this,Ws,Sm.atI_get (show (bS n)[i]?=some i by rw [E4 hi])]; rfl
def Qs1 (C:aA) (S:Q0) (i n:Nat) (now last:Tab) (d:Dd) (Γ:Gam):SR:=if d.fits now=true then .nx Γ (S.set i (.obj C (hsF d.h (d.put n now) last))) else .exc ⟨"Short",some ("had",.int (Qi now d.h))⟩ S
theorem Qc3 {C:aA} {S:Q0} {i n:Nat} {now last:Tab} {d:Dd} {m:ME} {Γ:Gam} (h:m Γ S=Q60 C S i n now last d):W1 m Γ S=Qs1 C S i n now last d Γ:=by
 rw [Q88,h];unfold Q60 Qs1
 split <;> rfl
theorem Qjn {C:aA} {S:Q0} {i n nl:Nat} {now last:Tab} {d:Dd} {m:MS} {ps:List PV} {Γ:Gam} (h:m (ps.map some ++ bV (nl - ps.length) none) S=Qs1 C S i n now last d Γ):Yb m nl ps S=Q60 C S i n now last d:=by
 unfold Yb;rw [h];unfold Q60 Qs1
 by_cases q:d.fits now=true
 ·rw [bO q,bO q]
 ·rw [bP q,bP q]
theorem Qp5 {C:aA} {B n:Nat} {s:RS} {S:Q0} (A:HsAt C B n s S) (r:RI n s) {d:Dd} (o:d.ok n):Yx C [hsV B n,d.V] S=Q60 C S (B + d.h) n (s.now.getD d.h []) (s.last.getD d.h []) d:=by
 have q:=Dd.ok_h o;have w:=r.wn d.h q;have j:=A.at_ d.h q;have ix:=Qe1 (B:=B) q S;refine Qjn (Γ:=[some (hsV B n),some d.V,some (.ref (B + d.h))]) ?_;show zt C [some (hsV B n),some d.V,none] S=_;refine Qb (Γ1:=[some (hsV B n),some d.V,some (.ref (B + d.h))]) (Qr (Q7 rfl (Q7 rfl rfl (Dd.a1 d S)) ix)) ?_;cases d with
 | mk h k=>
  refine y6 (Qq (Q7 (Q7 rfl rfl rfl) rfl (Q4e S _))) (Qc3 ?_);exact (jz (i:=B + h) rfl j (zc (by decide +kernel) (by decide +kernel) (by decide +kernel) _ _ _) (ps:=[.int k]) (S1:=S) (Q3 (Q7 rfl rfl rfl) rfl) rfl).trans (Qsg j w o)
 | ld h t k=>
  refine W0 (Qq (Q7 (Q7 rfl rfl rfl) rfl (qc S Ja))) (y6 (Qq (Q7 (Q7 rfl rfl rfl) rfl (Q4e S _))) (Qc3 ?_));exact (jz (i:=B + h) rfl j (zc (by decide +kernel) (by decide +kernel) (by decide +kernel) _ _ _) (ps:=[.int t,.int k]) (S1:=S) (Q3 (Q7 rfl rfl rfl) (Q3 (Q7 rfl rfl rfl) rfl)) rfl).trans (Qsv j w o)
 | us h k=>
  refine W0 (Qq (Q7 (Q7 rfl rfl rfl) rfl (qc S Jw))) (W0 (Qq (Q7 (Q7 rfl rfl rfl) rfl (qc S Zj))) (Qc3 ?_));exact (jz (i:=B + h) rfl j (zc (by decide +kernel) (by decide +kernel) (by decide +kernel) _ _ _) (ps:=[.int k]) (S1:=S) (Q3 (Q7 rfl rfl rfl) rfl) rfl).trans (Quj j w o)
def Q2u (C:aA) (B Lr n:Nat) (s:RS) (S:Q0):Dx->Q0
 | .own d=>if d.fits (s.now.getD d.h [])=true then S.set (B + d.h) (.obj C (hsF d.h (d.put n (s.now.getD d.h [])) (s.last.getD d.h []))) else S
 | .kp i=>S.set (B + i) (.obj C (hsF i (s.now.getD i []) (s.now.getD i [])))
 | .fl i=>S.set (B + i) (.obj C (hsF i (s.last.getD i []) (s.last.getD i [])))
 | .sd i=>S.set Lr (.lst (s.le.map Q4 ++ [Q4 (s.last.getD i [])]))
 | .cm l i=>S.set (B + i) (.obj C (hsF i (Zf (s.now.getD i []) (s.le.getD l [])) (s.last.getD i [])))
theorem Q2n {S:Q0} {L:Nat} {xs:List PV} (h:S[L]?=some (.lst xs)) (j:xs.length < 1000000) (y:PV):Wv S (.ref L) [y]=.ok .non (S.set L (.lst (xs ++ [y]))):=by
 simp only [Wv,chg,h];rw [bO (show xs.length < lim from j)]
theorem Qg5 {C:aA} {B j n:Nat} {s:RS} {S:Q0} (A:HsAt C B n s S) (G:S[j]?=some (.lst (s.le.map Q4))) (Y:s.le.length < 100000) (r:RI n s) {x:Dx} (o:x.ok n s) (J:x.oth=true):V3 C [hsV B n,.ref j,x.V] S=.ok .non (Q2u C B j n s S x):=by
 have U:ListAt S (.ref j) (s.le.map Q4):=.inr (.inr ⟨j,rfl,G⟩);cases x with
 | own d=>cases J
 | kp i=>
  have hi:i < n:=o;have q:=A.at_ i hi;have st:W6 C [some (hsV B n),some (.ref j),some (Dx.kp i).V,none] S=.nx [some (hsV B n),some (.ref j),some (Dx.kp i).V,some (.ref (B + i))] (Q2u C B j n s S (.kp i)):=
   Qb (Qr (Q7 rfl (Q7 rfl rfl rfl) (Qe1 hi S))) (y6 (Qq (Q7 (Q7 rfl rfl rfl) rfl (Q4e S _))) (jr ((jz (i:=B + i) rfl q (zc (by decide +kernel) (by decide +kernel) (by decide +kernel) _ _ _) (ps:=[]) (S1:=S) rfl rfl).trans (Qt0 q))))
  exact Q24 st
 | fl i=>
  have hi:i < n:=o;have q:=A.at_ i hi;have st:W6 C [some (hsV B n),some (.ref j),some (Dx.fl i).V,none] S=.nx [some (hsV B n),some (.ref j),some (Dx.fl i).V,some (.ref (B + i))] (Q2u C B j n s S (.fl i)):=
   Qb (Qr (Q7 rfl (Q7 rfl rfl rfl) (Qe1 hi S))) (W0 (Qq (Q7 (Q7 rfl rfl rfl) rfl (qc S Jg))) (y6 (Qq (Q7 (Q7 rfl rfl rfl) rfl (Q4e S _))) (jr ((jz (i:=B + i) rfl q (zc (by decide +kernel) (by decide +kernel) (by decide +kernel) _ _ _) (ps:=[]) (S1:=S) rfl rfl).trans (Qtb q)))))
  exact Q24 st
 | sd i=>
  have hi:i < n:=o;have q:=A.at_ i hi;have lt:ym C "letter" 1 (W4 C) (Q2 3) Q5 [some (hsV B n),some (.ref j),some (Dx.sd i).V,some (.ref (B + i))] S=.ok (Q4 (s.last.getD i [])) S:=(jz (i:=B + i) rfl q (zc (by decide +kernel) (by decide +kernel) (by decide +kernel) _ _ _) (ps:=[]) (S1:=S) rfl rfl).trans (Qiy q);have st:W6 C [some (hsV B n),some (.ref j),some (Dx.sd i).V,none] S=.nx [some (hsV B n),some (.ref j),some (Dx.sd i).V,some (.ref (B + i))] (Q2u C B j n s S (.sd i)):=
   Qb (Qr (Q7 rfl (Q7 rfl rfl rfl) (Qe1 hi S))) (W0 (Qq (Q7 (Q7 rfl rfl rfl) rfl (qc S Je))) (W0 (Qq (Q7 (Q7 rfl rfl rfl) rfl (qc S Jf))) (y6 (Qq (Q7 (Q7 rfl rfl rfl) rfl (Q4e S _)))
    (Q3t (p:=.ref j) rfl (W7 G) (Q3 lt rfl) (Q2n G (by rw [O2]; omega) _)))))
  exact Q24 st
 | cm l i=>
  obtain ⟨z,hi⟩:=o;have q:=A.at_ i hi;have I:s.le.getD l []∈s.le:=D4 (getD_some z []);have O:oIx S (.ref j) (.int l)=.ok (Q4 (s.le.getD l [])) S:=by
   rw [U.ix,Ws,Sm.atI_get (getD_some z [])]; rfl
  have st:W6 C [some (hsV B n),some (.ref j),some (Dx.cm l i).V,none] S=.nx [some (hsV B n),some (.ref j),some (Dx.cm l i).V,some (.ref (B + i))] (Q2u C B j n s S (.cm l i)):=
   Qb (Qr (Q7 rfl (Q7 rfl rfl rfl) (Qe1 hi S))) (W0 (Qq (Q7 (Q7 rfl rfl rfl) rfl (qc S Ji))) (W0 (Qq (Q7 (Q7 rfl rfl rfl) rfl (qc S Jj))) (W0 (Qq (Q7 (Q7 rfl rfl rfl) rfl (qc S Jh)))
    (jr ((jz (i:=B + i) rfl q (zc (by decide +kernel) (by decide +kernel) (by decide +kernel) _ _ _) (ps:=[Q4 (s.le.getD l [])]) (S1:=S) (Q3 (Q7 rfl (Q7 rfl rfl rfl) O) rfl) rfl).trans (Qtj q (r.wn i hi) (r.we _ I) hi (r.row I hi)))))))
  exact Q24 st
theorem Qjv {C:aA} {B j n:Nat} {s:RS} {S:Q0} (A:HsAt C B n s S) (J:S[j]?=some (.lst (s.le.map Q4))) (O:s.le.length < 100000) (r:RI n s) {x:Dx} (o:x.ok n s):zf C [hsV B n,.ref j,x.V] S=.ok (Q6c s x) (Q2u C B j n s S x):=by
 have e1:(toB (Q9 1 Qz (Q1 (Q2 2) Q5))) [some (hsV B n),some (.ref j),some x.V,none] S=.ok x.oth S:=Qq (Qg (n:=1) (Q3 rfl rfl) rfl (Qd5 x S));cases G:x.oth with
 | true=>
  rw [G] at e1;have st:Kc C [some (hsV B n),some (.ref j),some x.V,none] S=.rt (.str "done") (Q2u C B j n s S x):=j8 (y6 e1 (Qb (jr (Qg (n:=3) (Q3 rfl (Q3 rfl (Q3 rfl rfl))) rfl (Qg5 A J O r o G))) rfl));refine (ju st).trans ?_;cases x with
  | own d=>cases G
  | _=>rfl
 | false=>
  rw [G] at e1;cases x with
  | own d=>
   have e2:=Qp5 A r (d:=d) o;have e3:Qdn "Short" "had" 3 2 (Yx C) (Q1 (Q2 0) (Q1 (Q2 2) Q5)) [some (hsV B n),some (.ref j),some d.V,none] S=(match Yx C [hsV B n,d.V] S with
    | .ok _ I=>SR.nx [some (hsV B n),some (.ref j),some d.V,none] I
    | .exc x I=>if x.cls = "Short" then (match x.fs with | some (f,.int z)=>if f = "had" then .rt (.int z) I else .stuck | _=>.stuck) else .stuck
    | .stuck=>.stuck):=by
    rw [Qne,Q3 (m:=Q2 0) (p:=hsV B n) (S1:=S) rfl (Q3 (m:=Q2 2) (p:=d.V) (S1:=S) rfl (show Q5 _ S=.ok [] S from rfl)),Vz];exact bO ⟨rfl,show 3 < 4 by decide⟩
   rw [e2] at e3;unfold Q60 at e3
   by_cases q:d.fits (s.now.getD d.h [])=true
   ·rw [bO q] at e3;have st:Kc C [some (hsV B n),some (.ref j),some (Dx.own d).V,none] S=.rt (.str "done") (S.set (B + d.h) (.obj C (hsF d.h (d.put n (s.now.getD d.h [])) (s.last.getD d.h [])))):=Qb (W0 e1 rfl) (Qb e3 rfl);refine (ju st).trans ?_;unfold Q2u Q6c;simp only [bO q]
   ·rw [bP q] at e3;have e3:Qdn "Short" "had" 3 2 (Yx C) (Q1 (Q2 0) (Q1 (Q2 2) Q5)) [some (hsV B n),some (.ref j),some d.V,none] S=.rt (.int (Qi (s.now.getD d.h []) d.h)) S:=e3.trans (by simp);have st:Kc C [some (hsV B n),some (.ref j),some (Dx.own d).V,none] S=.rt (.int (Qi (s.now.getD d.h []) d.h)) S:=Qb (W0 e1 rfl) (j8 e3);refine (ju st).trans ?_;unfold Q2u Q6c;simp only [bP q]
  | kp i=>cases G
  | fl i=>cases G
  | sd i=>cases G
  | cm l i=>cases G
theorem Qvz {C:aA} {B j n:Nat} {s:RS} {S:Q0} (A:HsAt C B n s S) (J:S[j]?=some (.lst (s.le.map Q4))) (a3:B + n<=j) (r:RI n s) {x:Dx} (o:x.ok n s):HsAt C B n (Jd n s x) (Q2u C B j n s S x)/\(Q2u C B j n s S x)[j]?=some (.lst ((Jd n s x).le.map Q4))/\(∀ t,(t < B\/j < t)->(Q2u C B j n s S x)[t]?=S[t]?)/\(Q2u C B j n s S x).length=S.length:=by
 have I:∀ (h:Nat) (a b:Tab),h < n->∀ s':RS,s'.le=s.le->(∀ i,i < n->s'.now.getD i []=if i=h then a else s.now.getD i [])->(∀ i,i < n->s'.last.getD i []=if i=h then b else s.last.getD i []) ->
   HsAt C B n s' (S.set (B + h) (.obj C (hsF h a b)))/\(S.set (B + h) (.obj C (hsF h a b)))[j]?=some (.lst (s'.le.map Q4))/\(∀ t,(t < B\/j < t)->(S.set (B + h) (.obj C (hsF h a b)))[t]?=S[t]?)/\(S.set (B + h) (.obj C (hsF h a b))).length=S.length:=by
  intro h a b G s' e1 e2 e3;have U:=(O0.mp (A.at_ h G)).1;refine ⟨⟨fun i hi=>?_⟩,?_,fun t Z=>?_,D9⟩
  ·by_cases q:i=h
   ·subst q;rw [E7 U,e2 i hi,e3 i hi,bO rfl,bO rfl]
   ·rw [O9 (by omega),A.at_ i hi,e2 i hi,e3 i hi,bP q,bP q]
  ·rw [O9 (by omega),J,e1]
  ·rw [O9 (by omega)]
 cases x with
 | own d=>
  have G:=Dd.ok_h o
  by_cases q:d.fits (s.now.getD d.h [])=true
  ·have Y:Q2u C B j n s S (.own d)=S.set (B + d.h) (.obj C (hsF d.h (d.put n (s.now.getD d.h [])) (s.last.getD d.h []))):=bO q;have O:Jd n s (.own d)=⟨s.now.set d.h (d.put n (s.now.getD d.h [])),s.last,s.le⟩:=bO q;rw [Y,O];refine I d.h _ _ G _ rfl (fun i hi=>?_) (fun i hi=>?_)
   ·exact J4 (by rw [r.ln]; exact G) _ _ _
   ·split
    ·rename_i z; rw [z]
    ·rfl
  ·have Y:Q2u C B j n s S (.own d)=S:=bP q;have O:Jd n s (.own d)=s:=bP q;rw [Y,O];exact ⟨A,J,fun _ _=>rfl,rfl⟩
 | kp h=>
  have G:h < n:=o;refine I h _ _ G _ rfl (fun i hi=>?_) (fun i hi=>?_)
  ·split
   ·rename_i z; rw [z]; rfl
   ·rfl
  ·exact J4 (by rw [r.ll]; exact G) _ _ _
 | fl h=>
  have G:h < n:=o;refine I h _ _ G _ rfl (fun i hi=>?_) (fun i hi=>?_)
  ·exact J4 (by rw [r.ln]; exact G) _ _ _
  ·split
   ·rename_i z; rw [z]; rfl
   ·rfl
 | sd h=>
  have G:h < n:=o;have U:=(O0.mp J).1;refine ⟨⟨fun i hi=>?_⟩,?_,fun t Z=>?_,D9⟩
  ·show (S.set j _)[B + i]?=_;rw [O9 (by omega)];exact A.at_ i hi
  ·show (S.set j _)[j]?=some (.lst ((s.le ++ [s.last.getD h []]).map Q4));rw [E7 U,F0]; rfl
  ·show (S.set j _)[t]?=_;rw [O9 (by omega)]
 | cm l h=>
  obtain ⟨a2,G⟩:=o;refine I h _ _ G _ rfl (fun i hi=>?_) (fun i hi=>?_)
  ·exact J4 (by rw [r.ln]; exact G) _ _ _
  ·split
   ·rename_i z; rw [z]; rfl
   ·rfl
theorem Q31 {n:Nat} {tb:List (List Int)} (w:Wt' n tb) (c:Ca n tb) (st:Q0):Zg [Q4 tb] st=.ok .non st:=by
 have e:=Qtf w st;rw [c.comes] at e;generalize Q4 tb=T at *;simp -implicitDefEqProofs [Zg,Qh,Uz,e]
def Zr (n:Nat):RS->List Dx->RS
 | s,[]=>s
 | s,x :: xs=>Zr n (Jd n s x) xs
def Q25 (n:Nat):RS->List Dx->List PV
 | _,[]=>[]
 | s,x :: xs=>Q6c s x :: Q25 n (Jd n s x) xs
def OkL (n:Nat):RS->List Dx->Prop
 | _,[]=>True
 | s,x :: xs=>x.ok n s/\OkL n (Jd n s x) xs
theorem qf (n:Nat):∀ (xs ys:List Dx) (s:RS),Zr n s (xs ++ ys)=Zr n (Zr n s xs) ys
 | [],_,_=>rfl
 | x :: xs,ys,s=>qf n xs ys (Jd n s x)
theorem Qce (n:Nat):∀ (xs ys:List Dx) (s:RS),Q25 n s (xs ++ ys)=Q25 n s xs ++ Q25 n (Zr n s xs) ys
 | [],_,_=>rfl
 | x :: xs,ys,s=>congrArg (Q6c s x :: ·) (Qce n xs ys (Jd n s x))
theorem qg (n:Nat):∀ (xs ys:List Dx) (s:RS),OkL n s (xs ++ ys) <-> OkL n s xs/\OkL n (Zr n s xs) ys
 | [],_,_=>⟨fun h=>⟨trivial,h⟩,fun h=>h.2⟩
 | x :: xs,ys,s=>by
  have j:=qg n xs ys (Jd n s x);exact ⟨fun h=>⟨⟨h.1,(j.mp h.2).1⟩,(j.mp h.2).2⟩,fun h=>⟨h.1.1,j.mpr ⟨h.1.2,h.2⟩⟩⟩
theorem RI.run {n:Nat}:∀ {xs:List Dx} {s:RS},RI n s->OkL n s xs->RI n (Zr n s xs)
 | [],_,r,_=>r
 | x :: xs,s,r,o=>RI.run (xs:=xs) (r.step o.1) o.2
theorem Qsw (n:Nat) (s:RS) (x:Dx):(Jd n s x).le.length<=s.le.length + 1:=by
 cases x with
 | own d=>
  show (if d.fits (s.now.getD d.h [])=true then (⟨s.now.set d.h (d.put n (s.now.getD d.h [])),s.last,s.le⟩:RS) else s).le.length<=_
  split <;> simp
 | sd i=>simp [Jd]
 | _=>simp [Jd]
theorem Qfz (n:Nat):∀ (xs:List Dx) (s:RS),(Zr n s xs).le.length<=s.le.length + xs.length
 | [],s=>O7 _
 | x :: xs,s=>by
  have h1:=Qfz n xs (Jd n s x);have h2:=Qsw n s x;simp only [Zr,D8];omega
theorem Qcd (n:Nat):∀ (xs:List Dx) (s:RS),(Q25 n s xs).length=xs.length
 | [],_=>rfl
 | x :: xs,s=>by simp only [Q25,D8,Qcd n xs]
def s0 (n:Nat) (tb:Tab):RS:=⟨bV n tb,bV n tb,[]⟩
theorem yh {n i:Nat} {tb:Tab} (hi:i < n):(bV n tb).getD i []=tb:=by
 rw [F4,G9,bO hi]; rfl
theorem RI.start {n:Nat} {tb:Tab} (w:Wt' n tb):RI n (s0 n tb):=by
 have e:∀ i,i < n->(bV n tb).getD i []=tb:=fun i hi=>yh hi
 refine ⟨da,da,fun i hi=>?_,fun i hi=>?_,fun L q=>absurd q cZ,fun i j hi B=>?_,fun a i j z hi G B=>?_,fun a i j z hi B=>?_,fun L q=>absurd q cZ⟩
 ·show Wt' n ((bV n tb).getD i []); rw [e i hi]; exact w
 ·show Wt' n ((bV n tb).getD i []); rw [e i hi]; exact w
 ·exact bc _
 ·show ent ((bV n tb).getD a []) i j<=ent ((bV n tb).getD i []) i j; rw [e i hi,e a z]; exact bc _
 ·show ent ((bV n tb).getD a []) i j<=ent ((bV n tb).getD i []) i j; rw [e i hi,e a z]; exact bc _
theorem Qt3 {C:aA} {n:Nat} {tb:Tab} (w:Wt' n tb) (c:Ca n tb) {h:Nat} (q:h < n) (S:Q0):Yi C [.ref S.length,.int h,Q4 tb] (S ++ [.obj C []])=.ok .non (S ++ [.obj C (hsF h tb tb)]):=by
 have e1:=Q31 w c (S ++ [.obj C []]);have e2:=Q20 w.len q (S ++ [.obj C []]);have gt:∀ fs:List (Str × PV),(S ++ [Cell.obj C fs])[S.length]?=some (.obj C fs):=fun fs=>by simp
 have st:∀ fs gs:List (Str × PV),(S ++ [Cell.obj C fs]).set S.length (.obj C gs)=S ++ [.obj C gs]:=fun fs gs=>by simp
 have z:yi "number" (.int h) []=[(bT "number",PV.int h)]:=rfl;have p2:yi "now" (Q4 tb) [(bT "number",PV.int h)]=[(bT "number",.int h),(bT "now",Q4 tb)]:=by
  rw [yi,bP s1']; rfl
 have j:yi "kept" (Q4 tb) [(bT "number",PV.int h),(bT "now",Q4 tb)]=hsF h tb tb:=by
  rw [yi,bP s2',yi,bP s3']; rfl
 have k3:Xz C [some (.ref S.length),some (.int h),some (Q4 tb)] (S ++ [.obj C []])=.nx [some (.ref S.length),some (.int h),some (Q4 tb)] (S ++ [.obj C (hsF h tb tb)]):=by
  refine Qb (jr (Qg (n:=1) (Q3 rfl rfl) rfl e1)) (Qb (W0 (Q1p (Qq (Qg (n:=2) (Q3 rfl (Q3 rfl rfl)) rfl e2))) rfl) ?_);refine Qb ((qe (p:=.int h) rfl rfl (gt _) (by simp)).trans (by rw [z,st])) ?_;refine Qb ((qe (p:=Q4 tb) rfl rfl (gt _) (by simp)).trans (by rw [p2,st])) ?_;exact (qe (p:=Q4 tb) rfl rfl (gt _) (by simp)).trans (by rw [j,st])
 exact Q24 k3
theorem Qwh {C:aA} {n:Nat} {tb:Tab} (w:Wt' n tb) (c:Ca n tb) {h:Nat} (j:h < n) (S:Q0):jt C [some (.int h),some (Q4 tb)] S=.ok (.ref S.length) (S ++ [.obj C (hsF h tb tb)]):=by
 have q:(Q1 (Q2 0) (Q1 (Q2 1) Q5)) [some (.int h),some (Q4 tb)] S=.ok [.int h,Q4 tb] S:=Q3 rfl (Q3 rfl rfl);show ((Yi C [PV.ref S.length,PV.int h,Q4 tb] (S ++ [Cell.obj C []])).bind _)=_;rw [Qt3 w c j S]; rfl
def h0 (C:aA) (n:Nat) (tb:Tab):Q0:=(bS n).map fun i=>.obj C (hsF i tb tb)
theorem Qj7 {C:aA} {n:Nat} {tb:Tab} (w:Wt' n tb) (c:Ca n tb) (S:Q0) (Γ:Gam) (z:Γ[0]?=some (some (Q4 tb))):Qw (Q8 0) Qp (jt C) [] (Jx [none,some 0] Γ) (Jb 0 n) S=.ok ((bS n).map fun i=>.ref (S.length + i)) (S ++ h0 C n tb):=by
 have G:Jx [none,some 0] Γ=[none,some (Q4 tb)]:=by
  simp [Jx,z]
 obtain ⟨j,I,e,e1,e2⟩:=Qjd (g:=fun k:Nat=>PV.int (k:Int)) (xs:=bS n) (ga:=Q8 0) (me:=jt C) (w:=[]) (Γ0:=[none,some (Q4 tb)]) (st:=S)
  (fun i j st=>j=((bS i).map fun i=>PV.ref (S.length + i))/\st=S ++ h0 C i tb) (fun _ _ _ _=>by simp)
  (fun i x j st B ⟨e1,e2⟩=>by
   subst e1; subst e2;have q:i < n:=by simpa using (O0.mp B).1
   rw [E4 q] at B;cases B;refine ⟨_,rfl,_,_,Qwh w c q _,?_,?_⟩
   ·rw [cJ,F0,O6];simp [h0]
   ·rw [h0,h0,cJ,F0,L5]; rfl)
  ⟨rfl,by simp [h0]⟩
 rw [D5] at e1 e2;rw [G,Y7,e,e1,e2]
theorem Q3i {α β:Type} (l:List α) (d:α) (f:α->β):l.map f=(bS l.length).map fun i=>f (l.getD i d):=by
 refine cy fun i=>?_
 rw [E2,E2]
 by_cases h:i < l.length
 ·rw [E4 h,O5 h];simp [ba,O5 h]
 ·rw [F3 (by omega),F3 (by rw [D5]; omega)]; rfl
theorem Qx1 (C:aA) (n:Nat) (tb:Tab):(h0 C n tb).length=n:=by simp [h0]
theorem J08 (C:aA) {n i:Nat} (tb:Tab) (hi:i < n):(h0 C n tb)[i]?=some (.obj C (hsF i tb tb)):=by
 simp [h0,E4 hi]
abbrev plG (tb:Tab) (DV:PV) (B n:Nat) (d:Option PV):Gam:=[some (Q4 tb),some DV,some (hsV B n),some (.ref (B + n)),some (.ref (B + n + 1)),d]
structure PI (C:aA) (n:Nat) (tb:Tab) (S:Q0) (pre:List Dx) (st:Q0):Prop where
 hs:HsAt C S.length n (Zr n (s0 n tb) pre) st
 le:st[S.length + n]?=some (.lst ((Zr n (s0 n tb) pre).le.map Q4))
 an:st[S.length + n + 1]?=some (.lst (Q25 n (s0 n tb) pre))
 old:∀ t,t < S.length->st[t]?=S[t]?
 len:st.length=S.length + n + 2
theorem Qup {C:aA} {n:Nat} {tb:Tab} (w:Wt' n tb) {S st:Q0} {pre:List Dx} {x:Dx} {j:List Dx} (hl:(pre ++ x :: j).length<=1000) (ok:OkL n (s0 n tb) (pre ++ x :: j)) (P:PI C n tb S pre st) (DV:PV):∃ q,Q0v C (plG tb DV S.length n (some x.V)) st=.nx (plG tb DV S.length n (some x.V)) q/\PI C n tb S (pre ++ [x]) q:=by
 have o1:=(qg n pre (x :: j) _).mp ok;have r:RI n (Zr n (s0 n tb) pre):=(RI.start w).run o1.1;have U:=o1.2.1;have Z:pre.length<=1000:=by rw [O6] at hl; omega
 have a5:=Qfz n pre (s0 n tb);have B:(Zr n (s0 n tb) pre).le.length < 100000:=by
  have:(s0 n tb).le.length=0:=rfl;omega
 have e1:=Qfj w.len U P.le;have e2:=Qjv P.hs P.le B r U;obtain ⟨a1,a2,J,a4⟩:=Qvz P.hs P.le (O7 _) r U;obtain ⟨O,I⟩:∃ z,Q2u C S.length (S.length + n) n (Zr n (s0 n tb) pre) st x=z:=⟨_,rfl⟩;rw [I] at e2 a1 a2 J a4;have G:O[S.length + n + 1]?=some (.lst (Q25 n (s0 n tb) pre)):=by rw [J _ (.inr (by omega))]; exact P.an
 have hb:=(O0.mp G).1;have ap:=Q2n G (by rw [Qcd]; omega) (Q6c (Zr n (s0 n tb) pre) x);refine ⟨_,Qb (jr (Qg (n:=3) (Q3 rfl (Q3 rfl (Q3 rfl rfl))) rfl e1)) (Q3t (p:=.ref (S.length + n + 1)) rfl (W7 P.an) (Q3 (Qg (n:=3) (Q3 rfl (Q3 rfl (Q3 rfl rfl))) rfl e2) rfl) ap),?_⟩;have er:Zr n (s0 n tb) (pre ++ [x])=Jd n (Zr n (s0 n tb) pre) x:=by rw [qf]; rfl
 have ea:Q25 n (s0 n tb) (pre ++ [x])=Q25 n (s0 n tb) pre ++ [Q6c (Zr n (s0 n tb) pre) x]:=by rw [Qce]; rfl
 refine ⟨⟨fun i hi=>?_⟩,?_,?_,fun t Y=>?_,?_⟩
 ·rw [er,O9 (by omega)]; exact a1.at_ i hi
 ·rw [er,O9 (by omega)]; exact a2
 ·rw [ea,E7 hb]
 ·rw [O9 (by omega),J t (.inl Y)]; exact P.old t Y
 ·rw [D9,a4]; exact P.len
theorem Qa8 {C:aA} {n:Nat} {tb:Tab} (w:Wt' n tb) (c:Ca n tb) {S:Q0} {DV:PV} {xs:List Dx} {wt:Wt} (hs:∀ st:Q0,(∀ t,t < S.length->st[t]?=S[t]?)->Vn st DV=some (xs.map Dx.V,wt)/\wOk wt st) (hl:xs.length<=1000) (ok:OkL n (s0 n tb) xs) :
  ∃ J,yx C [Q4 tb,DV] S=.ok (.tup [.ref (S.length + n + 1),.ref (S.length + n + 2)]) J/\J.length=S.length + n + 3/\(∀ t,t < S.length->J[t]?=S[t]?)/\J[S.length + n + 1]?=some (.lst (Q25 n (s0 n tb) xs))/\J[S.length + n + 2]?=some (.lst ((Zr n (s0 n tb) xs).now.map Q4)):=by
 have h8:=w.n8;have I:lim=1000000:=rfl;have e1:=Q31 w c S;have eh:=Qj7 (C:=C) w c S [some (Q4 tb),some DV,none,none,none,none] rfl;have U:Zt S [Q4 tb]=.ok (.int n) S:=by simp [Q4,w.len]
 have a2:J7 (Q1 (Qm Zt (Q1 (Q2 0) Q5)) Q5) [some (Q4 tb),some DV,none,none,none,none] S=.ok (Jb 0 n,[]) S:=by
  rw [X0,Q3 (Yq (Q3 (m:=Q2 0) (p:=Q4 tb) (S1:=S) rfl (show Q5 _ S=.ok [] S from rfl)) U) (show Q5 _ S=.ok [] S from rfl),Qn];show (if -(lim:Int)<=(n:Int)/\(n:Int)<=lim then _ else _)=_;rw [bO (by rw [I]; omega),cA]
 obtain ⟨S1,q⟩:∃ S1,S ++ h0 C n tb=S1:=⟨_,rfl⟩;rw [q] at eh;have l1:S1.length=S.length + n:=by rw [<- q,O6,Qx1]
 obtain ⟨B,j⟩:∃ B,S1 ++ [Cell.lst []] ++ [Cell.lst []]=B:=⟨_,rfl⟩;have l2:B.length=S.length + n + 2:=by rw [<- j,O6,O6,l1]; rfl
 have P0:PI C n tb S [] B:=by
  refine ⟨⟨fun i hi=>?_⟩,?_,?_,fun t ht=>?_,l2⟩
  ·rw [<- j,L5,O4 (by omega),<- q,D2 (by omega),gi,J08 C tb hi];show _=some (Cell.obj C (hsF i ((bV n tb).getD i []) ((bV n tb).getD i [])));rw [yh hi]
  ·rw [<- j,L5,D2 (by omega),show S.length + n - S1.length=0 by omega]; rfl
  ·rw [<- j,L5,D2 (by omega),show S.length + n + 1 - S1.length=1 by omega]; rfl
  ·rw [<- j,L5,O4 (by omega),<- q,O4 ht]
 obtain ⟨G,_⟩:=hs B P0.old;obtain ⟨a4,z,ef,⟨d',rfl⟩,P⟩:=Qaj (g:=Dx.V) (xs:=xs) (fun pre Γ st=>(∃ d,Γ=plG tb DV S.length n d)/\PI C n tb S pre st) (ga:=Q8 5) (body:=Q0v C) (w:=wt)
  (fun pre Γ st ⟨_,P⟩=>(hs st P.old).2)
  (fun pre x a3 Γ st hx ⟨⟨d,Z⟩,P⟩=>by
   subst Z;obtain ⟨a5,e,P2⟩:=Qup w (by rw [<- hx]; exact hl) (by rw [<- hx]; exact ok) P DV;exact ⟨_,rfl,_,_,e,⟨_,rfl⟩,P2⟩)
  (Γ:=plG tb DV S.length n none) (st:=B) ⟨⟨_,rfl⟩,P0⟩
 have r:=(RI.start w).run ok;obtain ⟨s,O⟩:∃ s,Zr n (s0 n tb) xs=s:=⟨_,rfl⟩;rw [O] at r ⊢;have Y:=P.hs;rw [O] at Y;have et:Qw (Q8 0) Qp (Q3s C) [] (Jx [none] (plG tb DV S.length n d')) ((bS n).map fun i=>PV.ref (S.length + i)) z=.ok ((bS n).map fun i=>Q4 (s.now.getD i [])) z:=by
  refine Qu _ _ (by simp) fun i hi=>⟨_,rfl,?_⟩
  have hi:i < n:=O8.mp hi;have hS:=Y.at_ i hi;exact (jz (i:=S.length + i) rfl hS (zc (by decide +kernel) (by decide +kernel) (by decide +kernel) _ _ _) (ps:=[]) (S1:=z) rfl rfl).trans (Qka hS)
 have em:(bS n).map (fun i=>Q4 (s.now.getD i []))=s.now.map Q4:=by
  have:=Q3i s.now [] Q4;rw [this,r.ln]
 rw [em] at et;have l3:=P.len;have k:Q83 C [some (Q4 tb),some DV,none,none,none,none] S=.rt (.tup [.ref (S.length + n + 1),.ref (S.length + n + 2)]) (z ++ [.lst (s.now.map Q4)]):=by
  refine Qb (jr (Qg (n:=1) (Q3 rfl rfl) rfl e1)) ?_;refine Qb (Γ1:=[some (Q4 tb),some DV,some (hsV S.length n),none,none,none]) (Qr (W5 (Zq a2 eh))) ?_;refine Qb (Γ1:=[some (Q4 tb),some DV,some (hsV S.length n),some (.ref (S.length + n)),none,none]) (S1:=S1 ++ [.lst []]) ((Qr (j7 (ps:=[]) (S1:=S1) rfl)).trans (by rw [l1]; rfl)) ?_;refine Qb (Γ1:=plG tb DV S.length n none) (S1:=B) ((Qr (j7 (ps:=[]) (S1:=S1 ++ [.lst []]) rfl)).trans (by rw [O6,l1,j]; rfl)) ?_;refine Qb (y8 (Q72 (p:=DV) rfl G (by rw [O2]; omega)) ef) ?_;have a:Ke (Q2 2) (plG tb DV S.length n d') z=.ok ((bS n).map fun i=>PV.ref (S.length + i),[]) z:=Q72 (p:=hsV S.length n) rfl rfl (by rw [O2,D5]; omega)
  rw [Q49,Vx (Q3 (m:=Q2 4) (p:=.ref (S.length + n + 1)) rfl (Q3 (j7 (Zq a et)) rfl)) (by simp),Vz,l3]
 refine ⟨_,ju k,by rw [O6,l3]; rfl,fun t ht=>?_,?_,?_⟩
 ·rw [O4 (by omega)]; exact P.old t ht
 ·rw [O4 (by omega)]; exact P.an
 ·rw [D2 (by omega),show S.length + n + 2 - z.length=0 by omega]; rfl
theorem Qg2 {st st':Q0} (h:st'.length=st.length) (d:Int):fin st (.int d) st'=.ok (.int d) st':=by
 unfold fin
 by_cases q:st <+: st'
 ·rw [bO q];have:st=st':=q.eq_of_length h.symm;rw [<- this,fz]; rfl
 ·rw [bP q]
structure Mv (L:Nat) (S S':Q0):Prop where
 len:S'.length=S.length
 keep:∀ t,t≠L->S'[t]?=S[t]?
theorem Mv.refl (L:Nat) (S:Q0):Mv L S S:=⟨rfl,fun _ _=>rfl⟩
theorem Mv.trans {L:Nat} {S S1 q:Q0} (a:Mv L S S1) (b:Mv L S1 q):Mv L S q:=⟨b.len.trans a.len,fun t j=>(b.keep t j).trans (a.keep t j)⟩
theorem Q5i {st st':Q0} (h:st'.length=st.length) {v:PV} (g:Jk 12 v=true):fin st v st'=.ok v st':=by
 unfold fin
 by_cases q:st <+: st'
 ·rw [bO q];have:st=st':=q.eq_of_length h.symm;rw [<- this,Q6m g (by decide)]; rfl
 ·rw [bP q]
def Tp (S:Q0) (L:Nat):Prop:=∃ c:Int,S[L]?=some (.lst [.int c])
theorem Q2p {S:Q0} {L:Nat} (T:Tp S L) (m:Nat) (h1:1<=m) (Y:m < 2 ^ 8000):∃ (d:Nat) (z:Q0),d < m/\Tp z L/\Mv L S z/\Qc [.ref L,.int m] S=.ok (.int d) z:=by
 obtain ⟨c,q⟩:=T;have J:=(O0.mp q).1;have Z:ListAt S (.ref L) [.int c]:=.inr (.inr ⟨L,rfl,q⟩);have G:oIx S (.ref L) (.int 0)=.ok (.int c) S:=by rw [Z.ix]; rfl
 obtain ⟨d,hd,U⟩:=J2f c h1;have I:Q11 S (.ref L) (.int 0) (.int (c / (m:Int)))=some (S.set L (.lst [.int (c / (m:Int))])):=by
  unfold Q11;simp only [q];rfl
 obtain ⟨S1,j⟩:∃ S1,S.set L (.lst [.int (c / (m:Int))])=S1:=⟨_,rfl⟩;rw [j] at I;have M:Mv L S S1:=⟨by rw [<- j,D9],fun t O=>by rw [<- j,O9 (fun u=>O u.symm)]⟩;refine ⟨d,S1,hd,⟨_,by rw [<- j,E7 J]⟩,M,?_⟩;have em:Q43 S (.int c) (.int m)=.ok (.int d) S:=by
  show (if 0 < (m:Int) then _ else _)=_;rw [bO (by omega),U]
 have B:=Qin S c m h1 Y;have step:zy [some (.ref L),some (.int m),none] S=.rt (.int d) S1:=
  Qb (Γ1:=[some (.ref L),some (.int m),some (.int d)]) (Qr (Q7 (Q7 rfl rfl G) rfl em)) (Qb (Q4n (Q7 (Q7 rfl rfl G) rfl B) rfl rfl I) rfl)
 exact (Jm step).trans (Qg2 M.len d)
theorem Qgc {m:Nat} (h:m < 10 ^ 100):m < 2 ^ 8000:=D3 h (F1 (Nat.pow_le_pow_left (show 10<=2 ^ 4 by decide) 100) (by rw [<- Nat.pow_mul]; exact gj (by decide) (by decide)))
theorem Ys {S:Q0} {L:Nat} (T:Tp S L) (m:Nat) (h1:1<=m) (q:m < 100):∃ (d:Nat) (j:Q0),d < m/\Tp j L/\Mv L S j/\Qc [.ref L,.int m] S=.ok (.int d) j:=Q2p T m h1 (Qgc (D3 q (by decide)))
theorem Qeh (ns:List Int) (k:Nat) (S:Q0):∃ c:Int,Yk [.fro (ns.map .int),.int k] S=.ok (.ref S.length) (S ++ [.lst [.int c]]):=by
 obtain ⟨c,U⟩:∃ c:Int,Wu [.fro (ns.map .int),.int k] S=.ok (.int c) S:=by
  by_cases q:k < ns.length
  ·have e:atI (ns.map PV.int) (k:Int)=some (.int (ns.getD k 0)):=by rw [Ws,Sm.atI_get (getD_some q 0)]; rfl
   have I:(ns.map PV.int).length=ns.length:=O2 _;refine ⟨ns.getD k 0,?_⟩;generalize ns.getD k 0=x at *;generalize ns.length=nl at *;generalize ns.map PV.int=B at *;simp -implicitDefEqProofs [Wu,Qh,qk,I,q,e]
  ·have I:(ns.map PV.int).length=ns.length:=O2 _;have Z:¬ (k:Int) < (ns.length:Int):=by omega
   refine ⟨0,?_⟩;generalize ns.length=nl at *;generalize ns.map PV.int=B at *;simp -implicitDefEqProofs [Wu,Qh,qk,I,q,Z]
 by_cases q:c % 2=0
 ·refine ⟨c / 2,?_⟩;generalize ns.map PV.int=B at *;simp -implicitDefEqProofs [Yk,Yb,qi,U,q,Jc]
 ·obtain ⟨O,j⟩:∃ O:Int,(c % 2305843009213693951 * 48271 + 69621 * k + 11) % 2305843009213693951=O:=⟨_,rfl⟩;have G:=Q6p (c % 2305843009213693951 * 48271 + 69621 * k + 11) (b:=2305843009213693951) (by decide);rw [j] at G;obtain ⟨a2,S1,e,x,y,z,rfl,rfl,_⟩:=Xj (g:=fun k:Nat=>PV.int (k:Int)) (xs:=bS 5) (ga:=Q8 6) (body:=Xr) (w:=[]) (Γ:=[some (.fro (ns.map .int)),some (.int k),some (.int c),some (.int 2305843009213693951),some (.int 0),some (.int O),none]) (st:=S)
   (fun _ Γ st'=>∃ (x y:Int) (z:Option PV),Γ=[some (.fro (ns.map .int)),some (.int k),some (.int c),some (.int 2305843009213693951),some (.int x),some (.int y),z]/\st'=S/\0<=y/\y < 2305843009213693951)
   (fun _ _ _ _=>by simp)
   (fun i t Γ st' hx ⟨x,y,z,e1,e2,y1,y2⟩=>by
    subst e1; subst e2;obtain ⟨w,Y⟩:∃ w:Int,(y * y + 40692 * k + t) % 2305843009213693951=w:=⟨_,rfl⟩;have J:=Q6p (y * y + 40692 * k + t) (b:=2305843009213693951) (by decide);rw [Y] at J;have yb:-18446744073709551616 < y/\y < 18446744073709551616:=by omega
    refine ⟨_,rfl,[some (.fro (ns.map .int)),some (.int k),some (.int c),some (.int 2305843009213693951),some (.int (x * 2305843009213693951 + y)),some (.int w),some (.int t)],st',?_,_,_,_,rfl,rfl,J.1,J.2⟩;generalize ns.map PV.int=B at *;simp -implicitDefEqProofs [Xr,yb,Y])
   ⟨_,_,_,rfl,rfl,G.1,G.2⟩
  rw [<- Y7] at e;refine ⟨x,?_⟩;generalize ns.map PV.int=B at *;simp -implicitDefEqProofs [Yk,Yb,qi,U,q,Jc,j,e]
theorem Q0w {n h:Nat} {tb:Tab} (z:Sz n tb) (hn:n<=100) (B:h < n) (st:Q0):J8 [Q4 tb,.int h] st=.ok (.int (Qi tb h)) st:=by
 have J:Qw (Q8 0) Qp K1 [] (Jx [none,some 1,some 0] [some (Q4 tb),some (.int h),none]) (Jb 0 n) st=.ok ((bS n).map fun j=>.int (ent tb j h)) st:=by
  rw [Y7];refine Qu _ _ (by simp) fun j G=>⟨_,rfl,?_⟩
  have G:=O8.mp G;have c:=K9 z G (E9 B) st;exact Q7 (Q7 rfl rfl c.1) rfl c.2
 obtain ⟨U,c2⟩:=K9 z B (E9 B) st;have I:Qw (Q8 0) Qp K0 [] (Jx [none] [some (Q4 tb),some (.int h),some (.int (Y3 n fun j=>ent tb j h))]) ((tb.getD h []).map .int) st=.ok ((tb.getD h []).map .int) st:=Qu _ _ (by simp) fun j G=>⟨_,rfl,rfl⟩
 have q:Zt st [Q4 tb]=.ok (.int n) st:=by simp [Q4,z.1]
 have O:J7 (Q1 (Qm Zt (Q1 (Q2 0) Q5)) Q5) [some (Q4 tb),some (.int h),none] st=.ok (Jb 0 n,[]) st:=by
  rw [X0,Q3 (Yq (Q3 (m:=Q2 0) (p:=Q4 tb) (S1:=st) rfl (show Q5 _ st=.ok [] st from rfl)) q) (show Q5 _ st=.ok [] st from rfl),Qn];show (if -(lim:Int)<=(n:Int)/\(n:Int)<=lim then _ else _)=_;rw [bO (by rw [Jc]; omega),cA]
 have s1:Wr (fun ns=>some (.int ns.sum)) st [.lst ((bS n).map fun j=>.int (ent tb j h))]=.ok (.int (Y3 n fun j=>ent tb j h)) st:=by
  rw [Q5k]; rfl
 have s2:Wr (fun ns=>some (.int ns.sum)) st [.lst ((tb.getD h []).map .int)]=.ok (.int (tb.getD h []).sum) st:=by simp
 have Y:Vn st (Qk (tb.getD h []))=some ((tb.getD h []).map .int,[]):=rfl;have Z:((tb.getD h []).map PV.int).length<=1000000:=by rw [O2,(z.row B).2]; omega
 have step:jk [some (Q4 tb),some (.int h),none] st=.rt (.int (Qi tb h)) st:=by
  refine Qb (Γ1:=[some (Q4 tb),some (.int h),some (.int (Y3 n fun j=>ent tb j h))]) (Qr (Yq (Q3 (W5 (Zq O J)) rfl) s1)) ?_;rw [Q49,Q7 (Q7 rfl (Yq (Q3 (W5 (Zq (Q72 (Q7 rfl rfl U) Y Z) I)) rfl) s2) rfl) (Q7 (Q7 rfl rfl U) rfl c2) rfl,Vz];unfold Qi;rw [z.1];congr 2;omega
 exact (Jm step).trans (Q4d st _)
theorem yr {a b:ME} {Γ:Gam} {S S1 j:Q0} {x y:PV} {r:Res PV} (h1:a Γ S=.ok x S1) (h2:b Γ S1=.ok y j) (q:Q5u j x y=r):U1 a b Γ S=r:=by unfold U1; rw [h1,Qn,h2,Qn,q]
theorem Qek {a b:MT} {Γ:Gam} {S S1:Q0} {r:Res Bool} (h:a Γ S=.ok true S1) (h2:b Γ S1=r):Q10 a b Γ S=r:=by rw [Qcn,h]; exact h2
theorem Qq6 {a b:MT} {Γ:Gam} {S S1:Q0} (h:a Γ S=.ok false S1):Q10 a b Γ S=.ok false S1:=by rw [Qcn,h]; rfl
theorem Yv {m:ME} {Γ:Gam} {S S1:Q0} {v:PV} (h:m Γ S=.ok v S1):J9 m Γ S=.rt v S1:=by rw [Q49,h]; rfl
theorem Q4f (S:Q0) {a b:Int} (h:a=b):oEq S (.int a) (.int b)=.ok (.bl true) S:=by simp [h]
theorem Q4g (S:Q0) {a b:Int} (h:¬ a=b):oEq S (.int a) (.int b)=.ok (.bl false) S:=by simp [h]
theorem Q8a (S:Q0) {a b:Int} (h:a < b):oLt S (.int a) (.int b)=.ok (.bl true) S:=by simp [h]
theorem Q8b (S:Q0) {a b:Int} (h:¬ a < b):oLt S (.int a) (.int b)=.ok (.bl false) S:=by
 have:oLt S (.int a) (.int b)=.ok (.bl (decide (a < b))) S:=by simp
 rw [this,bQ h]
theorem Qub (S:Q0) {a b:Int} (h:b < a):(oI fun a b=>.bl (decide (b < a))) S (.int a) (.int b)=.ok (.bl true) S:=by
 show Res.ok (PV.bl (decide (b < a))) S=_; rw [bR h]
theorem Quc (S:Q0) {a b:Int} (h:¬ b < a):(oI fun a b=>.bl (decide (b < a))) S (.int a) (.int b)=.ok (.bl false) S:=by
 show Res.ok (PV.bl (decide (b < a))) S=_; rw [bQ h]
theorem Qwf (S:Q0) {a b:Int} (h:0 < b):Q43 S (.int a) (.int b)=.ok (.int (a % b)) S:=by
 show (if 0 < b then _ else _)=_; rw [bO h]
theorem Q26 (S:Q0) (a b:Int):Yj S (.int a) (.int b)=.ok (.int (a + b)) S:=by simp
theorem Qkf (S:Q0) (a b:Int):(oI fun a b=>.int (a - b)) S (.int a) (.int b)=.ok (.int (a - b)) S:=rfl
theorem Q0x {n i j:Nat} {tb:List (List Int)} (z:Sz n tb) (hn:n<=100) (hi:i < n) (Y:j<=n) (k:Int) (st:Q0):Zh [Q4 tb,.int i,.int j,.int k] st=.ok (Q4 (Xw tb i j (ent tb i j + k))) st:=by
 have J:=K9 z hi Y st;have q:=(z.row hi).2;have g1:Qk ((tb.getD i []).set j (ent tb i j + k))=.tup (((tb.getD i []).take j).map .int ++ [.int (ent tb i j + k)] ++ ((tb.getD i []).drop (j + 1)).map .int):=by
  unfold Qk;rw [<- Q6e _ _ _ (by omega),F0,F0]; rfl
 have g2:Q4 (Xw tb i j (ent tb i j + k))=.tup ((tb.take i).map Qk ++ [Qk ((tb.getD i []).set j (ent tb i j + k))] ++ (tb.drop (i + 1)).map Qk):=by
  unfold Q4 Xw;rw [<- Q6e _ _ _ (by rw [z.1]; exact hi),F0,F0]; rfl
 have c3:cut ((tb.getD i []).map PV.int) none (some (j:Int))=((tb.getD i []).take j).map .int:=by rw [ze,yt]
 have c4:cut ((tb.getD i []).map PV.int) (some ((j:Int) + 1)) none=((tb.getD i []).drop (j + 1)).map .int:=by rw [ze]; exact congrArg _ (Q23 _ (j + 1))
 have c5:cut (tb.map Qk) none (some (i:Int))=(tb.take i).map Qk:=by rw [ze,yt]
 have c6:cut (tb.map Qk) (some ((i:Int) + 1)) none=(tb.drop (i + 1)).map Qk:=by rw [ze]; exact congrArg _ (Q23 _ (i + 1))
 have l3:(((tb.getD i []).take j).map PV.int).length=j:=by rw [O2,cF,q]; omega
 have O:(((tb.getD i []).drop (j + 1)).map PV.int).length=n - j:=by rw [O2,cR,q]; omega
 have G:((tb.take i).map Qk).length=i:=by rw [O2,cF,z.1]; omega
 have l6:((tb.drop (i + 1)).map Qk).length=n - (i + 1):=by rw [O2,cR,z.1]
 have b1:j + 1<=1000000:=by omega
 have b2:j + 1 + (n - j)<=1000000:=by omega
 have b3:i + 1<=1000000:=by omega
 have I:i + 1 + (n - (i + 1))<=1000000:=by omega
 have B:fin st (Q4 (Xw tb i j (ent tb i j + k))) st=.ok (Q4 (Xw tb i j (ent tb i j + k))) st:=W2 (by simp [Jk,Q4,Qk]);obtain ⟨U,Z⟩:=J;have q1:oSl st (Qk (tb.getD i [])) none (some (j:Int))=.ok (.tup (((tb.getD i []).take j).map .int)) st:=by unfold Qk; rw [jx,c3]
 have q2:oSl st (Qk (tb.getD i [])) (some ((j:Int) + 1)) none=.ok (.tup (((tb.getD i []).drop (j + 1)).map .int)) st:=by unfold Qk; rw [jx,c4]
 have q3:oSl st (Q4 tb) none (some (i:Int))=.ok (.tup ((tb.take i).map Qk)) st:=by unfold Q4; rw [jx,c5]
 have q4:oSl st (Q4 tb) (some ((i:Int) + 1)) none=.ok (.tup ((tb.drop (i + 1)).map Qk)) st:=by unfold Q4; rw [jx,c6]
 rw [g2] at B ⊢;rw [g1] at B ⊢;generalize ent tb i j=x at *;generalize ((tb.getD i []).take j).map PV.int=v3 at *;generalize ((tb.getD i []).drop (j + 1)).map PV.int=v4 at *;generalize (tb.take i).map Qk=v5 at *;generalize (tb.drop (i + 1)).map Qk=v6 at *;generalize Qk (tb.getD i [])=rv at *;generalize Q4 tb=T at *;simp -implicitDefEqProofs at B;simp -implicitDefEqProofs [Zh,Qh,jm,U,Z,q1,q2,q3,q4,Jc,l3,O,G,l6,b1,b2,b3,I,B]
theorem Qn8 (st:Q0) (xs:List PV) (b:Int):Q68 st (.lst xs) (.int b)=if -(2 ^ 63)<=b/\b < 2 ^ 63/\xs.length * b.toNat<=lim then .ok (.lst (bV b.toNat xs).flatten) st else .stuck:=rfl
theorem Qyt {α:Type} (x:α):∀ n,(bV n [x]).flatten=bV n x
 | 0=>rfl
 | n + 1=>by rw [cH,cS,Qyt x n]; rfl
theorem Qq3 {mr:ML} {Γ:Gam} {S S1:Q0} {ps:List PV} (h:mr Γ S=.ok ps S1) (j:ps.length<=1000000:=by decide):Q9q mr Γ S=.ok (.lst ps) S1:=by
 unfold Q9q;rw [h,Qn];exact bO j
theorem Qq9 {n:Nat} (hn:n<=8) (S:Q0):Xv [.int n] S=.ok (Q4 (bV n (Kb n))) S:=by
 have G:((n:Int) + 1).toNat=n + 1:=by omega
 have Y:Xp [some (.int 0),some (.int n)] S=.ok (Qk (Kb n)) S:=by
  have:Qk (Kb n)=.tup (bV (n + 1) (.int 0)):=by simp [Qk,Kb]
  rw [this];have U:Q68 S (.lst [.int 0]) (.int ((n:Int) + 1))=.ok (.lst (bV (n + 1) (.int 0))) S:=by
   rw [Qn8,bO ⟨by omega,by omega,by rw [Jc,G]; simp; omega⟩,G,Qyt]
  exact Yq (Q3 (Q7 (Qq3 rfl) (Q7 rfl rfl (Q26 S _ _)) U) rfl) rfl
 have B:Qw (Q8 0) Qp Xp [] (Jx [none,some 0] [some (.int n)]) (Jb 0 n) S=.ok ((bS n).map fun _=>Qk (Kb n)) S:=by
  rw [Y7];refine Qu _ _ (by simp) fun j Z=>⟨_,rfl,?_⟩
  exact Y
 have J:((bS n).map fun _=>Qk (Kb n))=(bV n (Kb n)).map Qk:=by
  rw [gk];exact gm.mpr ⟨by simp,fun b I=>by obtain ⟨_,_,rfl⟩:=cK.mp I; rfl⟩
 rw [J] at B;have z:J7 (Q1 (Q2 0) Q5) [some (.int n)] S=.ok (Jb 0 n,[]) S:=by
  rw [X0,Q3 (m:=Q2 0) (p:=.int n) (S1:=S) rfl (show Q5 _ S=.ok [] S from rfl),Qn];show (if -(lim:Int)<=(n:Int)/\(n:Int)<=lim then _ else _)=_;rw [bO (by rw [Jc]; omega),cA]
 have ct:Vh S [.lst ((bV n (Kb n)).map Qk)]=.ok (Q4 (bV n (Kb n))) S:=by
  have O:((bV n (Kb n)).map Qk).length<=1000000:=by simp; omega
  unfold Q4;generalize (bV n (Kb n)).map Qk=q at *;simp [Jc,O]
 have step:Q0g [some (.int n)] S=.rt (Q4 (bV n (Kb n))) S:=Yv (Yq (Q3 (W5 (Zq z B)) rfl) ct);exact (Jm step).trans (Qc2 S _)
theorem Q90 {a b:Tab} (h:a.length=b.length) (hl:a.length<=1000) (hr:∀ r∈a,r.length<=1000) (S:Q0):W3 [Q4 a,Q4 b] S=.ok (Q4 (Zf a b)) S:=by
 obtain ⟨a4,S',e,⟨c3,Z,rfl⟩,rfl⟩:=Qaj (g:=fun z:List Int × List Int=>PV.tup [Qk z.1,Qk z.2]) (xs:=a.zip b)
  (fun pre Γ st=>(∃ c3 Z,Γ=[some (Q4 a),some (Q4 b),some (.ref S.length),c3,Z])/\st=S ++ [.lst (pre.map fun z=>Qk (Wy z.1 z.2))])
  (ga:=Wz (J1 (Q8 3) (J1 (Q8 4) V0))) (body:=K2) (w:=[]) (fun _ _ _ _=>by simp)
  (fun pre z a2 Γ st hx ⟨⟨c3,Z,O⟩,j⟩=>by
   subst O; subst j;have hz:z∈a.zip b:=by rw [hx]; simp
   have a3:pre.length<=1000:=by
    have:=congrArg dZ hx;rw [du,O6,D8,<- h,fH] at this;omega
   have I:z.1.length<=lim:=by have:=hr _ (cQ hz).1; rw [Jc]; omega
   obtain ⟨st,j⟩:∃ st,S ++ [Cell.lst (pre.map fun z=>Qk (Wy z.1 z.2))]=st:=⟨_,rfl⟩
   have gt:st[S.length]?=some (.lst (pre.map fun z=>Qk (Wy z.1 z.2))):=by rw [<- j]; simp
   rw [j];have hc:Qw (Wz (J1 (Q8 0) (J1 (Q8 1) V0))) Qp U9 [] (Jx [none,none] [some (Q4 a),some (Q4 b),some (.ref S.length),some (Qk z.1),some (Qk z.2)]) ((z.1.zip z.2).map fun z=>.tup [.int z.1,.int z.2]) st=.ok ((z.1.zip z.2).map fun z=>.int (Lw.maxI z.1 z.2)) st:=by
    refine Qu _ _ (by simp) fun u hu=>⟨_,rfl,?_⟩
    simp [Jx,U9,Lw.maxI]
   have U:((z.1.zip z.2).map fun z=>PV.int (Lw.maxI z.1 z.2))=(Wy z.1 z.2).map .int:=by unfold Wy; rw [G6]; rfl
   rw [U] at hc;have B:Q48 (Q1 (Q2 3) (Q1 (Q2 4) Q5)) [some (Q4 a),some (Q4 b),some (.ref S.length),some (Qk z.1),some (Qk z.2)] st=.ok ((z.1.zip z.2).map fun z=>.tup [.int z.1,.int z.2],[]) st:=by
    have G:=I;rw [Jc] at G;unfold Qk;simp [qz,I,G,Jc]
   have J:((Wy z.1 z.2).map PV.int).length<=1000000:=by
    unfold Wy;rw [O2,O2,du];have:=gQ z.1.length z.2.length;rw [Jc] at I;omega
   have ct:Vh st [.lst ((Wy z.1 z.2).map .int)]=.ok (Qk (Wy z.1 z.2)) st:=by
    unfold Qk;generalize (Wy z.1 z.2).map PV.int=q at *;simp [Jc,J]
   have ap:=Q2n gt (by rw [O2]; omega) (Qk (Wy z.1 z.2));refine ⟨_,rfl,_,_,Q3t (p:=.ref S.length) rfl (W7 gt) (Q3 (Yq (Q3 (W5 (Zq B hc)) rfl) ct) rfl) ap,⟨_,_,rfl⟩,?_⟩;rw [<- j,F0];simp)
  (Γ:=[some (Q4 a),some (Q4 b),some (.ref S.length),none,none]) (st:=S ++ [.lst []]) ⟨⟨_,_,rfl⟩,rfl⟩
 have U:((a.zip b).map fun z=>Qk (Wy z.1 z.2))=(Zf a b).map Qk:=by unfold Zf; rw [G6]; rfl
 rw [U] at e;have J:((Zf a b).map Qk).length<=1000000:=by
  unfold Zf;rw [O2,O2,du,<- h,fH];omega
 obtain ⟨st,j⟩:∃ st,S ++ [Cell.lst ((Zf a b).map Qk)]=st:=⟨_,rfl⟩;have gt:ListAt st (.ref S.length) ((Zf a b).map Qk):=.inr (.inr ⟨_,rfl,by rw [<- j]; simp⟩);have B:Q48 (Q1 (Q2 0) (Q1 (Q2 1) Q5)) [some (Q4 a),some (Q4 b),some (.ref S.length),none,none] (S ++ [.lst []])=.ok ((a.zip b).map fun z=>.tup [Qk z.1,Qk z.2],[]) (S ++ [.lst []]):=by
  have Y:a.length<=1000000:=by omega
  unfold Q4;simp [qz,Y,Jc]
 have ct:Vh st [.ref S.length]=.ok (Q4 (Zf a b)) st:=by
  have z:st[S.length]?=some (.lst ((Zf a b).map Qk)):=by rw [<- j]; simp
  show (match Xb st (.ref S.length) with | some xs=>Res.ok (PV.tup xs) st | none=>.stuck)=_
  rw [show Xb st (.ref S.length)=some ((Zf a b).map Qk) from W7 z]; rfl
 rw [j] at e;have step:jq [some (Q4 a),some (Q4 b),none,none,none] S=.rt (Q4 (Zf a b)) st:=
  Qb (Γ1:=[some (Q4 a),some (Q4 b),some (.ref S.length),none,none]) (S1:=S ++ [.lst []]) (Qr (j7 (ps:=[]) rfl)) (Qb (y8 B e) (Yv (Yq (Q3 rfl rfl) ct)))
 refine (Jm step).trans ?_;rw [<- j];exact Q2g (by simp [Jk,Q4,Qk])
def bM (t:Nat):Int:=10 ^ (21 + t)
theorem Q4k (t:Nat):bM (t + 1)=10 * bM t:=by
 unfold bM;rw [show 21 + (t + 1)=(21 + t) + 1 by omega,Int.pow_succ];omega
theorem Q8z:∀ t,1000000000000000000000<=bM t
 | 0=>by decide
 | t + 1=>by have:=Q8z t; rw [Q4k]; omega
theorem Quf {t:Nat} (h:t<=60):8 * bM t + 2 < 10 ^ 100:=by
 have h1:bM t<=10 ^ 90:=by
  unfold bM
  exact_mod_cast gj (n:=10) (by decide) (show 21 + t<=90 by omega)
 have h2:(8:Int) * 10 ^ 90 + 2 < 10 ^ 100:=by decide +kernel
 omega
structure Bd (n:Nat) (M:Int) (tb:Tab):Prop where
 le:∀ i j,i < n->j<=n->ent tb i j<=M
theorem Qqh {n:Nat} {f:Nat->Int} {M:Int} (h:∀ o,o < n->f o<=M):Y3 n f<=n * M:=by
 induction n with
 | zero=>simp [Y3]
 | succ n j=>
  rw [J3];have h1:=j fun o q=>h o (by omega)
  have h2:=h n (by omega);have:((n + 1:Nat):Int) * M=n * M + M:=by push_cast; rw [Int.add_mul,Int.one_mul]
  omega
theorem Qqg {n:Nat} {f:Nat->Int} (h:∀ o,o < n->0<=f o):0<=Y3 n f:=by
 induction n with
 | zero=>simp [Y3]
 | succ n j=>
  rw [J3];have h1:=j fun o q=>h o (by omega)
  have h2:=h n (by omega);omega
theorem Qk7 {n:Nat} {f:Nat->Int} (h:∀ o,o < n->0<=f o) {k:Nat} (B:k < n):f k<=Y3 n f:=by
 induction n with
 | zero=>omega
 | succ n z=>
  rw [J3];have h2:=h n (by omega);have G:=Qqg (n:=n) fun o j=>h o (by omega)
  by_cases q:k=n
  ·subst q; omega
  ·have h1:=z (fun o j=>h o (by omega)) (by omega)
   omega
theorem Q4u {n h:Nat} {tb:Tab} (w:Wt' n tb) {M:Int} (b:Bd n M tb) (B:0<=M) (q:h < n):Qi tb h<=8 * M:=by
 rw [Wh w.sz q];have h1:=Qqh (n:=n) (f:=fun o=>ent tb o h) fun o z=>b.le o h z (E9 q)
 have h2:=Qk7 (n:=n) (f:=fun j=>ent tb h j) (fun o z=>w.ent_nn q (E9 z)) q
 have I:=w.ent_nn q (O7 n);have G:(n:Int) * M<=8 * M:=Int.mul_le_mul_of_nonneg_right (by have:=w.n8; omega) B;have h2:ent tb h h<=Y3 n fun j=>ent tb h j:=h2
 omega
theorem Bd.put {n:Nat} {tb:Tab} (w:Wt' n tb) {M:Int} (b:Bd n M tb) {d:Dd} (o:d.ok n) {K:Int} (z:M + d.k<=K):Bd n K (d.put n tb):=by
 refine ⟨fun i j hi q=>?_⟩;unfold Dd.put;rw [Q0n w.sz (Dd.ok_h o) (Dd.ok_pl o)];have h1:=b.le i j hi q;have h2:=Dd.ok_k o;have B:=b.le d.h (d.pl n) (Dd.ok_h o) (Dd.ok_pl o)
 split <;> omega
theorem Bd.up {n:Nat} {tb:Tab} {M K:Int} (b:Bd n M tb) (h:M<=K):Bd n K tb:=⟨fun i j hi q=>bh (b.le i j hi q) h⟩
theorem Qpp {n:Nat} {tb:Tab} (w:Wt' n tb) (c:Ca n tb) {d:Dd} (o:d.ok n) (G:d.isM=false->d.k<=Qi tb d.h):Wt' n (d.put n tb)/\Ca n (d.put n tb):=by
 have z:=Dd.ok_h o;have j:=Dd.ok_k o;have B:Wt' n (d.put n tb):=Qm8 w o;refine ⟨B,?_⟩;cases d with
 | mk h k=>exact Ca.make w c z (by have:(1:Int)<=k:=j; omega) B
 | ld h q k=>
  have h1:k<=Qi tb h:=G rfl;have j:(1:Int)<=k:=j;exact Ca.give w c z (E9 o.2.1) o.2.2.1 (by omega) h1 (bh j h1) B
 | us h k=>
  have h1:k<=Qi tb h:=G rfl;have j:(1:Int)<=k:=j;have z:h < n:=z;exact Ca.give w c z (O7 n) (by omega) (by omega) h1 (bh j h1) B
theorem Qem {S:Q0} {L:Nat} (T:Tp S L):∃ (k:Int) (z:Q0),(1<=k/\k<=100000000000000000000)/\Tp z L/\Mv L S z/\Wg [.ref L] S=.ok (.int k) z:=by
 obtain ⟨d,S1,hd,B,M1,e1⟩:=Ys T 12 (by decide) (by decide);have e1:Qc [.ref L,.int 12] S=.ok (.int d) S1:=e1
 by_cases q:d=11
 ·obtain ⟨x,j,I,G,M2,e2⟩:=Ys B 3 (by decide) (by decide);have e2:Qc [.ref L,.int 3] S1=.ok (.int x) j:=e2;have M:=M1.trans M2;have hp:Qn7 S1 (.int 10) (.int 20)=.ok (.int 100000000000000000000) S1:=by
   rw [Qn6,bO (by decide)]; rfl
  have step:qj [some (.ref L),none] S=.rt (.int (100000000000000000000 - (x:Int))) j:=
   Qb (Γ1:=[some (.ref L),some (.int d)]) (Qr (Qg (n:=2) (Q3 rfl (Q3 rfl rfl)) rfl e1)) (j8 (y6 (Qq (Q7 rfl rfl (Q4f S1 (by omega)))) (Yv (Q7 (Q7 rfl rfl hp) (Qg (n:=2) (Q3 rfl (Q3 rfl rfl)) rfl e2) (Qkf j _ _)))))
  exact ⟨_,j,by omega,G,M,(Jm step).trans (Qg2 M.len _)⟩
 ·have b:=Q6p (d:Int) (b:=7) (by decide);have step:qj [some (.ref L),none] S=.rt (.int (1 + (d:Int) % 7)) S1:=
   Qb (Γ1:=[some (.ref L),some (.int d)]) (Qr (Qg (n:=2) (Q3 rfl (Q3 rfl rfl)) rfl e1)) (Qb (W0 (Qq (Q7 rfl rfl (Q4g S1 (by omega)))) rfl) (Yv (Q7 rfl (Q7 rfl rfl (Qwf S1 (by decide))) (Q26 S1 _ _))))
  exact ⟨_,S1,by omega,B,M1,(Jm step).trans (Qg2 M1.len _)⟩
theorem Qgx {n i y:Nat} (hi:i < n) (j:y < n - 1):∃ q:Nat,((i:Int) + 1 + (y:Int)) % (n:Int)=(q:Int)/\q < n/\q≠i:=by
 by_cases h:i + 1 + y < n
 ·exact ⟨i + 1 + y,by rw [gq (by omega) (by omega)]; omega,h,by omega⟩
 ·refine ⟨i + 1 + y - n,?_,by omega,by omega⟩;have e:((i:Int) + 1 + (y:Int))=((i + 1 + y - n:Nat):Int) + (n:Int):=by omega
  rw [e,Int.add_emod_right,gq (by omega) (by omega)]
abbrev tbG (L n m:Nat) (tb:Tab) (c4 c5 c6 c7 c8:Option PV):Gam:=[some (.ref L),some (.int n),some (.int m),some (Q4 tb),c4,c5,c6,c7,c8]
structure TbI (n:Nat) (t:Nat) (tb:Tab):Prop where
 w:Wt' n tb
 c:Ca n tb
 b:Bd n (bM t) tb
theorem TbI.put {n t:Nat} {tb:Tab} (I:TbI n t tb) {d:Dd} (o:d.ok n) (j:d.isM=false->d.k<=Qi tb d.h) (z:d.isM=true->d.k<=100000000000000000000):TbI n (t + 1) (d.put n tb):=by
 have h:=Qpp I.w I.c o j;refine ⟨h.1,h.2,I.b.put I.w o ?_⟩;have g:=Q8z t;rw [Q4k];cases q:d.isM with
 | true=>have:=z q; omega
 | false=>
  have h1:=j q;have h2:=Q4u I.w I.b (by omega) (Dd.ok_h o);omega
theorem Qei {S:Q0} {L n m t:Nat} {tb:Tab} (T:Tp S L) (I:TbI n t tb) (ht:t<=20) (G c5 c6 Z J:Option PV):∃ (a3:Tab) (S':Q0) (d5 d6 d7 d8:Option PV),TbI n (t + 1) a3/\Tp S' L/\Mv L S S'/\Uu (tbG L n m tb G c5 c6 Z J) S=.nx (tbG L n m a3 G d5 d6 d7 d8) S':=by
 have w:=I.w;have h1:=w.n1;have h8:=w.n8;obtain ⟨i,S1,hi,T1,M1,e1⟩:=Ys T n h1 (by omega);obtain ⟨y,B,hy,T2,M2,e2⟩:=Ys T1 4 (by decide) (by decide);have e2:Qc [.ref L,.int 4] S1=.ok (.int y) B:=e2;have e3:=Q0w w.sz (by omega) hi B;obtain ⟨r,hr⟩:∃ r:Nat,Qi tb i=(r:Int):=⟨(Qi tb i).toNat,by have:=I.c.nn i hi; omega⟩;rw [hr] at e3;have Y:=M1.trans M2;have k1:J2 5 (Q9 2 Qc (Q1 (Q2 0) (Q1 (Q2 1) Q5))) (tbG L n m tb G c5 c6 Z J) S=.nx (tbG L n m tb G (some (.int i)) c6 Z J) S1:=Qr (Qg (n:=2) (Q3 rfl (Q3 rfl rfl)) rfl e1);have k2:J2 6 (Q9 2 Qc (Q1 (Q2 0) (Q1 (mC (.int 4)) Q5))) (tbG L n m tb G (some (.int i)) c6 Z J) S1=.nx (tbG L n m tb G (some (.int i)) (some (.int y)) Z J) B:=Qr (Qg (n:=2) (Q3 rfl (Q3 rfl rfl)) rfl e2);have k3:J2 7 (Q9 2 J8 (Q1 (Q2 3) (Q1 (Q2 5) Q5))) (tbG L n m tb G (some (.int i)) (some (.int y)) Z J) B=.nx (tbG L n m tb G (some (.int i)) (some (.int y)) (some (.int r)) J) B:=Qr (Qg (n:=2) (Q3 rfl (Q3 rfl rfl)) rfl e3)
 have a7:=Q4u w I.b (by have:=Q8z t; omega) hi;have a6:=Quf (t:=t) (by omega);have a2:r < 2 ^ 8000:=Qgc (by
  have:(r:Int) < 10 ^ 100:=by omega
  exact_mod_cast this)
 by_cases q:y < 2\/r=0
 ·obtain ⟨k,O,hk,T3,M3,e4⟩:=Qem T2;have o:(Dd.mk i k).ok n:=⟨hi,hk.1⟩;have e5:=Q0x w.sz (by omega) hi (E9 hi) k O;refine ⟨_,O,_,_,_,_,I.put o (fun z=>by cases z) (fun _=>hk.2),T3,Y.trans M3,Qb k1 (Qb k2 (Qb k3 (y6 ?_ (Qr (Qg (n:=4) (Q3 rfl (Q3 rfl (Q3 rfl (Q3 (Qg (n:=1) (Q3 rfl rfl) rfl e4) rfl)))) rfl e5)))))⟩
  by_cases q1:y < 2
  ·exact Qzg (Qq (Q7 rfl rfl (Q8a B (by omega))))
  ·exact Qbf (Qq (Q7 rfl rfl (Q8b B (by omega)))) (Qq (Q7 rfl rfl (Q4f B (by omega))))
 ·have a4:1<=r:=by omega
  have t1:Q1c (toB (mOp oLt (Q2 6) (mC (.int 2)))) (toB (mOp oEq (Q2 7) (mC (.int 0)))) (tbG L n m tb G (some (.int i)) (some (.int y)) (some (.int r)) J) B=.ok false B:=Qbf (Qq (Q7 rfl rfl (Q8b B (by omega)))) (Qq (Q7 rfl rfl (Q4g B (by omega))))
  by_cases q2:y=2/\1 < n
  ·obtain ⟨z,O,hz,T3,M3,e4⟩:=Ys T2 (n - 1) (by omega) (by omega);have e4:Qc [.ref L,.int ((n:Int) - 1)] B=.ok (.int z) O:=by rw [show ((n:Int) - 1)=((n - 1:Nat):Int) by omega]; exact e4
   obtain ⟨j,ej,hj,a5⟩:=Qgx hi hz;obtain ⟨x,U,hx,T4,M4,e5⟩:=Q2p T3 r a4 a2;have o:(Dd.ld i j (1 + (x:Int))).ok n:=⟨hi,hj,a5,by omega⟩;have e6:=Q0x w.sz (by omega) hi (E9 hj) (1 + (x:Int)) U;refine ⟨_,U,_,_,_,_,I.put o (fun _=>?_) (fun z=>by cases z),T4,(Y.trans M3).trans M4,Qb k1 (Qb k2 (Qb k3 (W0 t1 (y6 (Qek (Qq (Q7 rfl rfl (Q4f B (by omega)))) (Qq (Q7 rfl rfl (Qub B (by omega))))) (Qb (Γ1:=tbG L n m tb G (some (.int i)) (some (.int y)) (some (.int r)) (some (.int j))) (S1:=O) (Qr (Q7 (Q7 (Q7 rfl rfl (Q26 B _ _)) (Qg (n:=2) (Q3 rfl (Q3 (Q7 rfl rfl (Qkf B _ _)) rfl)) rfl e4) (Q26 O _ _)) rfl ?_)) (Qr (Qg (n:=4) (Q3 rfl (Q3 rfl (Q3 rfl (Q3 (Q7 rfl (Qg (n:=2) (Q3 rfl (Q3 rfl rfl)) rfl e5) (Q26 U _ _)) rfl)))) rfl e6)))))))⟩
   ·show 1 + (x:Int)<=Qi tb i;rw [hr]; omega
   ·rw [Qwf O (by omega),ej]
  ·obtain ⟨x,U,hx,T4,M4,e5⟩:=Q2p T2 r a4 a2;have o:(Dd.us i (1 + (x:Int))).ok n:=⟨hi,by omega⟩;have e6:=Q0x w.sz (by omega) hi (O7 n) (1 + (x:Int)) U;have t2:Q10 (toB (mOp oEq (Q2 6) (mC (.int 2)))) (toB (mOp (oI fun a b=>.bl (decide (b < a))) (Q2 1) (mC (.int 1)))) (tbG L n m tb G (some (.int i)) (some (.int y)) (some (.int r)) J) B=.ok false B:=by
    by_cases q3:y=2
    ·exact Qek (Qq (Q7 rfl rfl (Q4f B (by omega)))) (Qq (Q7 rfl rfl (Quc B (by omega))))
    ·exact Qq6 (Qq (Q7 rfl rfl (Q4g B (by omega))))
   refine ⟨_,U,_,_,_,_,I.put o (fun _=>?_) (fun z=>by cases z),T4,Y.trans M4,Qb k1 (Qb k2 (Qb k3 (W0 t1 (W0 t2 (Qr (Qg (n:=4) (Q3 rfl (Q3 rfl (Q3 rfl (Q3 (Q7 rfl (Qg (n:=2) (Q3 rfl (Q3 rfl rfl)) rfl e5) (Q26 U _ _)) rfl)))) rfl e6))))))⟩;show 1 + (x:Int)<=Qi tb i;rw [hr]; omega
theorem Qp4 {n i j:Nat} (hi:i < n) (q:j<=n):ent (bV n (Kb n)) i j=0:=by
 unfold ent;rw [F4 (l:=bV n (Kb n)),G9,bO hi,Option.getD_some,Kb,F4,G9,bO (by omega)]; rfl
theorem Qjs {S:Q0} {L n m:Nat} (T:Tp S L) (h1:1<=n) (U:n<=8) (hm:m<=9):∃ (tb:Tab) (q:Q0),TbI n m tb/\Tp q L/\Mv L S q/\V7 [.ref L,.int n,.int m] S=.ok (Q4 tb) q:=by
 have w0:=Qqb h1 U;have I0:TbI n 0 (bV n (Kb n)):=⟨w0,Ca.zero h1 U w0,⟨fun i j hi hj=>by rw [Qp4 hi hj]; have:=Q8z 0; omega⟩⟩;obtain ⟨a5,q,e,tb,Z,J,z,B,G,rfl,I,Y,M⟩:=Xj (g:=fun k:Nat=>PV.int (k:Int)) (xs:=bS m) (ga:=Q8 4) (body:=Uu) (w:=[]) (Γ:=tbG L n m (bV n (Kb n)) none none none none none) (st:=S)
  (fun t Γ st=>∃ tb Z J z B G,Γ=tbG L n m tb Z J z B G/\TbI n t tb/\Tp st L/\Mv L S st) (fun _ _ _ _=>by simp)
  (fun t x Γ st hx ⟨tb,Z,J,z,B,G,O,I,T,M⟩=>by
   subst O;have a3:t < m:=by simpa using (O0.mp hx).1
   obtain ⟨a4,q,d5,d6,d7,d8,I',Y,M',e⟩:=Qei (m:=m) T I (by omega) (some (.int x)) J z B G;exact ⟨_,rfl,_,_,e,_,_,_,_,_,_,rfl,I',Y,M.trans M'⟩)
  ⟨_,_,_,_,_,_,rfl,I0,T,Mv.refl L S⟩
 rw [D5] at I;rw [<- Y7] at e;have a2:J7 (Q1 (Q2 2) Q5) (tbG L n m (bV n (Kb n)) none none none none none) S=.ok (Jb 0 m,[]) S:=by
  rw [X0,Q3 (m:=Q2 2) (p:=.int m) (S1:=S) rfl (show Q5 _ S=.ok [] S from rfl),Qn];show (if -(lim:Int)<=(m:Int)/\(m:Int)<=lim then _ else _)=_;rw [bO (by rw [Jc]; omega),cA]
 have step:zu [some (.ref L),some (.int n),some (.int m),none,none,none,none,none,none] S=.rt (Q4 tb) q:=
  Qb (Γ1:=tbG L n m (bV n (Kb n)) none none none none none) (Qr (Qg (n:=1) (Q3 rfl rfl) rfl (Qq9 U S))) (Qb (y8 a2 e) rfl)
 exact ⟨tb,q,I,Y,M,(Jm step).trans (Q5i M.len (by simp [Jk,Q4,Qk]))⟩
theorem Qjx (ns:List Int):∃ (n:Nat) (tb:Tab),(1<=n/\n<=8)/\TbI n 8 tb/\Va [.fro (ns.map .int)] []=.ok (Q4 tb) []:=by
 obtain ⟨c,j⟩:=Qeh ns 0 [];have j:Yk [.fro (ns.map .int),.int 0] []=.ok (.ref 0) [.lst [.int c]]:=j;have G:Tp [.lst [.int c]] 0:=⟨c,rfl⟩;obtain ⟨a,S1,Y,J,M1,e1⟩:=Ys G 8 (by decide) (by decide);have e1:Qc [.ref 0,.int 8] [.lst [.int c]]=.ok (.int a) S1:=e1;obtain ⟨m,z,Z,B,M2,e2⟩:=Ys J 9 (by decide) (by decide);have e2:Qc [.ref 0,.int 9] S1=.ok (.int m) z:=e2;obtain ⟨tb,q,I,O,U,e3⟩:=Qjs (n:=1 + a) (m:=m) B (by omega) (by omega) (by omega);have e3:V7 [.ref 0,.int (1 + (a:Int)),.int m] z=.ok (Q4 tb) q:=by rw [show (1 + (a:Int))=((1 + a:Nat):Int) by omega]; exact e3
 have up:∀ t k,bM t<=bM (t + k):=fun t k=>by
  induction k with
  | zero=>exact bc _
  | succ k ih=>have:=Q4k (t + k); have:=Q8z (t + k); rw [show t + (k + 1)=t + k + 1 by omega]; omega
 refine ⟨1 + a,tb,by omega,⟨I.w,I.c,I.b.up ?_⟩,?_⟩
 ·have:=up m (8 - m); rwa [show m + (8 - m)=8 by omega] at this
 have step:zz [some (.fro (ns.map .int)),none,none] []=.rt (Q4 tb) q:=
  Qb (Γ1:=[some (.fro (ns.map .int)),some (.ref 0),none]) (Qr (Qg (n:=2) (Q3 rfl (Q3 rfl rfl)) rfl j)) (Qb (Γ1:=[some (.fro (ns.map .int)),some (.ref 0),some (.int (1 + (a:Int)))]) (Qr (Q7 rfl (Qg (n:=2) (Q3 rfl (Q3 rfl rfl)) rfl e1) (Q26 S1 _ _))) (Yv (Qg (n:=3) (Q3 rfl (Q3 rfl (Q3 (Qg (n:=2) (Q3 rfl (Q3 rfl rfl)) rfl e2) rfl))) rfl e3)))
 refine (Jm step).trans ?_;exact Q2g (st:=[]) (more:=q) (by simp [Jk,Q4,Qk])
def stD:List (Key × PV):=[(.inr "now",.ref 0),(.inr "last",.ref 1),(.inr "letters",.ref 2)]
structure LS (s:RS) (S:Q0):Prop where
 now:S[0]?=some (.lst (s.now.map Q4))
 last:S[1]?=some (.lst (s.last.map Q4))
 le:S[2]?=some (.lst (s.le.map Q4))
 st:S[3]?=some (.dic stD)
theorem LS.of {s:RS} {S j:Q0} (h:LS s S) (e:∀ t,t < 4->j[t]?=S[t]?):LS s j:=
 ⟨by rw [e 0 (by decide)]; exact h.now,by rw [e 1 (by decide)]; exact h.last,by rw [e 2 (by decide)]; exact h.le,by rw [e 3 (by decide)]; exact h.st⟩
theorem LS.mv {s:RS} {S j:Q0} {L:Nat} (h:LS s S) (M:Mv L S j) (q:4<=L):LS s j:=h.of fun t z=>M.keep t (by omega)
theorem Qfk:¬ ((.inr (bT "now"):Key)=.inr (bT "last")):=by decide +kernel
theorem Qip:¬ ((.inr (bT "now"):Key)=.inr (bT "letters")):=by decide +kernel
theorem Qfm:¬ ((.inr (bT "last"):Key)=.inr (bT "letters")):=by decide +kernel
theorem Qy6:Q2r stD (.inr "now")=some (.ref 0):=by simp [Q2r,stD]
theorem Qui:Q2r stD (.inr "last")=some (.ref 1):=by
 unfold Q2r stD;rw [fN (by simpa using Qfk)];simp
theorem Qy7:Q2r stD (.inr "letters")=some (.ref 2):=by
 unfold Q2r stD;rw [fN (by simpa using Qip),fN (by simpa using Qfm)];simp
theorem Qp9 {S:Q0} {i:Nat} {kvs:List (Key × PV)} (h:S[i]?=some (.dic kvs)) {x:Str} {v:PV} (e:Q2r kvs (.inr x)=some v):Q5u S (.ref i) (.str x)=.ok v S:=by
 have h1:Qaq S (.ref i)=some kvs:=by unfold Qaq; simp only [h]
 unfold Q5u;rw [h1];show (match Q2r kvs (.inr x) with | some v=>Res.ok v S | none=>.stuck)=_
 rw [e]
theorem LS.gn {s:RS} {S:Q0} (h:LS s S):Q5u S (.ref 3) (.str "now")=.ok (.ref 0) S:=Qp9 h.st Qy6
theorem LS.gl {s:RS} {S:Q0} (h:LS s S):Q5u S (.ref 3) (.str "last")=.ok (.ref 1) S:=Qp9 h.st Qui
theorem LS.ge {s:RS} {S:Q0} (h:LS s S):Q5u S (.ref 3) (.str "letters")=.ok (.ref 2) S:=Qp9 h.st Qy7
theorem x9 {S:Q0} {k i:Nat} {xs:List Tab} (h:S[k]?=some (.lst (xs.map Q4))) (hi:i < xs.length):oIx S (.ref k) (.int i)=.ok (Q4 (xs.getD i [])) S:=by
 have j:ListAt S (.ref k) (xs.map Q4):=.inr (.inr ⟨k,rfl,h⟩);rw [j.ix,Ws,Sm.atI_get (getD_some hi [])]; rfl
theorem Q6d {S:Q0} {k i:Nat} {xs:List Tab} (h:S[k]?=some (.lst (xs.map Q4))) (hi:i < xs.length) (t:Tab):Q11 S (.ref k) (.int i) (Q4 t)=some (S.set k (.lst ((xs.set i t).map Q4))):=by
 have e:ixN (xs.map Q4).length (i:Int)=some i:=by
  rw [O2];unfold ixN;rw [bO (by omega),bO (by omega)]; simp
 unfold Q11;simp only [h,e];rw [gr]; rfl
theorem Qq4 {n:Nat} {s:RS} {S:Q0} (h:LS s S) (r:RI n s) {x:Dx} (o:x.ok n s) (hl:s.le.length < 100000):∃ S',Xu [.ref 3,x.V] S=.ok (Q6c s x) S'/\LS (Jd n s x) S'/\S'.length=S.length/\∀ t,3<=t->S'[t]?=S[t]?:=by
 have b0:=(O0.mp h.now).1;have b1:=(O0.mp h.last).1;have b2:=(O0.mp h.le).1;have G:∀ xs:List Tab,LS ⟨xs,s.last,s.le⟩ (S.set 0 (.lst (xs.map Q4))):=fun xs=>⟨E7 b0,by rw [O9 (by decide)]; exact h.last,by rw [O9 (by decide)]; exact h.le,by rw [O9 (by decide)]; exact h.st⟩
 have ext:∀ (k:Nat) (c:Cell),k < 3->∀ t,3<=t->(S.set k c)[t]?=S[t]?:=fun k c hk t ht=>O9 (by omega)
 have U:∀ (k:Nat) (c:Cell),fin S (.str "done") (S.set k c)=.ok (.str "done") (S.set k c):=fun k c=>Q5i D9 rfl
 cases x with
 | own d=>
  have O:=Dd.ok_h o;have hi:d.h < s.now.length:=by rw [r.ln]; exact O
  have w:=r.wn d.h O;have h8:=w.n8;have ix:=x9 h.now hi;have er:=Q0w w.sz (by omega) O S;have en:Zt S [.ref 0]=.ok (.int n) S:=by
   have hV:ListAt S (.ref 0) (s.now.map Q4):=.inr (.inr ⟨0,rfl,h.now⟩);rw [hV.len,O2,r.ln]
  have ea:=Q0x w.sz (by omega) O (Dd.ok_pl o) d.k S;have es:=Q6d h.now hi (d.put n (s.now.getD d.h []));have J:∀ (B:Str) (pl:PV),oIx S d.V (.int 0)=.ok (.str B) S->¬ B = "keep" -> ¬ B = "fall" -> ¬ B = "send" -> ¬ B = "come" -> (B = "make" <-> d.isM=true)->oIx S d.V (.int 2)=.ok pl S->Q5p "make" "use" "lend" (.int d.h) (.int n) pl S (.str B)=.ok (.int (d.pl n)) S ->
    Wb [some (.ref 3),some d.V,none,none,none,none] S=(if d.fits (s.now.getD d.h [])=true then .rt (.str "done") (S.set 0 (.lst ((s.now.set d.h (d.put n (s.now.getD d.h []))).map Q4))) else .rt (.int (Qi (s.now.getD d.h []) d.h)) S):=by
   intro B pl a0 k1 k2 k3 k4 km a2 pk;refine Qb (Γ1:=[some (.ref 3),some d.V,some (.ref 0),none,none,none]) (Qr (yr rfl rfl h.gn)) ?_;have I:∀ Z a3:Option PV,∀ u:Str,¬ B=u->toB (mOp oEq (mOp oIx (Q2 1) (mC (.int 0))) (mC (.str u))) [some (.ref 3),some d.V,some (.ref 0),none,Z,a3] S=.ok false S:=fun Z a3 u hu=>Qq (Q7 (Q7 rfl rfl a0) rfl (qc S hu))
   have c1:J2 3 (mOp oIx (Q2 1) (mC (.int 1))) [some (.ref 3),some d.V,some (.ref 0),none,none,none] S=.nx [some (.ref 3),some d.V,some (.ref 0),some (.int d.h),none,none] S:=Qr (Q7 rfl rfl (Dd.a1 d S));have c2:J2 4 (Q9 2 J8 (Q1 (mOp oIx (Q2 2) (Q2 3)) (Q1 (Q2 3) Q5))) [some (.ref 3),some d.V,some (.ref 0),some (.int d.h),none,none] S=.nx [some (.ref 3),some d.V,some (.ref 0),some (.int d.h),some (.int (Qi (s.now.getD d.h []) d.h)),none] S:=Qr (Qg (n:=2) (Q3 (Q7 rfl rfl ix) (Q3 rfl rfl)) rfl er);have al:mOp oIx (Q2 1) (Q2x (mC (.int 1))) [some (.ref 3),some d.V,some (.ref 0),some (.int d.h),some (.int (Qi (s.now.getD d.h []) d.h)),none] S=.ok (.int d.k) S:=Q7 rfl rfl (Dd.al d S);have cond:Q10 (toB (mOp oNe (mOp oIx (Q2 1) (mC (.int 0))) (mC (.str "make")))) (toB (mOp oLt (Q2 4) (mOp oIx (Q2 1) (Q2x (mC (.int 1)))))) [some (.ref 3),some d.V,some (.ref 0),some (.int d.h),some (.int (Qi (s.now.getD d.h []) d.h)),none] S=.ok (!d.fits (s.now.getD d.h [])) S:=by
    unfold Dd.fits;cases hm:d.isM with
    | true=>
     have hw:=km.mpr hm;rw [Bool.true_or,gF];exact Qq6 (Qq (Q7 (Q7 rfl rfl a0) rfl (show oNe S (.str B) (.str "make")=.ok (.bl false) S by rw [hw]; simp)))
    | false=>
     have hw:¬ B = "make" := fun z=>by rw [km.mp z] at hm; cases hm
     refine (Qek (Qq (Q7 (Q7 rfl rfl a0) rfl (show oNe S (.str B) (.str "make")=.ok (.bl true) S by simp [hw]))) ?_)
     by_cases q:d.k<=Qi (s.now.getD d.h []) d.h
     ·rw [bR q];exact Qq (Q7 rfl al (Q8b S (by omega)))
     ·rw [bQ q];exact Qq (Q7 rfl al (Q8a S (by omega)))
   by_cases q:d.fits (s.now.getD d.h [])=true
   ·rw [bO q];rw [q] at cond;have c3:J2 5 (Qdr "make" "use" "lend" (Q2 3) (Qm Zt (Q1 (Q2 2) Q5)) (mOp oIx (Q2 1) (mC (.int 2))) (mOp oIx (Q2 1) (mC (.int 0)))) [some (.ref 3),some d.V,some (.ref 0),some (.int d.h),some (.int (Qi (s.now.getD d.h []) d.h)),none] S=.nx [some (.ref 3),some d.V,some (.ref 0),some (.int d.h),some (.int (Qi (s.now.getD d.h []) d.h)),some (.int (d.pl n))] S:=by
     refine Qr ?_;rw [Qnh,show Q2 3 [some (PV.ref 3),some d.V,some (.ref 0),some (.int d.h),some (.int (Qi (s.now.getD d.h []) d.h)),none] S=.ok (.int d.h) S from rfl,Qn,Yq (Q3 (m:=Q2 2) (p:=.ref 0) rfl rfl) en,Qn,Q7 rfl rfl a2,Qn,Q7 rfl rfl a0,Qn,pk]
    have c4:y3 (Q2 2) (Q2 3) (Q9 4 Zh (Q1 (mOp oIx (Q2 2) (Q2 3)) (Q1 (Q2 3) (Q1 (Q2 5) (Q1 (mOp oIx (Q2 1) (Q2x (mC (.int 1)))) Q5))))) [some (.ref 3),some d.V,some (.ref 0),some (.int d.h),some (.int (Qi (s.now.getD d.h []) d.h)),some (.int (d.pl n))] S=.nx [some (.ref 3),some d.V,some (.ref 0),some (.int d.h),some (.int (Qi (s.now.getD d.h []) d.h)),some (.int (d.pl n))] (S.set 0 (.lst ((s.now.set d.h (d.put n (s.now.getD d.h []))).map Q4))):=
     Q4n (Qg (n:=4) (Q3 (Q7 rfl rfl ix) (Q3 rfl (Q3 rfl (Q3 (Q7 rfl rfl (Dd.al d S)) rfl)))) rfl ea) rfl rfl es
    exact Qb (W0 (I none none _ k1) (W0 (I none none _ k2) (W0 (I none none _ k3) (W0 (I none none _ k4) (Qb c1 (Qb c2 (Qb (W0 cond rfl) (Qb c3 c4)))))))) rfl
   ·rw [bP q];rw [Bool.not_eq_true] at q;rw [q] at cond;exact j8 (W0 (I none none _ k1) (W0 (I none none _ k2) (W0 (I none none _ k3) (W0 (I none none _ k4) (Qb c1 (Qb c2 (j8 (y6 cond rfl))))))))
  have j:Wb [some (.ref 3),some d.V,none,none,none,none] S=(if d.fits (s.now.getD d.h [])=true then .rt (.str "done") (S.set 0 (.lst ((s.now.set d.h (d.put n (s.now.getD d.h []))).map Q4))) else .rt (.int (Qi (s.now.getD d.h []) d.h)) S):=by
   cases d with
   | mk O k=>exact J "make" (.int k) rfl Jp Jq Jn Jr ⟨fun _=>rfl,fun _=>rfl⟩ rfl (by rw [Q4w,bO rfl]; rfl)
   | ld O q k=>exact J "lend" (.int q) rfl Jt Ju Js Jv ⟨fun z=>absurd z Ja,fun z=>by cases z⟩ rfl (by rw [Q4w,bP Ja,bP Zp,bO rfl]; rfl)
   | us O k=>exact J "use" (.int k) rfl Zk Zm Zi Zn ⟨fun z=>absurd z Jw,fun z=>by cases z⟩ rfl (by rw [Q4w,bP Jw,bO rfl]; rfl)
  by_cases q:d.fits (s.now.getD d.h [])=true
  ·rw [bO q] at j;have z1:Q6c s (.own d)=.str "done" := bO q;have z2:Jd n s (.own d)=⟨s.now.set d.h (d.put n (s.now.getD d.h [])),s.last,s.le⟩:=bO q;rw [z1,z2];exact ⟨_,(Jm j).trans (U _ _),G _,D9,ext 0 _ (by decide)⟩
  ·rw [bP q] at j;have z1:Q6c s (.own d)=.int (Qi (s.now.getD d.h []) d.h):=bP q;have z2:Jd n s (.own d)=s:=bP q;rw [z1,z2];exact ⟨S,(Jm j).trans (Q4d S _),h,rfl,fun _ _=>rfl⟩
 | kp i=>
  have hi:i < n:=o;have k:Wb [some (.ref 3),some (Dx.kp i).V,none,none,none,none] S=.rt (.str "done") (S.set 1 (.lst ((s.last.set i (s.now.getD i [])).map Q4))):=
   Qb (Γ1:=[some (.ref 3),some (Dx.kp i).V,some (.ref 0),none,none,none]) (Qr (yr rfl rfl h.gn)) (Qb (y6 (Qq (Q7 (Q7 rfl rfl rfl) rfl (Q4e S _))) (Q4n (Q7 rfl (Q7 rfl rfl rfl) (x9 h.now (by rw [r.ln]; exact hi))) (yr rfl rfl h.gl) (Q7 rfl rfl rfl) (Q6d h.last (by rw [r.ll]; exact hi) _))) rfl)
  exact ⟨_,(Jm k).trans (U _ _),⟨by rw [O9 (by decide)]; exact h.now,E7 b1,by rw [O9 (by decide)]; exact h.le,by rw [O9 (by decide)]; exact h.st⟩,D9,ext 1 _ (by decide)⟩
 | fl i=>
  have hi:i < n:=o;have k:Wb [some (.ref 3),some (Dx.fl i).V,none,none,none,none] S=.rt (.str "done") (S.set 0 (.lst ((s.now.set i (s.last.getD i [])).map Q4))):=
   Qb (Γ1:=[some (.ref 3),some (Dx.fl i).V,some (.ref 0),none,none,none]) (Qr (yr rfl rfl h.gn)) (Qb (W0 (Qq (Q7 (Q7 rfl rfl rfl) rfl (qc S Jg))) (y6 (Qq (Q7 (Q7 rfl rfl rfl) rfl (Q4e S _))) (Q4n (Q7 (yr rfl rfl h.gl) (Q7 rfl rfl rfl) (x9 h.last (by rw [r.ll]; exact hi))) rfl (Q7 rfl rfl rfl) (Q6d h.now (by rw [r.ln]; exact hi) _)))) rfl)
  exact ⟨_,(Jm k).trans (U _ _),G _,D9,ext 0 _ (by decide)⟩
 | sd i=>
  have hi:i < n:=o;have k:Wb [some (.ref 3),some (Dx.sd i).V,none,none,none,none] S=.rt (.str "done") (S.set 2 (.lst (s.le.map Q4 ++ [Q4 (s.last.getD i [])]))):=
   Qb (Γ1:=[some (.ref 3),some (Dx.sd i).V,some (.ref 0),none,none,none]) (Qr (yr rfl rfl h.gn)) (Qb (W0 (Qq (Q7 (Q7 rfl rfl rfl) rfl (qc S Je))) (W0 (Qq (Q7 (Q7 rfl rfl rfl) rfl (qc S Jf))) (y6 (Qq (Q7 (Q7 rfl rfl rfl) rfl (Q4e S _)))
    (Q3t (yr rfl rfl h.ge) (W7 h.le) (Q3 (Q7 (yr rfl rfl h.gl) (Q7 rfl rfl rfl) (x9 h.last (by rw [r.ll]; exact hi))) rfl) (Q2n h.le (by rw [O2]; omega) _))))) rfl)
  refine ⟨_,(Jm k).trans (U _ _),⟨by rw [O9 (by decide)]; exact h.now,by rw [O9 (by decide)]; exact h.last,?_,by rw [O9 (by decide)]; exact h.st⟩,D9,ext 2 _ (by decide)⟩;rw [E7 b2];show _=some (Cell.lst ((s.le ++ [s.last.getD i []]).map Q4));rw [F0]; rfl
 | cm l i=>
  obtain ⟨Y,hi⟩:=o;have wN:=r.wn i hi;have hm:s.le.getD l []∈s.le:=D4 (getD_some Y []);have wL:=r.we _ hm;have h8:=wN.n8;have ej:=Q90 (a:=s.now.getD i []) (b:=s.le.getD l []) (by rw [wN.len,wL.len]) (by rw [wN.len]; omega) (fun q hq=>by rw [wN.row q hq]; omega) S;have k:Wb [some (.ref 3),some (Dx.cm l i).V,none,none,none,none] S=.rt (.str "done") (S.set 0 (.lst ((s.now.set i (Zf (s.now.getD i []) (s.le.getD l []))).map Q4))):=
   Qb (Γ1:=[some (.ref 3),some (Dx.cm l i).V,some (.ref 0),none,none,none]) (Qr (yr rfl rfl h.gn)) (Qb (W0 (Qq (Q7 (Q7 rfl rfl rfl) rfl (qc S Ji))) (W0 (Qq (Q7 (Q7 rfl rfl rfl) rfl (qc S Jj))) (W0 (Qq (Q7 (Q7 rfl rfl rfl) rfl (qc S Jh))) (y6 (Qq (Q7 (Q7 rfl rfl rfl) rfl (Q4e S _)))
    (Q4n (Qg (n:=2) (Q3 (Q7 rfl (Q7 rfl rfl rfl) (x9 h.now (by rw [r.ln]; exact hi))) (Q3 (Q7 (yr rfl rfl h.ge) (Q7 rfl rfl rfl) (x9 h.le Y)) rfl)) rfl ej) rfl (Q7 rfl rfl rfl) (Q6d h.now (by rw [r.ln]; exact hi) _)))))) rfl)
  exact ⟨_,(Jm k).trans (U _ _),G _,D9,ext 0 _ (by decide)⟩
structure RB (n:Nat) (M:Int) (s:RS):Prop where
 now:∀ i,i < n->Bd n M (s.now.getD i [])
 last:∀ i,i < n->Bd n M (s.last.getD i [])
 le:∀ L∈s.le,Bd n M L
def Dx.kb (M:Int):Dx->Prop
 | .own d=>d.k<=9 * M
 | _=>True
theorem RB.up {n:Nat} {M K:Int} {s:RS} (b:RB n M s) (h:M<=K):RB n K s:=⟨fun i hi=>(b.now i hi).up h,fun i hi=>(b.last i hi).up h,fun L j=>(b.le L j).up h⟩
theorem RB.step {n t:Nat} {s:RS} (b:RB n (bM t) s) (r:RI n s) {x:Dx} (o:x.ok n s) (k:x.kb (bM t)):RB n (bM (t + 1)) (Jd n s x):=by
 have g:=Q8z t;have Y:bM t<=bM (t + 1):=by rw [Q4k]; omega
 have u:=b.up Y;have one:∀ {xs:List Tab} {h:Nat} {v:Tab},xs.length=n->h < n->(∀ i,i < n->Bd n (bM (t + 1)) (xs.getD i []))->Bd n (bM (t + 1)) v->∀ i,i < n->Bd n (bM (t + 1)) ((xs.set h v).getD i []):=fun {xs h v} hl z B hv i hi=>by
  rw [J4 (by omega)]
  split
  ·exact hv
  ·exact B i hi
 cases x with
 | own d=>
  have z:=Dd.ok_h o
  by_cases q:d.fits (s.now.getD d.h [])=true
  ·have G:Jd n s (.own d)=⟨s.now.set d.h (d.put n (s.now.getD d.h [])),s.last,s.le⟩:=bO q;rw [G];have k:d.k<=9 * bM t:=k;exact ⟨one r.ln z u.now ((b.now _ z).put (r.wn _ z) o (by rw [Q4k]; omega)),u.last,u.le⟩
  ·have G:Jd n s (.own d)=s:=bP q;rw [G]; exact u
 | kp i=>exact ⟨u.now,one r.ll o u.last (u.now i o),u.le⟩
 | fl i=>exact ⟨one r.ln o u.now (u.last i o),u.last,u.le⟩
 | sd i=>
  refine ⟨u.now,u.last,fun L U=>?_⟩;rcases F6.mp U with h | h
  ·exact u.le L h
  ·rw [cz.mp h]; exact u.last i o
 | cm l i=>
  obtain ⟨J,z⟩:=o;have O:s.le.getD l []∈s.le:=D4 (getD_some J []);refine ⟨one r.ln z u.now ⟨fun a j B I=>?_⟩,u.last,u.le⟩;rw [We (r.wn i z).sz (r.we _ O).sz B I];have h1:=(u.now i z).le a j B I;have h2:=(u.le _ O).le a j B I;rcases Qbq (ent (s.now.getD i []) a j) (ent (s.le.getD l []) a j) with e | e
  ·rw [e]; exact h1
  ·rw [e]; exact h2
theorem J01 {S:Q0} {k:Nat} {xs:List Tab} (h:S[k]?=some (.lst (xs.map Q4))) (j:xs≠[]):oEq S (.ref k) (.lst [])=.ok (.bl false) S:=by
 have g:Jk dep (.lst (xs.map Q4))=true:=by
  simp [dep,Jk,Q4,Qk]
 cases xs with
 | nil=>exact absurd rfl j
 | cons a xs=>
  have g2:Jk dep (.lst [])=true:=rfl;have hp:peq (.lst (Q4 a :: xs.map Q4)) (.lst [])=false:=by rw [peq]; rfl
  simp only [F7] at h g;simp [oEq,der,h,g,g2,hp]
abbrev drG (L:Nat) (c2 c3 c4 c5 c6:Option PV):Gam:=[some (.ref L),some (.ref 3),c2,c3,c4,c5,c6]
theorem Qjw {n t L:Nat} {s:RS} {S:Q0} (h:LS s S) (r:RI n s) (b:RB n (bM t) s) (ht:t<=60) (T:Tp S L) (hL:4<=L) (b0:s.le.length < 90) (h1:1<=n) (h8:n<=8) :
  ∃ (x:Dx) (U:Q0),x.ok n s/\x.kb (bM t)/\Tp U L/\Mv L S U/\V9 [.ref L,.ref 3] S=.ok x.V U:=by
 have en:Zt S [.ref 0]=.ok (.int n) S:=by
  have hV:ListAt S (.ref 0) (s.now.map Q4):=.inr (.inr ⟨0,rfl,h.now⟩);rw [hV.len,O2,r.ln]
 obtain ⟨i,S1,hi,T1,M1,e1⟩:=Ys T n h1 (by omega);obtain ⟨y,S2,hy,T2,M2,e2⟩:=Ys T1 12 (by decide) (by decide);have e2:Qc [.ref L,.int 12] S1=.ok (.int y) S2:=e2;have a5:=M1.trans M2;have l2:=h.mv a5 hL;have w:=r.wn i hi;have e3:=Q0w w.sz (by omega) hi S2;have ix:=x9 l2.now (show i < s.now.length by rw [r.ln]; exact hi);obtain ⟨v,hv⟩:∃ v:Nat,(if Qi (s.now.getD i []) i > 0 then Qi (s.now.getD i []) i else 0)=(v:Int):=⟨(if Qi (s.now.getD i []) i > 0 then Qi (s.now.getD i []) i else 0).toNat,by split <;> omega⟩;have g:=Q8z t;have a9:(v:Int)<=8 * bM t:=by
  have:=Q4u w (b.now i hi) (by omega) hi;rw [<- hv]; split <;> omega
 have a8:=Quf (t:=t) ht;have a6:v + 2 < 2 ^ 8000:=Qgc (by
  have:((v + 2:Nat):Int) < 10 ^ 100:=by omega
  exact_mod_cast this)
 obtain ⟨z,B,hz,T3,M3,e4⟩:=Q2p T2 (v + 2) (by omega) a6;have e4:Qc [.ref L,.int ((v:Int) + 2)] S2=.ok (.int z) B:=e4;have I:=a5.trans M3;have l3:=h.mv I hL;have em:Q8x S2 [.int 0,.int (Qi (s.now.getD i []) i)]=.ok (.int v) S2:=by rw [Qee,hv]
 have k1:J2 2 (Qm Zt (Q1 (U1 (Q2 1) (mC (.str "now"))) Q5)) (drG L none none none none none) S=.nx (drG L (some (.int n)) none none none none) S:=Qr (Yq (Q3 (yr rfl rfl h.gn) rfl) en);have k2:J2 3 (Q9 2 Qc (Q1 (Q2 0) (Q1 (Q2 2) Q5))) (drG L (some (.int n)) none none none none) S=.nx (drG L (some (.int n)) (some (.int i)) none none none) S1:=Qr (Qg (n:=2) (Q3 rfl (Q3 rfl rfl)) rfl e1);have k3:J2 4 (Q9 2 Qc (Q1 (Q2 0) (Q1 (mC (.int 12)) Q5))) (drG L (some (.int n)) (some (.int i)) none none none) S1=.nx (drG L (some (.int n)) (some (.int i)) (some (.int y)) none none) S2:=Qr (Qg (n:=2) (Q3 rfl (Q3 rfl rfl)) rfl e2);have k4:J2 5 (Qm Q8x (Q1 (mC (.int 0)) (Q1 (Q9 2 J8 (Q1 (mOp oIx (U1 (Q2 1) (mC (.str "now"))) (Q2 3)) (Q1 (Q2 3) Q5))) Q5))) (drG L (some (.int n)) (some (.int i)) (some (.int y)) none none) S2=.nx (drG L (some (.int n)) (some (.int i)) (some (.int y)) (some (.int v)) none) S2:=Qr (Yq (Q3 rfl (Q3 (Qg (n:=2) (Q3 (Q7 (yr rfl rfl l2.gn) rfl ix) (Q3 rfl rfl)) rfl e3) rfl)) em)
 obtain ⟨G,hG⟩:∃ G,drG L (some (.int n)) (some (.int i)) (some (.int y)) (some (.int v)) (some (.int (1 + (z:Int))))=G:=⟨_,rfl⟩;have k5:J2 6 (mOp Yj (mC (.int 1)) (Q9 2 Qc (Q1 (Q2 0) (Q1 (mOp Yj (Q2 5) (mC (.int 2))) Q5)))) (drG L (some (.int n)) (some (.int i)) (some (.int y)) (some (.int v)) none) S2=.nx G B:=by
  rw [<- hG];exact Qr (Q7 rfl (Qg (n:=2) (Q3 rfl (Q3 (Q7 rfl rfl (Q26 S2 _ _)) rfl)) rfl e4) (Q26 B _ _))
 have v0:Q2 0 G B=.ok (.ref L) B:=by rw [<- hG]; rfl
 have v1:Q2 1 G B=.ok (.ref 3) B:=by rw [<- hG]; rfl
 have v2:∀ S,Q2 2 G S=.ok (.int n) S:=fun S=>by rw [<- hG]; rfl
 have v3:∀ S,Q2 3 G S=.ok (.int i) S:=fun S=>by rw [<- hG]; rfl
 have Y:Q2 4 G B=.ok (.int y) B:=by rw [<- hG]; rfl
 have v6:∀ S,Q2 6 G S=.ok (.int (1 + (z:Int))) S:=fun S=>by rw [<- hG]; rfl
 have fg:∀ {U:Q0} (x:Dx),Mv L S U->fin S x.V U=.ok x.V U:=fun {U} x M=>Q5i M.len (by cases x with | own d=>cases d <;> rfl | _=>rfl)
 have J:∀ (x:Dx) (U:Q0),Mv L S U->_->V9 [.ref L,.ref 3] S=.ok x.V U:=fun x U M (q:_=SR.rt x.V U)=>(Jm (m:=zx) (nl:=7) (ps:=[.ref L,.ref 3]) (Qb k1 (Qb k2 (Qb k3 (Qb k4 (Qb k5 q)))))).trans (fg x M)
 by_cases q0:y=0
 ·obtain ⟨k,O,hk,T4,Z,e5⟩:=Qem T3;refine ⟨.own (.mk i k),O,⟨hi,hk.1⟩,?_,T4,I.trans Z,J _ _ (I.trans Z) (j8 (y6 (Qq (Q7 Y rfl (Q4f B (by omega)))) (Yv (Vx (Q3 rfl (Q3 (v3 B) (Q3 (Qg (n:=1) (Q3 v0 rfl) rfl e5) rfl))) (by simp)))))⟩;show k<=9 * bM t;omega
 have t0:Y2 (toB (mOp oEq (Q2 4) (mC (.int 0)))) (J9 (U8 (Q1 (mC (.str "make")) (Q1 (Q2 3) (Q1 (Q9 1 Wg (Q1 (Q2 0) Q5)) Q5))))) Ze G B=.nx G B:=W0 (Qq (Q7 Y rfl (Q4g B (by omega)))) rfl
 by_cases q1:y < 4/\1 < n
 ·obtain ⟨u,O,hu,T4,Z,e5⟩:=Ys T3 (n - 1) (by omega) (by omega);have e5:Qc [.ref L,.int ((n:Int) - 1)] B=.ok (.int u) O:=by rw [show ((n:Int) - 1)=((n - 1:Nat):Int) by omega]; exact e5
  obtain ⟨j,ej,hj,a2⟩:=Qgx hi hu;refine ⟨.own (.ld i j (1 + (z:Int))),O,⟨hi,hj,a2,by omega⟩,?_,T4,I.trans Z,J _ _ (I.trans Z) (Qb t0 (j8 (y6 (Qek (Qq (Q7 Y rfl (Q8a B (by omega)))) (Qq (Q7 (v2 B) rfl (Qub B (by omega))))) (Yv (Vx (Q3 rfl (Q3 (v3 B) (Q3 (Q7 (Q7 (Q7 (v3 B) rfl (Q26 B _ _)) (Qg (n:=2) (Q3 v0 (Q3 (Q7 (v2 B) rfl (Qkf B _ _)) rfl)) rfl e5) (Q26 O _ _)) (v2 O) (by rw [Qwf O (by omega),ej])) (Q3 (v6 O) rfl)))) (by simp))))))⟩;show 1 + (z:Int)<=9 * bM t;omega
 have t1:Y2 (Q10 (toB (mOp oLt (Q2 4) (mC (.int 4)))) (toB (mOp (oI fun a b=>.bl (decide (b < a))) (Q2 2) (mC (.int 1))))) (J9 (U8 (Q1 (mC (.str "lend")) (Q1 (Q2 3) (Q1 (mOp Q43 (mOp Yj (mOp Yj (Q2 3) (mC (.int 1))) (Q9 2 Qc (Q1 (Q2 0) (Q1 (mOp (oI fun a b=>.int (a - b)) (Q2 2) (mC (.int 1))) Q5)))) (Q2 2)) (Q1 (Q2 6) Q5)))))) Ze G B=.nx G B:=by
  refine W0 ?_ rfl
  by_cases q2:y < 4
  ·exact Qek (Qq (Q7 Y rfl (Q8a B (by omega)))) (Qq (Q7 (v2 B) rfl (Quc B (by omega))))
  ·exact Qq6 (Qq (Q7 Y rfl (Q8b B (by omega))))
 by_cases q2:y < 6
 ·refine ⟨.own (.us i (1 + (z:Int))),B,⟨hi,by omega⟩,?_,T3,I,J _ _ I (Qb t0 (Qb t1 (j8 (y6 (Qq (Q7 Y rfl (Q8a B (by omega)))) (Yv (Vx (Q3 rfl (Q3 (v3 B) (Q3 (v6 B) rfl))) (by simp)))))))⟩;show 1 + (z:Int)<=9 * bM t;omega
 have t2:Y2 (toB (mOp oLt (Q2 4) (mC (.int 6)))) (J9 (U8 (Q1 (mC (.str "use")) (Q1 (Q2 3) (Q1 (Q2 6) Q5))))) Ze G B=.nx G B:=W0 (Qq (Q7 Y rfl (Q8b B (by omega)))) rfl
 by_cases q3:y < 8
 ·obtain ⟨u,O,hu,T4,Z,e5⟩:=Ys T3 3 (by decide) (by decide);have e5:Qc [.ref L,.int 3] B=.ok (.int u) O:=e5;have a3:Q9q (Q1 (mC (.str "keep")) (Q1 (mC (.str "fall")) Q5)) G B=.ok (.lst [.str "keep",.str "fall"]) B:=Qq3 rfl;have a4:Q9 2 Qc (Q1 (Q2 0) (Q1 (mC (.int 3)) Q5)) G B=.ok (.int u) O:=Qg (n:=2) (Q3 v0 (Q3 rfl rfl)) rfl e5
  by_cases qu:u=0
  ·refine ⟨.fl i,O,hi,trivial,T4,I.trans Z,J _ _ (I.trans Z) (Qb t0 (Qb t1 (Qb t2 (j8 (y6 (Qq (Q7 Y rfl (Q8a B (by omega)))) (Yv (Vx (Q3 (Q7 a3 (Yq (Q3 (Q7 a4 rfl (Q4f O (by omega))) rfl) rfl) rfl) (Q3 (v3 O) rfl)) (by simp))))))))⟩
  ·refine ⟨.kp i,O,hi,trivial,T4,I.trans Z,J _ _ (I.trans Z) (Qb t0 (Qb t1 (Qb t2 (j8 (y6 (Qq (Q7 Y rfl (Q8a B (by omega)))) (Yv (Vx (Q3 (Q7 a3 (Yq (Q3 (Q7 a4 rfl (Q4g O (by omega))) rfl) rfl) rfl) (Q3 (v3 O) rfl)) (by simp))))))))⟩
 have t3:∀ X,Y2 (toB (mOp oLt (Q2 4) (mC (.int 8)))) X Ze G B=.nx G B:=fun X=>W0 (Qq (Q7 Y rfl (Q8b B (by omega)))) rfl
 have ed:U1 (Q2 1) (mC (.str "letters")) G B=.ok (.ref 2) B:=yr v1 rfl l3.ge
 by_cases q4:y=8\/s.le=[]
 ·refine ⟨.sd i,B,hi,trivial,T3,I,J _ _ I (Qb t0 (Qb t1 (Qb t2 (Qb (t3 _) (j8 (y6 ?_ (Yv (Vx (Q3 rfl (Q3 (v3 B) rfl)) (by simp)))))))))⟩
  by_cases q5:y=8
  ·exact Qzg (Qq (Q7 Y rfl (Q4f B (by omega))))
  ·have hz:s.le=[]:=q4.resolve_left q5;have hV:ListAt B (.ref 2) []:=.inr (.inr ⟨2,rfl,by rw [l3.le,hz]; rfl⟩);exact Qbf (Qq (Q7 Y rfl (Q4g B (by omega)))) (Qq (Q7 ed rfl (hV.eqs rfl).2.2.2))
 ·have a2:s.le≠[]:=fun z=>q4 (.inr z)
  have a7:1<=s.le.length:=by cases hs:s.le with | nil=>exact absurd hs a2 | cons a b=>simp
  obtain ⟨u,O,hu,T4,Z,e5⟩:=Ys T3 s.le.length a7 (by omega);have hV:ListAt B (.ref 2) (s.le.map Q4):=.inr (.inr ⟨2,rfl,l3.le⟩);have el:Zt B [.ref 2]=.ok (.int s.le.length) B:=by rw [hV.len,O2]
  have ne:oEq B (.ref 2) (.lst [])=.ok (.bl false) B:=J01 l3.le a2;have t4:Y2 (Q1c (toB (mOp oEq (Q2 4) (mC (.int 8)))) (toB (mOp oEq (U1 (Q2 1) (mC (.str "letters"))) (Q9q Q5)))) (J9 (U8 (Q1 (mC (.str "send")) (Q1 (Q2 3) Q5)))) Ze G B=.nx G B:=W0 (Qbf (Qq (Q7 Y rfl (Q4g B (by omega)))) (Qq (Q7 ed rfl ne))) rfl;exact ⟨.cm u i,O,⟨hu,hi⟩,trivial,T4,I.trans Z,J _ _ (I.trans Z) (Qb t0 (Qb t1 (Qb t2 (Qb (t3 _) (Qb t4 (Yv (Vx (Q3 rfl (Q3 (Qg (n:=2) (Q3 v0 (Q3 (Yq (Q3 ed rfl) el) rfl)) rfl e5) (Q3 (v3 O) rfl))) (by simp))))))))⟩
theorem Qej (xs:List PV) (v:PV):atI (xs ++ [v]) (-1)=some v:=by
 have e:ixN (xs ++ [v]).length (-1)=some xs.length:=by
  rw [O6];unfold ixN;rw [bP (by omega),bO (by simp; omega)];simp; omega
 unfold atI;rw [e];simp
structure AI (n:Nat) (tb:Tab) (xs:List Dx) (S:Q0):Prop where
 ok:OkL n (s0 n tb) xs
 ls:LS (Zr n (s0 n tb) xs) S
 de:S[4]?=some (.lst (xs.map Dx.V))
 an:S[5]?=some (.lst (Q25 n (s0 n tb) xs))
 rb:RB n (bM (8 + xs.length)) (Zr n (s0 n tb) xs)
 len:6<=S.length
abbrev apG (ns:List Int) (m:Nat) (tb:Tab) (c7 c8 c9:Option PV):Gam:=[some (.fro (ns.map .int)),some (.int 1),some (.int m),some (Q4 tb),some (.ref 3),some (.ref 4),some (.ref 5),c7,c8,c9]
theorem Qxf {n:Nat} {tb:Tab} (w:Wt' n tb) {xs:List Dx} {S:Q0} {L:Nat} (I:AI n tb xs S) (T:Tp S L) (hL:6<=L) (hx:xs.length<=45) (ns:List Int) (m:Nat) (c7 c9:Option PV):∃ (x:Dx) (J:Q0),Ua (apG ns m tb c7 (some (.ref L)) c9) S=.nx (apG ns m tb c7 (some (.ref L)) c9) J/\AI n tb (xs ++ [x]) J/\Tp J L:=by
 have r:=(RI.start w).run I.ok;have a5:=Qfz n xs (s0 n tb);have a4:(s0 n tb).le.length=0:=rfl;obtain ⟨x,S1,U,kx,T1,M1,e1⟩:=Qjw I.ls r I.rb (by omega) T (by omega) (by omega) w.n1 w.n8;have l1:=I.ls.mv M1 (by omega);have Z:S1[4]?=some (.lst (xs.map Dx.V)):=by rw [M1.keep 4 (by omega)]; exact I.de
 have a1:S1[5]?=some (.lst (Q25 n (s0 n tb) xs)):=by rw [M1.keep 5 (by omega)]; exact I.an
 have b4:=(O0.mp Z).1;have b5:=(O0.mp a1).1;have B:=Q2n Z (by rw [O2]; omega) x.V;obtain ⟨q,j⟩:∃ q,S1.set 4 (.lst (xs.map Dx.V ++ [x.V]))=q:=⟨_,rfl⟩;rw [j] at B;have d2:q[4]?=some (.lst (xs.map Dx.V ++ [x.V])):=by rw [<- j]; exact E7 b4
 have k2:∀ t,t≠4->q[t]?=S1[t]?:=fun t Y=>by rw [<- j]; exact O9 (by omega)
 have l2:LS (Zr n (s0 n tb) xs) q:=l1.of fun t Y=>k2 t (by omega)
 have a2:q[5]?=some (.lst (Q25 n (s0 n tb) xs)):=by rw [k2 5 (by omega)]; exact a1
 obtain ⟨S3,e2,l3,z,k3⟩:=Qq4 l2 r U (by omega);have a3:S3[5]?=some (.lst (Q25 n (s0 n tb) xs)):=by rw [k3 5 (by omega)]; exact a2
 have G:=(O0.mp a3).1;have hV:ListAt q (.ref 4) (xs.map Dx.V ++ [x.V]):=.inr (.inr ⟨4,rfl,d2⟩);have ix:oIx q (.ref 4) (.int (-1))=.ok x.V q:=by rw [hV.ix,Qej]; rfl
 have O:=Q2n a3 (by rw [Qcd]; omega) (Q6c (Zr n (s0 n tb) xs) x);have er:Zr n (s0 n tb) (xs ++ [x])=Jd n (Zr n (s0 n tb) xs) x:=by rw [qf]; rfl
 have ea:Q25 n (s0 n tb) (xs ++ [x])=Q25 n (s0 n tb) xs ++ [Q6c (Zr n (s0 n tb) xs) x]:=by rw [Qce]; rfl
 refine ⟨x,_,Qb (Q3t (p:=.ref 4) rfl (W7 I.de) (Q3 (Qg (n:=2) (Q3 rfl (Q3 rfl rfl)) rfl e1) rfl) B) (Q3t (p:=.ref 5) rfl (W7 a2) (Q3 (Qg (n:=2) (Q3 rfl (Q3 (Q7 rfl rfl ix) rfl)) rfl e2) rfl) O),⟨?_,?_,?_,?_,?_,?_⟩,?_⟩
 ·exact (qg n xs [x] _).mpr ⟨I.ok,U,trivial⟩
 ·rw [er]; exact l3.of fun t Y=>O9 (by omega)
 ·rw [O9 (by decide),k3 4 (by decide),d2,F0]; rfl
 ·rw [ea,E7 G]
 ·rw [er,O6]; exact I.rb.step r U kx
 ·rw [D9,z,<- j,D9,M1.len]; exact I.len
 ·obtain ⟨c,hc⟩:=T1;exact ⟨c,by rw [O9 (by omega),k3 L (by omega),k2 L (by omega)]; exact hc⟩
theorem Qxg {n:Nat} {tb:Tab} (w:Wt' n tb) {xs:List Dx} {S:Q0} (I:AI n tb xs S) (hx:xs.length<=40) (ns:List Int) (m k:Nat) (c8 J:Option PV):∃ (ys:List Dx) (G:Q0) (d8 d9:Option PV),ys.length=xs.length + 3/\Ub (apG ns m tb (some (.int (1 + (k:Int)))) c8 J) S=.nx (apG ns m tb (some (.int (1 + (k:Int)))) d8 d9) G/\AI n tb ys G:=by
 obtain ⟨c,Y⟩:=Qeh ns (1 + k) S;rw [show ((1 + k:Nat):Int)=1 + (k:Int) by omega] at Y;obtain ⟨S1,q⟩:∃ S1,S ++ [Cell.lst [.int c]]=S1:=⟨_,rfl⟩;rw [q] at Y;have T1:Tp S1 S.length:=⟨c,by rw [<- q]; simp⟩;have hl:=I.len;have k1:∀ t,t < 6->S1[t]?=S[t]?:=fun t ht=>by rw [<- q,O4 (by omega)]
 have I1:AI n tb xs S1:=⟨I.ok,I.ls.of fun t ht=>k1 t (by omega),by rw [k1 4 (by decide)]; exact I.de,by rw [k1 5 (by decide)]; exact I.an,I.rb,by rw [<- q,O6]; omega⟩;obtain ⟨a2,G,e,ys,B,z,rfl,U,_⟩:=Xj (g:=fun k:Nat=>PV.int (k:Int)) (xs:=bS 3) (ga:=Q8 9) (body:=Ua) (w:=[]) (Γ:=apG ns m tb (some (.int (1 + (k:Int)))) (some (.ref S.length)) J) (st:=S1)
  (fun j Γ st=>∃ ys B,ys.length=xs.length + j/\Γ=apG ns m tb (some (.int (1 + (k:Int)))) (some (.ref S.length)) B/\AI n tb ys st/\Tp st S.length) (fun _ _ _ _=>by simp)
  (fun j x Γ st hj ⟨ys,B,z,O,I,T⟩=>by
   subst O;have a3:j < 3:=by simpa using (O0.mp hj).1
   obtain ⟨y,G,e,U,T'⟩:=Qxf w I T hl (by omega) ns m (some (.int (1 + (k:Int)))) (some (.int x));exact ⟨_,rfl,_,_,e,ys ++ [y],_,by rw [O6,z]; rfl,rfl,U,T'⟩)
  ⟨xs,_,rfl,rfl,I1,T1⟩
 rw [<- Y7] at e;have Z:J7 (Q1 (mC (.int 3)) Q5) (apG ns m tb (some (.int (1 + (k:Int)))) (some (.ref S.length)) J) S1=.ok (Jb 0 3,[]) S1:=by
  rw [X0,Q3 (m:=mC (.int 3)) (p:=.int 3) (S1:=S1) rfl (show Q5 _ S1=.ok [] S1 from rfl),Qn];exact bO (by rw [Jc]; omega)
 exact ⟨ys,G,_,_,z,Qb (Γ1:=apG ns m tb (some (.int (1 + (k:Int)))) (some (.ref S.length)) J) (Qr (Qg (n:=2) (Q3 rfl (Q3 rfl rfl)) rfl Y)) (y8 Z e),U⟩
theorem Qjt {n:Nat} {tb:Tab} (w:Wt' n tb):V8 [Q4 tb] []=.ok (.ref 3) [.lst ((bV n tb).map Q4),.lst ((bV n tb).map Q4),.lst [],.dic stD]:=by
 have U:=w.n8;have I:((bS n).map fun _=>Q4 tb)=(bV n tb).map Q4:=by
  rw [gk];exact gm.mpr ⟨by simp,fun b J=>by obtain ⟨_,_,rfl⟩:=cK.mp J; rfl⟩
 have z:∀ S:Q0,J7 (Q1 (Qm Zt (Q1 (Q2 0) Q5)) Q5) [some (Q4 tb)] S=.ok (Jb 0 n,[]) S:=fun S=>by
  have q:Zt S [Q4 tb]=.ok (.int n) S:=by simp [Q4,w.len]
  rw [X0,Q3 (Yq (Q3 (m:=Q2 0) (p:=Q4 tb) (S1:=S) rfl (show Q5 _ S=.ok [] S from rfl)) q) (show Q5 _ S=.ok [] S from rfl),Qn];show (if -(lim:Int)<=(n:Int)/\(n:Int)<=lim then _ else _)=_;rw [bO (by rw [Jc]; omega),cA]
 have G:∀ S:Q0,Qw (Q8 0) Qp Kv [] (Jx [none,some 0] [some (Q4 tb)]) (Jb 0 n) S=.ok ((bV n tb).map Q4) S:=fun S=>by
  rw [Y7,<- I];exact Qu _ _ (by simp) fun j O=>⟨_,rfl,rfl⟩
 have B:∀ S:Q0,Qw (Q8 0) Qp Ku [] (Jx [none,some 0] [some (Q4 tb)]) (Jb 0 n) S=.ok ((bV n tb).map Q4) S:=fun S=>by
  rw [Y7,<- I];exact Qu _ _ (by simp) fun j O=>⟨_,rfl,rfl⟩
 have step:zw [some (Q4 tb)] []=.rt (.ref 3) [.lst ((bV n tb).map Q4),.lst ((bV n tb).map Q4),.lst [],.dic stD]:=by
  refine Yv ?_;rw [Qiv,j7 (Zq (z _) (G _)),Qn,j7 (Zq (z _) (B _)),Qn,j7 (ps:=[]) rfl,Qn];rfl
 exact ju step
theorem Qgd {n:Nat} {tb:Tab} (J:TbI n 8 tb) (ns:List Int) (m:Nat) (hm:m<=13):∃ (xs:List Dx) (z:Q0),xs.length=3 * m/\AI n tb xs z/\Wp [.fro (ns.map .int),.int 1,.int m,Q4 tb] []=.ok (.tup [.ref 4,.ref 5,.ref 3]) z:=by
 have w:=J.w;have e0:=Qjt w;obtain ⟨A,U⟩:∃ A,[Cell.lst ((bV n tb).map Q4),.lst ((bV n tb).map Q4),.lst [],.dic stD]=A:=⟨_,rfl⟩;have A6:A ++ [Cell.lst []] ++ [Cell.lst []]=[Cell.lst ((bV n tb).map Q4),.lst ((bV n tb).map Q4),.lst [],.dic stD,.lst [],.lst []]:=by rw [<- U]; rfl
 have IA:AI n tb [] (A ++ [Cell.lst []] ++ [Cell.lst []]):=by
  rw [A6];refine ⟨trivial,⟨rfl,rfl,rfl,rfl⟩,rfl,rfl,?_,O7 6⟩;have e:∀ i,i < n->(bV n tb).getD i []=tb:=fun i hi=>yh hi
  refine ⟨fun i hi=>?_,fun i hi=>?_,fun L hL=>absurd hL cZ⟩
  ·show Bd n (bM 8) ((bV n tb).getD i []); rw [e i hi]; exact J.b
  ·show Bd n (bM 8) ((bV n tb).getD i []); rw [e i hi]; exact J.b
 rw [U] at e0;have lA:A.length=4:=by rw [<- U]; rfl
 obtain ⟨a4,z,e,xs,Y,G,B,q,rfl,I⟩:=Xj (g:=fun k:Nat=>PV.int (1 + (k:Int))) (xs:=bS m) (ga:=Q8 7) (body:=Ub) (w:=[]) (Γ:=apG ns m tb none none none) (st:=A ++ [Cell.lst []] ++ [Cell.lst []])
  (fun j Γ st=>∃ xs Y G B,xs.length=3 * j/\Γ=apG ns m tb Y G B/\AI n tb xs st) (fun _ _ _ _=>by simp)
  (fun j x Γ st hj ⟨xs,Y,G,B,q,O,I⟩=>by
   subst O;have a3:j < m:=by simpa using (O0.mp hj).1
   obtain ⟨ys,z,d8,d9,a2,e,I'⟩:=Qxg w I (by omega) ns m x G B;exact ⟨_,rfl,_,_,e,ys,_,_,_,by omega,rfl,I'⟩)
  ⟨[],_,_,_,rfl,rfl,IA⟩
 rw [D5] at q;have Z:Q0h (Q1 (Q2 1) (Q1 (mOp Yj (Q2 1) (Q2 2)) Q5)) (apG ns m tb none none none) (A ++ [Cell.lst []] ++ [Cell.lst []])=.ok ((bS m).map fun k:Nat=>PV.int (1 + (k:Int)),[]) (A ++ [Cell.lst []] ++ [Cell.lst []]):=by
  rw [Q87,Q3 (m:=Q2 1) (p:=.int 1) rfl (Q3 (Q7 (a:=Q2 1) (b:=Q2 2) (x:=.int 1) (y:=.int m) rfl rfl (Q26 _ _ _)) (show Q5 _ _=.ok [] _ from rfl)),Qn];show (if -(lim:Int)<=1/\1<=(lim:Int)/\-(lim:Int)<=1 + (m:Int)/\1 + (m:Int)<=lim then _ else _)=_;rw [bO (by rw [Jc]; omega),show (1 + (m:Int) - 1).toNat=m by omega]; rfl
 refine ⟨xs,z,q,I,?_⟩;have s1:J2 4 (Q9 1 V8 (Q1 (Q2 3) Q5)) [some (.fro (ns.map .int)),some (.int 1),some (.int m),some (Q4 tb),none,none,none,none,none,none] []=.nx [some (.fro (ns.map .int)),some (.int 1),some (.int m),some (Q4 tb),some (.ref 3),none,none,none,none,none] A:=Qr (Qg (n:=1) (Q3 rfl rfl) rfl e0);have s2:J2 5 (y0 (z9 Q5)) [some (.fro (ns.map .int)),some (.int 1),some (.int m),some (Q4 tb),some (.ref 3),none,none,none,none,none] A=.nx [some (.fro (ns.map .int)),some (.int 1),some (.int m),some (Q4 tb),some (.ref 3),some (.ref 4),none,none,none,none] (A ++ [.lst []]):=(Qr (j7 (ps:=[]) (S1:=A) rfl)).trans (by rw [lA]; rfl);have s3:J2 6 (y0 (z9 Q5)) [some (.fro (ns.map .int)),some (.int 1),some (.int m),some (Q4 tb),some (.ref 3),some (.ref 4),none,none,none,none] (A ++ [.lst []])=.nx (apG ns m tb none none none) (A ++ [.lst []] ++ [.lst []]):=(Qr (j7 (ps:=[]) (S1:=A ++ [.lst []]) rfl)).trans (by rw [O6,lA]; rfl)
 exact ju (m:=jp) (nl:=10) (Qb s1 (Qb s2 (Qb s3 (Qb (y8 Z e) (Yv (Vx (Q3 rfl (Q3 rfl (Q3 rfl rfl))) (by simp)))))))
theorem Qkg {n:Nat} {tb:List (List Int)} (z:Sz n tb) (O:n<=100) (st:Q0):Q2q [Q4 tb] st=.ok (.int (Q70 n tb)) st:=by
 have q:Qw (Wz (J1 (Q8 0) (J1 (Q8 1) V0))) Qp Q2j [] (Jx [none,none] [some (Q4 tb),none,none]) (tb.zipIdx.map fun z=>.tup [.int (z.2:Nat),Qk z.1]) st=.ok (tb.zipIdx.map fun z=>.int (z.1.getD z.2 0)) st:=by
  refine Qu _ _ (by simp) fun y G=>⟨_,rfl,?_⟩
  have h2:=List.snd_lt_of_mem_zipIdx G;have h1:=z.2 _ (List.fst_mem_of_mem_zipIdx G);have e:=atI_get (getD_some (show y.2 < y.1.length by rw [h1]; rw [z.1] at h2; omega) 0);simp [Jx,Q2j,Qk,Ws,e]
 have j:∀ a,Qw (Q8 0) Qp Q2i [] (Jx [none] [some (Q4 tb),a,none]) (tb.map Qk) st=.ok (tb.map fun r=>.int (r.getD n 0)) st:=fun a=>by
  refine Qu _ _ (by simp) fun r J=>⟨_,rfl,?_⟩
  have B:=z.2 r J;have I:=getD_some (show n < r.length by omega) 0;have e:atI r (-1)=some (r.getD n 0):=by
   unfold atI ixN;rw [bP (by omega),bO (by omega),B,show ((-1:Int) + ((n + 1:Nat):Int)).toNat=n by omega];exact I
  simp [Jx,Q2i,Qk,Ws,e]
 have s1:(tb.zipIdx.map fun z=>z.1.getD z.2 0).sum=Y3 n fun o=>ent tb o o:=by
  rw [Q6t tb [] fun z=>z.1.getD z.2 0,z.1]; rfl
 have s2:(tb.map fun r=>r.getD n 0).sum=Y3 n fun o=>ent tb o n:=by
  rw [Q80 tb [] fun r=>r.getD n 0,z.1]; rfl
 have B:tb.length<=1000000:=by rw [z.1]; omega
 unfold Q70;rw [<- s1,<- s2];unfold Q4 at q j ⊢;simp [Q2q,Qh,Qbs,q,j,B,Jc,Q5j]
theorem Qcg {α:Type}:∀ xs:List α,xs.zip xs=xs.map fun a=>(a,a)
 | []=>rfl
 | a :: j=>by rw [eV,Qcg j]; rfl
theorem Qgp {a b:ME} {Γ:Gam} {S:Q0} {r:Res PV} (h1:a Γ S=.ok (.bl true) S) (h2:b Γ S=r):Q5a a b Γ S=r:=by
 rw [Qst,h1,Qn,h2]; rfl
theorem Qwe (S:Q0) (a:Tab):oNe S (Q4 a) (Q4 a)=.ok (.bl false) S:=by
 have g:Jk dep (Q4 a)=true:=by simp [dep,Jk,Q4,Qk]
 have hp:peq (Q4 a) (Q4 a)=true:=ji g;unfold Q4 at *;simp [oNe,der,g,hp]
theorem Qu7 (S:Q0) {a b:Nat} (h:a≠b):oNe S (.int a) (.int b)=.ok (.bl true) S:=by
 have:¬ ((a:Int)=(b:Int)):=by omega
 simp [this]
theorem Qnb (S:Q0) (a:Int):oNe S (.int a) (.int a)=.ok (.bl false) S:=by simp
theorem Q12 {n:Nat} (j:n<=1000) {m:ME} {Γ:Gam} {S:Q0} (h:m Γ S=.ok (.int n) S):J7 (Q1 m Q5) Γ S=.ok (Jb 0 n,[]) S:=by
 rw [X0,Q3 h (show Q5 Γ S=.ok [] S from rfl),Qn];show (if -(lim:Int)<=(n:Int)/\(n:Int)<=lim then _ else _)=_;rw [bO (by rw [Jc]; omega),cA]
inductive InS (n:Nat) (s:RS):Tab->Prop
 | now {i:Nat}:i < n->InS n s (s.now.getD i [])
 | last {i:Nat}:i < n->InS n s (s.last.getD i [])
 | le {L:Tab}:L∈s.le->InS n s L
def rle (n h:Nat) (A B:Tab):Prop:=∀ j,j<=n->ent A h j<=ent B h j
structure SI17 (n:Nat) (s:RS):Prop where
 ri:RI n s
 ca:∀ A,InS n s A->Ca n A
 ch:∀ A B,InS n s A->InS n s B->∀ h,h < n->rle n h A B\/rle n h B A
theorem RI.top {n:Nat} {s:RS} (r:RI n s) {A:Tab} (k:InS n s A) {h:Nat} (z:h < n):rle n h A (s.now.getD h []):=fun j B=>by
 cases k with
 | @now i hi=>
  by_cases q:i=h
  ·subst q; exact bc _
  ·exact bh (r.bn i h j hi z q B) (r.up h j z B)
 | last hi=>exact bh (r.bl _ h j hi z B) (r.up h j z B)
 | le G=>exact bh (r.be _ G h j z B) (r.up h j z B)
theorem Qht {n:Nat} {f g:Nat->Int} (h:∀ o,o < n->f o<=g o):Y3 n f<=Y3 n g:=by
 induction n with
 | zero=>exact bc _
 | succ n j=>
  rw [J3,J3];have h1:=j fun o q=>h o (by omega)
  have h2:=h n (by omega);omega
theorem Qpn {n:Nat} {A J:Tab} (B:Wt' n A) (G:Wt' n J) (c:Ca n A) (le:∀ a b,a < n->b<=n->ent A a b<=ent J a b) {h:Nat} (q:h < n) (e:∀ j,j<=n->ent J h j=ent A h j):0<=Qi J h/\(U3 J h=true->Rc n J h):=by
 refine ⟨?_,fun b=>?_⟩
 ·have h1:=c.nn h q;rw [Wh B.sz q] at h1;rw [Wh G.sz q,e n (O7 n),e h (E9 q),Y6 (g:=fun j=>ent A h j) fun j z=>e j (E9 z)]
  have h2:=Qht (n:=n) (f:=fun o=>ent A o h) (g:=fun o=>ent J o h) fun o I=>le o h I (E9 q)
  omega
 ·obtain ⟨j,z,q1,q2⟩:=(Kf G q).mp b;rw [e j z] at q2;exact (c.bz h q ((Kf B q).mpr ⟨j,z,q1,q2⟩)).mono fun a b U O=>le a b U (E9 O)
theorem Q8h {n:Nat} {A B:Tab} (I:Sz n A) (z:Sz n B) {h:Nat} (G:h < n) (c:rle n h A B\/rle n h B A):(∀ j,j<=n->ent (Zf A B) h j=ent A h j)\/∀ j,j<=n->ent (Zf A B) h j=ent B h j:=by
 rcases c with c | c
 ·exact .inr fun j q=>by rw [We I z G q,Qfn (c j q)]
 ·exact .inl fun j q=>by rw [We I z G q,Qad (c j q)]
theorem Qhi {n:Nat} {A B:Tab} (z:Wt' n A) (q:Wt' n B) (U:Ca n A) (Z:Ca n B) (ch:∀ h,h < n->rle n h A B\/rle n h B A):Ca n (Zf A B):=by
 have O:=Qbz z q;have l1:∀ a b,a < n->b<=n->ent A a b<=ent (Zf A B) a b:=fun a b J I=>by rw [We z.sz q.sz J I]; exact Q58 _ _
 have Y:∀ a b,a < n->b<=n->ent B a b<=ent (Zf A B) a b:=fun a b J I=>by rw [We z.sz q.sz J I]; exact Qfp _ _
 have G:∀ h,h < n->0<=Qi (Zf A B) h/\(U3 (Zf A B) h=true->Rc n (Zf A B) h):=fun h j=>by
  rcases Q8h z.sz q.sz j (ch h j) with e | e
  ·exact Qpn z O U l1 j e
  ·exact Qpn q O Z Y j e
 exact ⟨fun h j=>(G h j).1,fun h j=>(G h j).2⟩
theorem SI17.step {n:Nat} {s:RS} (I:SI17 n s) {x:Dx} (o:x.ok n s):SI17 n (Jd n s x):=by
 have r:=I.ri;have r':=r.step o;have a2:∀ T:Tab,Ca n T->(∀ A,InS n s A->∀ h,h < n->rle n h A T\/rle n h T A)->(∀ A,InS n (Jd n s x) A->InS n s A\/A=T)->SI17 n (Jd n s x):=fun T cT a3 sub=>by
  refine ⟨r',fun A G=>?_,fun A B G hB h J=>?_⟩
  ·rcases sub A G with q | q
   ·exact I.ca A q
   ·rw [q]; exact cT
  ·rcases sub A G with qa | qa <;> rcases sub B hB with qb | qb
   ·exact I.ch A B qa qb h J
   ·rw [qb]; exact a3 A qa h J
   ·rw [qa]; exact (a3 B qb h J).symm
   ·rw [qa,qb]; exact .inl fun j _=>bc _
 have old:(∀ A,InS n (Jd n s x) A->InS n s A)->SI17 n (Jd n s x):=fun sub=>⟨r',fun A G=>I.ca A (sub A G),fun A B G hB=>I.ch A B (sub A G) (sub B hB)⟩
 cases x with
 | own d=>
  have J:=Dd.ok_h o
  by_cases q:d.fits (s.now.getD d.h [])=true
  ·have z2:Jd n s (.own d)=⟨s.now.set d.h (d.put n (s.now.getD d.h [])),s.last,s.le⟩:=bO q;have w:=r.wn d.h J;have cN:=I.ca _ (.now J);have hf:d.isM=false->d.k<=Qi (s.now.getD d.h []) d.h:=fun hm=>by
    unfold Dd.fits at q;rw [hm,Bool.false_or,decide_eq_true_eq] at q;exact q
   have hl:d.h < s.now.length:=by rw [r.ln]; exact J
   refine a2 _ (Qpp w cN o hf).2 (fun A G h Y=>?_) (fun A G=>?_)
   ·by_cases qh:h=d.h
    ·subst qh;exact .inl fun j O=>bh (r.top G Y j O) (Q6f w o _ j).1
    ·have e:∀ j,ent (d.put n (s.now.getD d.h [])) h j=ent (s.now.getD d.h []) h j:=fun j=>(Q6f w o h j).2 qh
     rcases I.ch A _ G (.now J) h Y with z | z
     ·exact .inl fun j O=>by rw [e j]; exact z j O
     ·exact .inr fun j O=>by rw [e j]; exact z j O
   ·rw [z2] at G;cases G with
    | @now i hi=>
     show InS n s ((s.now.set d.h (d.put n (s.now.getD d.h []))).getD i [])\/(s.now.set d.h (d.put n (s.now.getD d.h []))).getD i []=_;rw [J4 hl]
     split
     ·exact .inr rfl
     ·exact .inl (.now hi)
    | last hi=>exact .inl (.last hi)
    | le Z=>exact .inl (.le Z)
  ·have z2:Jd n s (.own d)=s:=bP q;rw [z2]; exact I
 | kp U=>
  have J:U < n:=o;refine old fun A G=>?_
  cases G with
  | now hi=>exact .now hi
  | @last i hi=>
   show InS n s ((s.last.set U (s.now.getD U [])).getD i []);rw [J4 (by rw [r.ll]; exact J)]
   split
   ·exact .now J
   ·exact .last hi
  | le Z=>exact .le Z
 | fl U=>
  have J:U < n:=o;refine old fun A G=>?_
  cases G with
  | @now i hi=>
   show InS n s ((s.now.set U (s.last.getD U [])).getD i []);rw [J4 (by rw [r.ln]; exact J)]
   split
   ·exact .last J
   ·exact .now hi
  | last hi=>exact .last hi
  | le Z=>exact .le Z
 | sd U=>
  have J:U < n:=o;refine old fun A G=>?_
  cases G with
  | now hi=>exact .now hi
  | last hi=>exact .last hi
  | le Z=>
   rcases F6.mp Z with h | h
   ·exact .le h
   ·rw [cz.mp h]; exact .last J
 | cm l U=>
  obtain ⟨a5,J⟩:=o;have hm:s.le.getD l []∈s.le:=D4 (getD_some a5 []);have wN:=r.wn U J;have wL:=r.we _ hm;have a4:=I.ch _ _ (.now J) (.le hm);refine a2 (Zf (s.now.getD U []) (s.le.getD l [])) (Qhi wN wL (I.ca _ (.now J)) (I.ca _ (.le hm)) a4) (fun A G h Y=>?_) (fun A G=>?_)
  ·rcases Q8h wN.sz wL.sz Y (a4 h Y) with e | e
   ·rcases I.ch A _ G (.now J) h Y with z | z
    ·exact .inl fun j O=>by rw [e j O]; exact z j O
    ·exact .inr fun j O=>by rw [e j O]; exact z j O
   ·rcases I.ch A _ G (.le hm) h Y with z | z
    ·exact .inl fun j O=>by rw [e j O]; exact z j O
    ·exact .inr fun j O=>by rw [e j O]; exact z j O
  ·cases G with
   | @now i hi=>
    show InS n s ((s.now.set U (Zf (s.now.getD U []) (s.le.getD l []))).getD i [])\/(s.now.set U (Zf (s.now.getD U []) (s.le.getD l []))).getD i []=_;rw [J4 (by rw [r.ln]; exact J)]
    split
    ·exact .inr rfl
    ·exact .inl (.now hi)
   | last hi=>exact .inl (.last hi)
   | le Z=>exact .inl (.le Z)
theorem SI17.start {n:Nat} {tb:Tab} (w:Wt' n tb) (c:Ca n tb):SI17 n (s0 n tb):=by
 have e:∀ A,InS n (s0 n tb) A->A=tb:=fun A q=>by
  cases q with
  | now hi=>exact yh hi
  | last hi=>exact yh hi
  | le z=>exact absurd z cZ
 exact ⟨RI.start w,fun A q=>by rw [e A q]; exact c,fun A B q G h I=>by rw [e A q,e B G]; exact .inl fun j _=>bc _⟩
theorem SI17.run {n:Nat}:∀ {xs:List Dx} {s:RS},SI17 n s->OkL n s xs->SI17 n (Zr n s xs)
 | [],_,r,_=>r
 | x :: xs,s,r,o=>SI17.run (xs:=xs) (r.step o.1) o.2
def jnt (n:Nat) (s:RS):Nat->Tab
 | 0=>s.now.getD 0 []
 | m + 1=>Zf (jnt n s m) (s.now.getD m [])
def jw (n:Nat) (s:RS):Tab:=(bS n).map fun i=>(s.now.getD i []).getD i []
structure JI (n:Nat) (s:RS) (m:Nat):Prop where
 w:Wt' n (jnt n s m)
 c:Ca n (jnt n s m)
 ch:∀ A,InS n s A->∀ h,h < n->rle n h A (jnt n s m)\/rle n h (jnt n s m) A
 top:∀ h,h < n->rle n h (jnt n s m) (s.now.getD h [])
 up:∀ i,i < m->∀ h,h < n->rle n h (s.now.getD i []) (jnt n s m)
theorem SI17.jn {n:Nat} {s:RS} (I:SI17 n s) (h1:1<=n):∀ m,m<=n->JI n s m
 | 0,_=>⟨I.ri.wn 0 h1,I.ca _ (.now h1),fun A Z=>I.ch A _ Z (.now h1),fun h G=>I.ri.top (.now h1) G,fun i hi=>absurd hi (cb i)⟩
 | m + 1,hm=>by
  have J:=I.jn h1 m (by omega);have O:m < n:=hm;have U:=I.ri.wn m O;have Y:∀ h,h < n->rle n h (jnt n s m) (s.now.getD m [])\/rle n h (s.now.getD m []) (jnt n s m):=fun h G=>(J.ch _ (.now O) h G).symm
  refine ⟨Qbz J.w U,Qhi J.w U J.c (I.ca _ (.now O)) Y,fun A Z h G=>?_,fun h G j B=>?_,fun i hi h G j B=>?_⟩
  ·rcases Q8h J.w.sz U.sz G (Y h G) with e | e
   ·rcases J.ch A Z h G with z | z
    ·exact .inl fun j B=>by show _<=ent (Zf _ _) h j; rw [e j B]; exact z j B
    ·exact .inr fun j B=>by show ent (Zf _ _) h j<=_; rw [e j B]; exact z j B
   ·rcases I.ch A _ Z (.now O) h G with z | z
    ·exact .inl fun j B=>by show _<=ent (Zf _ _) h j; rw [e j B]; exact z j B
    ·exact .inr fun j B=>by show ent (Zf _ _) h j<=_; rw [e j B]; exact z j B
  ·show ent (Zf _ _) h j<=_;rw [We J.w.sz U.sz G B];rcases Qbq (ent (jnt n s m) h j) (ent (s.now.getD m []) h j) with e | e
   ·rw [e]; exact J.top h G j B
   ·rw [e]; exact I.ri.top (.now O) G j B
  ·show _<=ent (Zf _ _) h j;rw [We J.w.sz U.sz G B]
   by_cases q:i=m
   ·subst q; exact Qfp _ _
   ·exact bh (J.up i (by omega) h G j B) (Q58 _ _)
theorem Q1m {n:Nat} {s:RS} (r:RI n s):Sz n (jw n s):=by
 refine ⟨by simp [jw],fun q j=>?_⟩;obtain ⟨i,hi,rfl⟩:=cK.mp j;exact ((r.wn i (O8.mp hi)).sz.row (O8.mp hi)).2
theorem Q05 {n:Nat} {s:RS} {i:Nat} (hi:i < n) (j:Nat):ent (jw n s) i j=ent (s.now.getD i []) i j:=by
 have:(jw n s).getD i []=(s.now.getD i []).getD i []:=by
  unfold jw;rw [F4,E2,E4 hi]; rfl
 unfold ent;rw [this]
theorem JI.own {n:Nat} {s:RS} (r:RI n s) (J:JI n s n):jnt n s n=jw n s:=
 Qgh J.w.sz (Q1m r) fun i j hi q=>by
  rw [Q05 hi];exact gu (J.top i hi j q) (J.up i hi i hi j q)
inductive Cms (n k:Nat):List Dx->Prop
 | nil:Cms n k []
 | cons {l i:Nat} {xs:List Dx}:l < k->i < n->Cms n k xs->Cms n k (.cm l i :: xs)
def IsC (n k:Nat) (x:Dx):Prop:=∃ l i,l < k/\i < n/\x=.cm l i
theorem Cms.of {n k:Nat}:∀ {xs:List Dx},(∀ x∈xs,IsC n k x)->Cms n k xs
 | [],_=>.nil
 | x :: xs,h=>by
  obtain ⟨l,i,h1,h2,rfl⟩:=h x D6;exact .cons h1 h2 (Cms.of fun y j=>h y (D1 _ j))
structure CI (n:Nat) (J:Tab) (s s':RS):Prop where
 ri:RI n s'
 le:s'.le=s.le
 own:∀ h j,h < n->j<=n->ent (s'.now.getD h []) h j=ent J h j
 up:∀ i,i < n->∀ h j,h < n->j<=n->ent (s.now.getD i []) h j<=ent (s'.now.getD i []) h j
theorem CI.step {n:Nat} {J:Tab} {s s':RS} (I:CI n J s s') {l i:Nat} (hl:l < s'.le.length) (hi:i < n):CI n J s (Jd n s' (.cm l i))/\∀ h j,h < n->j<=n->ent (s'.le.getD l []) h j<=ent ((Jd n s' (.cm l i)).now.getD i []) h j:=by
 have r:=I.ri;have r':=r.step (x:=.cm l i) ⟨hl,hi⟩;have Z:s'.le.getD l []∈s'.le:=D4 (getD_some hl []);have G:=r.wn i hi;have U:=r.we _ Z;have O:i < s'.now.length:=by rw [r.ln]; exact hi
 have e:∀ a,(Jd n s' (.cm l i)).now.getD a []=if a=i then Zf (s'.now.getD i []) (s'.le.getD l []) else s'.now.getD a []:=fun a=>J4 O _ _ _
 refine ⟨⟨r',I.le,fun h j q B=>?_,fun a Y h j q B=>?_⟩,fun h j q B=>?_⟩
 ·rw [e h]
  split
  ·rename_i z; subst z;rw [We G.sz U.sz q B,Qad (r.top (.le Z) q j B)];exact I.own h j q B
  ·exact I.own h j q B
 ·rw [e a]
  split
  ·rename_i z; subst z;rw [We G.sz U.sz q B];exact bh (I.up a Y h j q B) (Q58 _ _)
  ·exact I.up a Y h j q B
 ·rw [e i,bO rfl,We G.sz U.sz q B];exact Qfp _ _
theorem CI.run {n:Nat} {J:Tab} {s:RS} {k:Nat} (hk:k=s.le.length):∀ {xs:List Dx},Cms n k xs->∀ {s':RS},CI n J s s'->OkL n s' xs/\CI n J s (Zr n s' xs)/\(∀ i,i < n->∀ h j,h < n->j<=n->ent (s'.now.getD i []) h j<=ent ((Zr n s' xs).now.getD i []) h j)/\∀ l i,Dx.cm l i∈xs->∀ h j,h < n->j<=n->ent (s.le.getD l []) h j<=ent ((Zr n s' xs).now.getD i []) h j:=by
 intro xs c
 induction c with
 | nil=>exact fun {s'} I=>⟨trivial,I,fun i hi h j _ _=>bc _,fun l i h=>absurd h cZ⟩
 | @cons l i xs h1 h2 _ ih=>
  intro s' I;have U:l < s'.le.length:=by rw [I.le,<- hk]; exact h1
  obtain ⟨I1,u1⟩:=I.step U h2;obtain ⟨o2,I2,Y,w2⟩:=ih I1;have r:=I.ri;have hm:s'.le.getD l []∈s'.le:=D4 (getD_some U []);have e:∀ a,(Jd n s' (.cm l i)).now.getD a []=if a=i then Zf (s'.now.getD i []) (s'.le.getD l []) else s'.now.getD a []:=fun a=>J4 (by rw [r.ln]; exact h2) _ _ _
  refine ⟨⟨⟨U,h2⟩,o2⟩,I2,fun a Z h j B G=>?_,fun l' i' O h j B G=>?_⟩
  ·refine bh ?_ (Y a Z h j B G);rw [e a]
   split
   ·rename_i z; subst z;rw [We (r.wn a Z).sz (r.we _ hm).sz B G];exact Q58 _ _
   ·exact bc _
  ·rcases E3.mp O with q | q
   ·cases q;refine bh ?_ (Y i h2 h j B G);have:=u1 h j B G;rw [I.le] at this;exact this
   ·exact w2 l' i' q h j B G
theorem Qq7 {n:Nat} {s s1:RS} {J:Tab} (Z:Sz n J) (I:CI n J s1 s1) (G:∀ a,a < n->s1.le.getD (s.le.length + a) []=s1.now.getD a []) {xs:List Dx} (c:Cms n s1.le.length xs) (fin:∀ a i,a < n->i < n->Dx.cm (s.le.length + a) i∈xs):OkL n s1 xs/\(Zr n s1 xs).now=bV n J:=by
 obtain ⟨o,U,u2,Y⟩:=CI.run rfl c I;refine ⟨o,?_⟩;have z:=U.ri;have O:∀ i,i < n->(Zr n s1 xs).now.getD i []=J:=fun i hi=>Qgh (z.wn i hi).sz Z fun h j q B=>by
  refine gu ?_ ?_
  ·rw [<- U.own h j q B];exact z.top (.now hi) q j B
  ·have:=Y _ i (fin h i q hi) h j q B;rw [G h q,I.own h j q B] at this;exact this
 refine cy fun i=>?_
 rw [G9]
 by_cases hi:i < n
 ·rw [bO hi,getD_some (show i < (Zr n s1 xs).now.length by rw [z.ln]; exact hi) [],O i hi]
 ·rw [bP hi,F3 (by rw [z.ln]; omega)]
theorem Qah {n:Nat} {s:RS} (r:RI n s):∀ m,m<=n->OkL n s ((bS m).map Dx.kp)/\(Zr n s ((bS m).map Dx.kp)).now=s.now/\(Zr n s ((bS m).map Dx.kp)).le=s.le/\(Zr n s ((bS m).map Dx.kp)).last.length=n/\∀ i,i < m->(Zr n s ((bS m).map Dx.kp)).last.getD i []=s.now.getD i []
 | 0,_=>⟨trivial,rfl,rfl,r.ll,fun i hi=>absurd hi (cb i)⟩
 | m + 1,q=>by
  obtain ⟨o,e1,e2,e3,G⟩:=Qah r m (by omega);have j:m < n:=q;rw [cJ,F0];have B:Zr n s ((bS m).map Dx.kp ++ [m].map Dx.kp)=Jd n (Zr n s ((bS m).map Dx.kp)) (.kp m):=by rw [qf]; rfl
  rw [B];refine ⟨(qg n _ _ _).mpr ⟨o,j,trivial⟩,e1,e2,?_,fun i hi=>?_⟩
  ·show (gw _ _ _).length=n;rw [D9]; exact e3
  ·show (gw _ _ _).getD i []=_;rw [J4 (by rw [e3]; exact j),e1]
   split
   ·rename_i z; rw [z]
   ·exact G i (by omega)
theorem Qa2 {n:Nat} {s:RS} (h:∀ i,i < n->s.last.getD i []=s.now.getD i []):∀ m,m<=n->OkL n s ((bS m).map Dx.sd)/\Zr n s ((bS m).map Dx.sd)=⟨s.now,s.last,s.le ++ (bS m).map fun i=>s.now.getD i []⟩
 | 0,_=>⟨trivial,by simp [Zr]⟩
 | m + 1,z=>by
  obtain ⟨o,e⟩:=Qa2 h m (by omega);have j:m < n:=z;rw [cJ,F0];have q:Zr n s ((bS m).map Dx.sd ++ [m].map Dx.sd)=Jd n (Zr n s ((bS m).map Dx.sd)) (.sd m):=by rw [qf]; rfl
  rw [q,e];refine ⟨(qg n _ _ _).mpr ⟨o,j,trivial⟩,?_⟩;show RS.mk s.now s.last (_ ++ [s.last.getD m []])=_;rw [h m j,L5,F0]; rfl
def ksL (n:Nat):List Dx:=(bS n).map Dx.kp ++ (bS n).map Dx.sd
theorem Qws {n:Nat} {s:RS} (r:RI n s):OkL n s (ksL n)/\(Zr n s (ksL n)).now=s.now/\(Zr n s (ksL n)).le=s.le ++ (bS n).map fun i=>s.now.getD i []:=by
 obtain ⟨o,e1,e2,e3,q⟩:=Qah r n (O7 n);obtain ⟨j,f⟩:=Qa2 (n:=n) (s:=Zr n s ((bS n).map Dx.kp)) (fun i hi=>by rw [q i hi,e1]) n (O7 n);unfold ksL;rw [qf,f,e1,e2];exact ⟨(qg n _ _ _).mpr ⟨o,j⟩,rfl,rfl⟩
theorem Qnr {n:Nat} {tb:Tab} (w:Wt' n tb) (c:Ca n tb) {xs row:List Dx} (ok:OkL n (s0 n tb) xs) (cm:Cms n ((Zr n (s0 n tb) xs).le.length + n) row) (fin:∀ a i,a < n->i < n->Dx.cm ((Zr n (s0 n tb) xs).le.length + a) i∈row):OkL n (s0 n tb) (xs ++ ksL n ++ row)/\(Zr n (s0 n tb) (xs ++ ksL n ++ row)).now=bV n (jw n (Zr n (s0 n tb) xs)):=by
 have r:=(RI.start w).run ok;obtain ⟨s,hs⟩:∃ s,Zr n (s0 n tb) xs=s:=⟨_,rfl⟩;rw [hs] at r cm fin ⊢;obtain ⟨B,e1,e2⟩:=Qws r;have G:=r.run B;obtain ⟨s1,q⟩:∃ s1,Zr n s (ksL n)=s1:=⟨_,rfl⟩;rw [q] at e1 e2 G;have I:CI n (jw n s) s1 s1:=⟨G,rfl,fun h j J Z=>by rw [e1,Q05 J],fun i hi h j _ _=>bc _⟩;have z:∀ a,a < n->s1.le.getD (s.le.length + a) []=s1.now.getD a []:=fun a O=>by
  rw [e1,e2,F4,D2 (by omega),gi,E2,E4 O]; rfl
 have U:s1.le.length=s.le.length + n:=by rw [e2,O6,O2,D5]
 obtain ⟨Y,e3⟩:=Qq7 (s:=s) (Q1m r) I z (xs:=row) (by rw [U]; exact cm) fin;rw [qf,qf,hs,q];refine ⟨(qg n _ _ _).mpr ⟨(qg n _ _ _).mpr ⟨ok,by rw [hs]; exact B⟩,by rw [qf,hs,q]; exact Y⟩,e3⟩
theorem Qha {n:Nat} {s:RS} (r:RI n s) {i:Nat} (hi:i < n):Qi (jw n s) i=Qi (s.now.getD i []) i + Y3 n (fun j=>ent (s.now.getD j []) j i - ent (s.now.getD i []) j i):=by
 rw [Wh (Q1m r) hi,Wh (r.wn i hi).sz hi,Q3v,Q05 hi,Q05 hi,Y6 (f:=fun j=>ent (jw n s) i j) (g:=fun j=>ent (s.now.getD i []) i j) fun j _=>Q05 hi j,Y6 (f:=fun o=>ent (jw n s) o i) (g:=fun o=>ent (s.now.getD o []) o i) fun o q=>Q05 q i]
 omega
def Q35 (s:RS) (i j:Nat):Int:=ent (s.now.getD i []) i j - ent (s.now.getD j []) i j
theorem Qn2 {n:Nat} {s:RS} {xs:List Dx} (h:OkL n s xs) (m:Nat):OkL n s (xs.take m):=by
 rw [<- List.take_append_drop m xs] at h;exact ((qg n _ _ _).mp h).1
theorem Qyp {ma:ME} {Γ:Gam} {S:Q0} {V:PV} {xs:List PV} {m:ME} {k:Nat} (h1:ma Γ S=.ok V S) (h2:ListAt S V xs) (j:m Γ S=.ok (.int k) S):mSl ma Wc (X5 m) Γ S=.ok (.lst (xs.take k)) S:=by
 rw [Qwi,h1,Qn,show Wc Γ S=.ok none S from rfl,Qn,show X5 m Γ S=.ok (some (k:Int)) S by unfold X5; rw [j]; rfl,Qn,Lw.ListAt.sl h2,yt]
theorem Qkb {n:Nat} {t1 t2:List (List Int)} (J:Sz n t1) (O:Sz n t2) (h:∀ a b,a < n->b<=n->ent t1 a b<=ent t2 a b):Qgi t1 t2=true:=by
 unfold Qgi;rw [F9];intro z hz;obtain ⟨i,hi,e⟩:=cr.mp hz;have I:=O0.mpr ⟨hi,e⟩;rw [cx] at I;have q:i < n:=by
  have:=(O0.mp I.1).1;rw [J.1] at this; exact this
 have r1:z.1=t1.getD i []:=bf (I.1.symm.trans (J.row q).1);have Z:z.2=t2.getD i []:=bf (I.2.symm.trans (O.row q).1);unfold Q5n;rw [F9];intro u U;obtain ⟨j,Y,f⟩:=cr.mp U;have G:=O0.mpr ⟨Y,f⟩;rw [cx,r1,Z] at G;have B:j<=n:=by
  have:=(O0.mp G.1).1;rw [(J.row q).2] at this; omega
 have s1:u.1=ent t1 i j:=bf (G.1.symm.trans (J.cell q B));have s2:u.2=ent t2 i j:=bf (G.2.symm.trans (O.cell q B));rw [s1,s2];simp [h i j q B]
theorem Qsf:∀ (a:Int) (l:List Int),∃ m,Qwg (a :: l)=some m/\(m < 0 <-> ∃ x∈a :: l,x < 0):=by
 have B:∀ (l:List Int) (a:Int),(l.foldl (fun m x=>if x < m then x else m) a < 0 <-> ∃ x∈a :: l,x < 0):=by
  intro l
  induction l with
  | nil=>intro a; simp
  | cons b l G=>
   intro a;rw [cU,G];constructor
   ·rintro ⟨x,j,z⟩;rcases E3.mp j with rfl | j
    ·by_cases q:b < a
     ·rw [bO q] at z; exact ⟨b,by simp,z⟩
     ·rw [bP q] at z; exact ⟨a,by simp,z⟩
    ·exact ⟨x,by simp [j],z⟩
   ·rintro ⟨x,j,z⟩;rcases E3.mp j with rfl | j
    ·by_cases q:b < x
     ·exact ⟨b,by simp [q],by omega⟩
     ·exact ⟨x,by simp [q],z⟩
    ·rcases E3.mp j with rfl | j
     ·by_cases q:x < a
      ·exact ⟨x,by simp [q],z⟩
      ·exact ⟨a,by simp [q],by omega⟩
     ·exact ⟨x,by simp [j],z⟩
 intro a l;exact ⟨_,rfl,B l a⟩
theorem Qpm {m:MS} {nl:Nat} {ps:List PV} {S:Q0} {j:Gam} (h:m (ps.map some ++ bV (nl - ps.length) none) S=.nx j S):Qh m nl ps S=.ok .non S:=by unfold Qh; rw [h]; exact Qta S
def LA (S:Q0) (V:PV) (xs:List PV):Prop:=V=.lst xs\/∃ i,V=.ref i/\S[i]?=some (.lst xs)
theorem Qxj {S:Q0} {V W:PV} {xs ys:List PV} (h:LA S V xs) (k:LA S W ys) (q:xs.length + ys.length<=1000000):Yj S V W=.ok (.lst (xs ++ ys)) S:=by
 have q:xs.length + ys.length<=lim:=q;rcases h with rfl | ⟨i,rfl,e⟩ <;> rcases k with rfl | ⟨j,rfl,f⟩
 ·exact bO q
 ·show (match U2 S (.lst xs),U2 S (.ref j) with | some xs,some ys=>if xs.length + ys.length<=lim then Res.ok (PV.lst (xs ++ ys)) S else .stuck | _,_=>.stuck)=_
  rw [W7 f]; exact bO q
 ·show (match U2 S (.ref i),U2 S (.lst ys) with | some xs,some ys=>if xs.length + ys.length<=lim then Res.ok (PV.lst (xs ++ ys)) S else .stuck | _,_=>.stuck)=_
  rw [W7 e]; exact bO q
 ·show (match U2 S (.ref i),U2 S (.ref j) with | some xs,some ys=>if xs.length + ys.length<=lim then Res.ok (PV.lst (xs ++ ys)) S else .stuck | _,_=>.stuck)=_
  rw [W7 e,W7 f]; exact bO q
theorem Qtc {S:Q0} {L:Nat} {xs ys:List PV} (h:S[L]?=some (.lst xs)) (j:xs.length + ys.length<=1000000):jj S (.ref L) [.lst ys]=.ok .non (S.set L (.lst (xs ++ ys))):=by
 show (match U2 S (.lst ys) with | some ys=>chg S (.ref L) fun xs=>if xs.length + ys.length<=lim then some (PV.non,xs ++ ys) else none | none=>.stuck)=_
 rw [show U2 S (.lst ys)=some ys from rfl];simp only [chg,h];rw [bO (show xs.length + ys.length<=lim from j)]
def cmR (n l:Nat):List Dx:=(bS n).map fun i=>Dx.cm l i
def cmL (n a k:Nat):List Dx:=(bS k).flatMap fun t=>cmR n (a + t)
theorem Qea (n a k:Nat):cmL n a (k + 1)=cmL n a k ++ cmR n (a + k):=by
 unfold cmL;rw [cJ,List.flatMap_append];simp
theorem Qc8 (n a:Nat):∀ k,(cmL n a k).length=k * n
 | 0=>by simp [cmL]
 | k + 1=>by rw [Qea,O6,Qc8 n a k,Nat.add_mul]; simp [cmR]
theorem Qtk {n a k:Nat} {x:Dx} (h:x∈cmL n a k):IsC n (a + k) x:=by
 unfold cmL at h;obtain ⟨t,q,j⟩:=gx.mp h;obtain ⟨i,hi,rfl⟩:=cK.mp j;have:=O8.mp q;exact ⟨a + t,i,by omega,O8.mp hi,rfl⟩
theorem Qtm {n a k t i:Nat} (j:t < k) (hi:i < n):Dx.cm (a + t) i∈cmL n a k:=gx.mpr ⟨t,O8.mpr j,cK.mpr ⟨i,O8.mpr hi,rfl⟩⟩
theorem Qe2 (a:Tab):Jk 12 (Q4 a)=true:=by simp [Jk,Q4,Qk]
theorem Qhb {α:Type} (l:List α) (f:α->PV) (h:∀ x∈l,Jk 11 (f x)=true):Jk 12 (.lst (l.map f))=true:=by
 show (l.map f).all (Jk 11)=true;rw [dG];exact F9.mpr h
theorem Qg4 (n:Nat) (f:Nat->PV):qd 0 ((bS n).map f)=(bS n).map fun i:Nat=>.tup [.int i,f i]:=by
 rw [Q5j,Q6t (bS n) 0,D5];refine dE fun i hi=>?_
 have:(bS n).getD i 0=i:=by
  have hi:=O8.mp hi;rw [F4,E4 hi]; rfl
 simp only [this]
def Wq (s:RS) (i:Nat):Int:=Qi (s.now.getD i []) i
def yc (n:Nat) (s:RS) (h:Nat):Int:=Y3 n fun o=>Q35 s o h
def Qgf (n:Nat) (s:RS) (i:Nat):PV:=.tup [.int (Wq s i),.int (yc n s i),.int (Wq s i + yc n s i)]
theorem Qch (s:RS) (i:Nat):Q35 s i i=0:=Int.sub_self _
theorem Qgg {n:Nat} {t:Tab} (w:Wt' n t) (S:Q0):Zt S [Q4 t]=.ok (.int n) S:=by simp [Q4,w.len]
theorem J02 {n i:Nat} (hi:i < n) (f:Nat->PV) (S:Q0):oIx S (.lst ((bS n).map f)) (.int i)=.ok (f i) S:=by
 show okO S (atI ((bS n).map f) (i:Int))=_;rw [Ws,Sm.atI_get (E4 hi)]; rfl
theorem Qh1 {n:Nat} {s:RS} (I:SI17 n s) (h1:1<=n) (q:n<=8) {S:Q0} {Q:Nat} (j:S[Q]?=some (.lst (s.now.map Q4))):Vn S (.ref Q)=some ((bS n).map fun i=>Q4 (s.now.getD i []),[(Q,.lst (s.now.map Q4))]):=by
 rw [show (bS n).map (fun i=>Q4 (s.now.getD i []))=s.now.map Q4 by rw [Q3i s.now [] Q4,I.ri.ln]]
 unfold Vn; simp only [j]
theorem Qdg {n:Nat} {s:RS} (I:SI17 n s) (h1:1<=n) (z:n<=8) {S:Q0} {Q:Nat} (q:S[Q]?=some (.lst (s.now.map Q4))):wOk [(Q,.lst (s.now.map Q4))] S:=fun x j=>by rw [cz.mp j]; exact q
theorem Q2c {n:Nat} {s:RS} (I:SI17 n s) (h1:1<=n) (q:n<=8) {S:Q0} {Q:Nat} (j:S[Q]?=some (.lst (s.now.map Q4))):Zt S [.ref Q]=.ok (.int n) S:=by rw [ListAt.len (.inr (.inr ⟨Q,rfl,j⟩)),O2,I.ri.ln]
theorem Qbm {n:Nat} {s:RS} (I:SI17 n s) (h1:1<=n) (q:n<=8) {S:Q0} {Q:Nat} (j:S[Q]?=some (.lst (s.now.map Q4))) {i:Nat} (hi:i < n):oIx S (.ref Q) (.int i)=.ok (Q4 (s.now.getD i [])) S:=x9 j (by rw [I.ri.ln]; exact hi)
theorem Qfh {n:Nat} {s:RS} (I:SI17 n s) (h1:1<=n) (q:n<=8) {S:Q0} {Q:Nat} (j:S[Q]?=some (.lst (s.now.map Q4))) {m:ME} {Γ:Gam} (h:m Γ S=.ok (.ref Q) S):Ke m Γ S=.ok ((bS n).map fun i=>Q4 (s.now.getD i []),[(Q,.lst (s.now.map Q4))]) S:=Q72 h (Qh1 I h1 q j) (by rw [O2,D5]; omega)
theorem Qn9 {n:Nat} {s:RS} (I:SI17 n s) (h1:1<=n) (q:n<=8) {S:Q0} {Q:Nat} (j:S[Q]?=some (.lst (s.now.map Q4))) {m:ME} {Γ:Gam} (h:m Γ S=.ok (.ref Q) S):Q89 (Q1 m Q5) Γ S=.ok ((bS n).map fun i:Nat=>.tup [.int i,Q4 (s.now.getD i [])],[(Q,.lst (s.now.map Q4))]) S:=by
 rw [Qng,Q3 h (show Q5 Γ S=.ok [] S from rfl),Qn];show (match Vn S (.ref Q) with | some (xs,w)=>if xs.length<=lim then Res.ok (qd 0 xs,w) S else .stuck | none=>.stuck)=_
 rw [Qh1 I h1 q j,<- Qg4 n fun i=>Q4 (s.now.getD i [])]
 exact bO (by rw [O2,D5,Jc]; omega)
theorem Qd7 {n:Nat} {s:RS} (I:SI17 n s) (h1:1<=n) (q:n<=8) {S:Q0} {Q:Nat} (j:S[Q]?=some (.lst (s.now.map Q4))):X2 [.ref Q] S=.ok (Q4 (jw n s)) S:=by
 have z:Qw (Wz (J1 (Q8 0) (J1 (Q8 1) V0))) Qp Q0q [(Q,.lst (s.now.map Q4))] [none,none] ((bS n).map fun i:Nat=>.tup [.int i,Q4 (s.now.getD i [])]) S=.ok ((bS n).map fun i=>Qk ((s.now.getD i []).getD i [])) S:=
  Qu _ _ (Qdg I h1 q j) fun i hi=>⟨_,rfl,Q7 rfl rfl (K9 (I.ri.wn i (O8.mp hi)).sz (O8.mp hi) (cg n) S).1⟩
 have e:Vh S [.lst ((bS n).map fun i=>Qk ((s.now.getD i []).getD i []))]=.ok (Q4 (jw n s)) S:=by
  show Res.ok _ S=_;unfold Q4 jw;rw [G6]; rfl
 exact (Jm (m:=Q3j) (nl:=1) (ps:=[.ref Q]) (Yv (Yq (Q3 (W5 (Zq (Qn9 I h1 q j rfl) z)) rfl) e))).trans (W2 (Qe2 _))
theorem Qcq {n:Nat} {s:RS} (I:SI17 n s) (h1:1<=n) (q:n<=8) {S:Q0} {Q:Nat} (j:S[Q]?=some (.lst (s.now.map Q4))):X3 [.ref Q] S=.ok (.bl true) S:=by
 have all1:yu (fun ns=>.bl (ns.all id)) S [.lst ((bS n).map fun _=>PV.bl true)]=.ok (.bl true) S:=by
  have:=Q4j (fun ns=>.bl (ns.all id)) S ((bS n).map fun _=>true)
  rw [G6,dG] at this;exact this.trans (congrArg (fun b=>Res.ok (PV.bl b) S) (F9.mpr fun _ _=>rfl))
 have O:Qw (Q8 0) Qp Q0t [(Q,.lst (s.now.map Q4))] [none,some (.ref Q)] ((bS n).map fun i=>Q4 (s.now.getD i [])) S=.ok ((bS n).map fun _=>PV.bl true) S:=
  Qu _ _ (Qdg I h1 q j) fun i hi=>⟨_,rfl,Qgp (Qg (n:=1) (Q3 rfl rfl) rfl (Q5s (I.ri.wn i (O8.mp hi)) S)) (Q7 (Yq (Q3 rfl rfl) (Qgg (I.ri.wn i (O8.mp hi)) S)) (Yq (Q3 rfl rfl) (Q2c I h1 q j)) (Q4f S rfl))⟩
 have U:Qw (Q8 0) Qp Q0s [(Q,.lst (s.now.map Q4))] [none,some (.ref Q)] ((bS n).map fun i=>Q4 (s.now.getD i [])) S=.ok ((bS n).map fun _=>PV.bl true) S:=
  Qu _ _ (Qdg I h1 q j) fun i hi=>⟨_,rfl,by
   have hi:=O8.mp hi;have w:=I.ri.wn i hi;have z:=Q1m I.ri;have e:=Qhr (t1:=s.now.getD i []) (t2:=jw n s) (by rw [w.len,z.1]) S (by rw [w.len,Jc]; omega) (fun r G=>by rw [w.row r G,Jc]; omega);rw [Qkb w.sz z fun a b B J=>by rw [Q05 B]; exact I.ri.top (.now hi) B b J] at e
   exact Qg (n:=2) (Q3 rfl (Q3 (Qg (n:=1) (Q3 rfl rfl) rfl (Qd7 I h1 q j)) rfl)) rfl e⟩
 have e1:Q9r "list" (Q2 0) [some (.ref Q)] S=.ok (.bl true) S:=by
  rw [Qsp,show Q2 0 [some (.ref Q)] S=.ok (.ref Q) S from rfl,Qn];simp only [Q2y,dpv,j]; rfl
 have h0:¬ ((n:Int)=0):=by omega
 exact (Jm (m:=Q3n) (nl:=1) (ps:=[.ref Q]) (Qb (W0 (Qbf (Q1p (b:=true) (Qq e1)) (Qq (Q7 (Yq (Q3 rfl rfl) (Q2c I h1 q j)) rfl (Q4g S h0)))) rfl) (Qb (W0 (Q1p (b:=true) (Qq (Yq (Q3 (W5 (Zq (Qfh I h1 q j rfl) O)) rfl) all1))) rfl) (Yv (Yq (Q3 (W5 (Zq (Qfh I h1 q j rfl) U)) rfl) all1))))).trans (Qg3 S true)
theorem Q54 {n:Nat} {s:RS} (I:SI17 n s) (h1:1<=n) (q:n<=8) {S:Q0} {Q:Nat} (j:S[Q]?=some (.lst (s.now.map Q4))):Yw [.ref Q] S=.ok .non S:=Qpm (m:=Q0c) (nl:=1) (ps:=[.ref Q]) (W0 (Q1p (b:=true) (Qq (Qg (n:=1) (Q3 rfl rfl) rfl (Qcq I h1 q j)))) rfl)
theorem Qk3 {n:Nat} {s:RS} (I:SI17 n s) (h1:1<=n) (q:n<=8) {S:Q0} {Q:Nat} (j:S[Q]?=some (.lst (s.now.map Q4))):Q4m [.ref Q] S=.ok (Q4 (jw n s)) S:=(Jm (m:=Qbr) (nl:=1) (ps:=[.ref Q]) (Qb (jr (Qg (n:=1) (Q3 rfl rfl) rfl (Q54 I h1 q j))) (Yv (Qg (n:=1) (Q3 rfl rfl) rfl (Qd7 I h1 q j))))).trans (W2 (Qe2 _))
theorem Qh9 {n:Nat} {s:RS} (I:SI17 n s) (h1:1<=n) (q:n<=8) {S:Q0} {Q:Nat} (j:S[Q]?=some (.lst (s.now.map Q4))):Q3u [.ref Q] S=.ok (.lst ((bS n).map fun i=>.int (Wq s i))) S:=by
 have z:Qw (Wz (J1 (Q8 0) (J1 (Q8 1) V0))) Qp Q8t [(Q,.lst (s.now.map Q4))] [none,none] ((bS n).map fun i:Nat=>.tup [.int i,Q4 (s.now.getD i [])]) S=.ok ((bS n).map fun i=>.int (Wq s i)) S:=
  Qu _ _ (Qdg I h1 q j) fun i hi=>⟨_,rfl,Qg (n:=2) (Q3 rfl (Q3 rfl rfl)) rfl (yg (I.ri.wn i (O8.mp hi)).sz (by omega) (O8.mp hi) S)⟩
 exact (Jm (m:=Qft) (nl:=1) (ps:=[.ref Q]) (Qb (jr (Qg (n:=1) (Q3 rfl rfl) rfl (Q54 I h1 q j))) (Yv (W5 (Zq (Qn9 I h1 q j rfl) z))))).trans (W2 (Qhb _ _ fun _ _=>rfl))
theorem Qk4 {n:Nat} {s:RS} (I:SI17 n s) (h1:1<=n) (U:n<=8) {S:Q0} {Q:Nat} (J:S[Q]?=some (.lst (s.now.map Q4))) {i j:Nat} (hi:i < n) (q:j < n) {m mi z:ME} {Γ:Gam} (e:m Γ S=.ok (.ref Q) S) (B:mi Γ S=.ok (.int i) S) (G:z Γ S=.ok (.int j) S):mOp (oI fun a b=>.int (a - b)) (mOp oIx (mOp oIx (mOp oIx m mi) mi) z) (mOp oIx (mOp oIx (mOp oIx m z) mi) z) Γ S=.ok (.int (Q35 s i j)) S:=by
 have O:=K9 (I.ri.wn i hi).sz hi (E9 q) S;have Y:=K9 (I.ri.wn j q).sz hi (E9 q) S;exact Q7 (Q7 (Q7 (Q7 e B (Qbm I h1 U J hi)) B O.1) G O.2) (Q7 (Q7 (Q7 e G (Qbm I h1 U J q)) B Y.1) G Y.2) (Qkf S _ _)
theorem Qe3 {n:Nat} {s:RS} (I:SI17 n s) (h1:1<=n) (z:n<=8) {S:Q0} {Q:Nat} (q:S[Q]?=some (.lst (s.now.map Q4))) {i j:Nat} (hi:i < n) (B:j < n):Q0y [.ref Q,.int i,.int j] S=.ok (.int (Q35 s i j)) S:=(Jm (m:=Qbt) (nl:=3) (ps:=[.ref Q,.int i,.int j]) (Yv (Qk4 I h1 z q hi B rfl rfl rfl))).trans (Q4d S _)
theorem Qn1 {n:Nat} {s:RS} (I:SI17 n s) (h1:1<=n) (B:n<=8) {S:Q0} {Q:Nat} (z:S[Q]?=some (.lst (s.now.map Q4))) {i j:Nat} (hi:i < n) (G:j < n) (J:i≠j):Xt [.ref Q,.int i,.int j] S=.ok (.int (Q35 s i j)) S:=by
 have l:=Q2c I h1 B z;have q:¬ ((i:Int)=j):=by omega
 exact (Jm (m:=Q0b) (nl:=3) (ps:=[.ref Q,.int i,.int j]) (Qb (jr (Qg (n:=1) (Q3 rfl rfl) rfl (Q54 I h1 B z))) (Qb (W0 (Qbf (Q1p (b:=true) (Qq (Qg (n:=2) (Q3 rfl (Q3 rfl rfl)) rfl (Q0m l hi)))) (Qbf (Q1p (b:=true) (Qq (Qg (n:=2) (Q3 rfl (Q3 rfl rfl)) rfl (Q0m l G)))) (Qq (Q7 rfl rfl (Q4g S q))))) rfl) (Yv (Qg (n:=3) (Q3 rfl (Q3 rfl (Q3 rfl rfl))) rfl (Qe3 I h1 B z hi G)))))).trans (Q4d S _)
theorem Qje {n:Nat} {s:RS} (I:SI17 n s) (h1:1<=n) (q:n<=8) {S:Q0} {Q:Nat} (j:S[Q]?=some (.lst (s.now.map Q4))) {h:Nat} (G:h < n):Kg [.ref Q,.int h] S=.ok (.int (yc n s h)) S:=by
 have z:Qw (Q8 0) zg y9 [] [none,some (.ref Q),some (.int h)] (Jb 0 n) S=.ok (((bS n).filter fun o=>decide (o≠h)).map fun o=>.int (Q35 s o h)) S:=by
  rw [Y7];refine qy (fun k:Nat=>PV.int (k:Int)) _ (fun o=>decide (o≠h)) (Zu _) fun o B=>⟨_,rfl,?_,fun _=>Qg (n:=3) (Q3 rfl (Q3 rfl (Q3 rfl rfl))) rfl (Qe3 I h1 q j (O8.mp B) G)⟩
  by_cases e:o=h
  ·subst e; rw [bQ (not_not_intro rfl)]; exact Qq (Q7 rfl rfl (Qnb S _))
  ·rw [bR e]; exact Qq (Q7 rfl rfl (Qu7 S e))
 have es:Wr (fun ns=>some (.int ns.sum)) S [.lst (((bS n).filter fun o=>decide (o≠h)).map fun o=>.int (Q35 s o h))]=.ok (.int (yc n s h)) S:=by
  rw [Q5k,Qet];refine congrArg (fun x=>Res.ok (PV.int x) S) (Y6 fun o _=>?_)
  by_cases e:o=h
  ·subst e; rw [Qch,ite_self]
  ·rw [bO (bR e)]
 exact (Jm (m:=Q1s) (nl:=2) (ps:=[.ref Q,.int h]) (Yv (Yq (Q3 (W5 (Zq (Q12 (by omega) (Yq (Q3 rfl rfl) (Q2c I h1 q j))) z)) rfl) es))).trans (Q4d S _)
theorem Qt5 {n:Nat} {s:RS} (I:SI17 n s) (h1:1<=n) (G:n<=8) {S:Q0}:∃ m:Int,Qed S [.lst ((bS n).map fun i=>.int (Wq s i))]=.ok (.int m) S/\¬ m < 0:=by
 have z:∀ x∈(bS n).map (Wq s),¬ x < 0:=fun x j=>by
  obtain ⟨i,hi,rfl⟩:=cK.mp j;have hi:=O8.mp hi;have:=(I.ca _ (.now hi)).nn i hi;show ¬ Qi _ i < 0;omega
 rw [show ((bS n).map fun i=>PV.int (Wq s i))=((bS n).map (Wq s)).map .int by rw [G6]; rfl]
 cases e:(bS n).map (Wq s) with
 | nil=>
  have:=congrArg dZ e;rw [O2,D5] at this;have this:n=0:=this;omega
 | cons a l=>
  obtain ⟨m,e1,e2⟩:=Qsf a l;refine ⟨m,?_,fun q=>?_⟩
  ·show Wr (fun ns=>(Qwg ns).map .int) S [.lst ((a :: l).map .int)]=_
   rw [Qau,e1]; rfl
  ·obtain ⟨x,j,B⟩:=e2.mp q;exact z x (by rw [e]; exact j) B
theorem Qhm {n:Nat} {s:RS} (I:SI17 n s) (h1:1<=n) (j:n<=8) {S:Q0} {Q:Nat} (q:S[Q]?=some (.lst (s.now.map Q4))):K3 [.ref Q] S=.ok (.lst ((bS n).map (Qgf n s))) S:=by
 obtain ⟨m,e2,G⟩:=Qt5 I h1 j (S:=S);have B:Qw (Q8 0) Qp Q22 [] [none,some (.ref Q)] (Jb 0 n) S=.ok ((bS n).map fun i=>.int (yc n s i)) S:=by
  rw [Y7];exact Qu (fun k:Nat=>PV.int (k:Int)) _ (Zu _) fun i hi=>⟨_,rfl,Qg (n:=2) (Q3 rfl (Q3 rfl rfl)) rfl (Qje I h1 j q (O8.mp hi))⟩
 have hz:Q48 (Q1 (Q2 1) (Q1 (Q2 2) Q5)) [some (.ref Q),some (.lst ((bS n).map fun i=>.int (Wq s i))),some (.lst ((bS n).map fun i=>.int (yc n s i)))] S=.ok ((bS n).map fun i=>.tup [.int (Wq s i),.int (yc n s i)],[]) S:=by
  unfold Q48;rw [Q3 (p:=.lst ((bS n).map fun i=>.int (Wq s i))) (S1:=S) rfl (Q3 (p:=.lst ((bS n).map fun i=>.int (yc n s i))) (S1:=S) rfl rfl),Qn]
  show (if ((bS n).map fun i=>PV.int (Wq s i)).length<=lim then Res.ok (Q5z ((bS n).map fun i=>PV.int (Wq s i)) ((bS n).map fun i=>PV.int (yc n s i)),[]) S else .stuck)=_
  rw [bO (by rw [O2,D5,Jc]; omega),qz,Qcg,G6]; rfl
 have z:Qw (Wz (J1 (Q8 0) (J1 (Q8 1) V0))) Qp Q21 [] [none,none] ((bS n).map fun i=>.tup [.int (Wq s i),.int (yc n s i)]) S=.ok ((bS n).map (Qgf n s)) S:=
  Qu _ _ (Zu _) fun i _=>⟨_,rfl,Vx (Q3 rfl (Q3 rfl (Q3 (Q7 rfl rfl (Q26 S _ _)) rfl))) (dP rfl)⟩
 exact (Jm (m:=Q59) (nl:=3) (ps:=[.ref Q]) (Qb (Qr (Qg (n:=1) (Q3 rfl rfl) rfl (Qh9 I h1 j q))) (Qb (W0 (Qq (Q7 (Yq (Q3 rfl rfl) e2) rfl (Q8b S G))) rfl) (Qb (Qr (W5 (Zq (Q12 (by omega) (Yq (Q3 rfl rfl) (Q2c I h1 j q))) B))) (Yv (W5 (Zq hz z))))))).trans (W2 (Qhb _ _ fun _ _=>rfl))
theorem Qx0 {S:Q0} {C:Nat} {h:List Int} (j:S[C]?=some (.lst (h.map .int))) {i:Nat} (hi:i < h.length):oIx S (.ref C) (.int (i:Int))=.ok (.int (h.getD i 0)) S:=by
 have q:ListAt S (.ref C) (h.map .int):=.inr (.inr ⟨C,rfl,j⟩);rw [q.ix,Ws,Sm.atI_get (getD_some hi 0)]; rfl
theorem Qqy {S:Q0} {C:Nat} {h:List Int} (j:S[C]?=some (.lst (h.map .int))) {i:Nat} (hi:i < h.length) (v:Int):Q11 S (.ref C) (.int (i:Int)) (.int v)=some (S.set C (.lst ((h.set i v).map .int))):=by
 rw [Qr0,j];show (ixN (h.map PV.int).length (i:Int)).map _=_;rw [show ixN (h.map PV.int).length (i:Int)=some i by rw [O2]; exact Qt2 hi,gr]; rfl
theorem Q5c (S:Q0) (c:Cell):(S ++ [c])[S.length]?=some c:=by rw [D2 (O7 _),cY]; rfl
theorem Qcr (S:Q0) (c d:Cell):(S ++ [c]).set S.length d=S ++ [d]:=by
 rw [List.set_append,bP (L7 _),cY]; rfl
theorem Qbp {v:PV} (S:Q0) (d:der S v=v) (g:Jk dep v=true):oNe S v v=.ok (.bl false) S:=by
 unfold oNe;rw [d,bO ⟨g,g⟩,ji g];rfl
theorem Qte {v:PV} (S:Q0) (d:der S v=v) (g:Jk dep v=true):oEq S v v=.ok (.bl true) S:=by
 unfold oEq;rw [d,bO ⟨g,g⟩,ji g]
abbrev arG (D:PV) (Q n:Nat) (c3 c4 c5 c6 c7 c8 c9 c10 c11:Option PV):Gam:=[some D,some (.ref Q),some (.int n),c3,c4,c5,c6,c7,c8,c9,c10,c11]
theorem Qys {n:Nat} {s:RS} (I:SI17 n s) (h1:1<=n) (h8:n<=8) {S:Q0} {Q:Nat} (hQ:S[Q]?=some (.lst (s.now.map Q4))) {i:Nat} (hi:i < n) (D:PV) (c3 c4 c5 c8 c9 B G:Option PV) {h:List Int} (hl:h.length=n) (hv:∀ t,t < n->h.getD t 0=Y3 i fun o=>Q35 s o t):∃ (g:List Int) (O U:Option PV),g.length=n/\(∀ t,t < n->g.getD t 0=Y3 (i + 1) fun o=>Q35 s o t)/\Uv (arG D Q n c3 c4 c5 (some (.ref S.length)) (some (.int i)) c8 c9 B G) (S ++ [.lst (h.map .int)])=.nx (arG D Q n c3 c4 c5 (some (.ref S.length)) (some (.int i)) O U B G) (S ++ [.lst (g.map .int)]):=by
 have a3:=(O0.mp hQ).1;have hq:∀ c:Cell,(S ++ [c])[Q]?=some (.lst (s.now.map Q4)):=fun c=>by rw [O4 a3]; exact hQ
 obtain ⟨a5,S',e,g,O,U,rfl,rfl,gl,Y⟩:=Xj (g:=fun k:Nat=>PV.int (k:Int)) (xs:=bS n) (ga:=Q8 8) (body:=Q19) (w:=[]) (Γ:=arG D Q n c3 c4 c5 (some (.ref S.length)) (some (.int i)) c8 c9 B G) (st:=S ++ [.lst (h.map .int)])
  (fun j Γ st=>∃ (g:List Int) (O U:Option PV),Γ=arG D Q n c3 c4 c5 (some (.ref S.length)) (some (.int i)) O U B G/\st=S ++ [.lst (g.map .int)]/\g.length=n/\∀ t,t < n->g.getD t 0=(Y3 i fun o=>Q35 s o t) + if t < j then Q35 s i t else 0)
  (fun _ _ _ _=>Zu _)
  (fun j x Γ st hx ⟨g,O,U,a2,a4,gl,Y⟩=>by
   subst a2;subst a4;have hj:j < n:=by simpa using (O0.mp hx).1
   rw [E4 hj] at hx;cases hx
   by_cases q:i=j
   ·subst q;refine ⟨_,rfl,_,_,W0 (Qq (Q7 rfl rfl (Qnb _ _))) rfl,g,_,_,rfl,rfl,gl,fun t J=>?_⟩;rw [Y t J]
    by_cases z:t=i
    ·subst z; rw [Qch,ite_self,ite_self]
    ·by_cases Z:t < i
     ·rw [bO Z,bO (by omega)]
     ·rw [bP Z,bP (by omega)]
   ·have ew:=Qn1 I h1 h8 (hq (.lst ((g.set j (g.getD j 0 + Q35 s i j)).map .int))) hi hj q;have sx:=Qqy (Q5c S (.lst (g.map .int))) (i:=j) (by omega) (g.getD j 0 + Q35 s i j);rw [Qcr] at sx;refine ⟨_,rfl,_,_,y6 (Qq (Q7 rfl rfl (Qu7 _ q))) (Qb (Qr (Qk4 I h1 h8 (hq _) hi hj rfl rfl rfl)) (Qb (Q4n (Q7 (Q7 rfl rfl (Qx0 (Q5c S (.lst (g.map .int))) (by omega))) rfl (Q26 _ _ _)) rfl rfl sx) (W0 (Qq (Q7 (Qg (n:=3) (Q3 rfl (Q3 rfl (Q3 rfl rfl))) rfl ew) rfl (Qnb _ _))) rfl))),g.set j (g.getD j 0 + Q35 s i j),_,_,rfl,rfl,by rw [D9]; exact gl,fun t J=>?_⟩;rw [J4 (by omega),Y j hj,bP (L7 j),gy]
    by_cases z:t=j
    ·subst z; rw [bO rfl,bO (by omega)]
    ·rw [bP z,Y t J]
     by_cases Z:t < j
     ·rw [bO Z,bO (by omega)]
     ·rw [bP Z,bP (by omega)])
  ⟨h,_,_,rfl,rfl,hl,fun t J=>by rw [bP (cb t),gy]; exact hv t J⟩
 rw [<- Y7,D5] at *;exact ⟨g,O,U,gl,fun t J=>by rw [Y t J,bO J,J3],y8 (Q12 (by omega) rfl) e⟩
theorem Quh {n:Nat} {s:RS} (I:SI17 n s) (h1:1<=n) (h8:n<=8) {S:Q0} {Q:Nat} (hQ:S[Q]?=some (.lst (s.now.map Q4))) (D:PV) (U J O j q:Option PV):∃ G z B:Option PV,Q1u (Q8 7) (J7 (Q1 (Q2 2) Q5)) Uv (arG D Q n U J O (some (.ref S.length)) none none none j q) (S ++ [.lst ((bS n).map fun _=>.int 0)])=.nx (arG D Q n U J O (some (.ref S.length)) G z B j q) (S ++ [.lst ((bS n).map fun i=>.int (yc n s i))]):=by
 have e0:((bS n).map fun _=>PV.int 0)=((bS n).map fun _=>(0:Int)).map .int:=by rw [G6]; rfl
 obtain ⟨a3,S',e,g,G,z,B,rfl,rfl,gl,gv⟩:=Xj (g:=fun k:Nat=>PV.int (k:Int)) (xs:=bS n) (ga:=Q8 7) (body:=Uv) (w:=[]) (Γ:=arG D Q n U J O (some (.ref S.length)) none none none j q) (st:=S ++ [.lst ((bS n).map fun _=>.int 0)])
  (fun i Γ st=>∃ (g:List Int) (G z B:Option PV),Γ=arG D Q n U J O (some (.ref S.length)) G z B j q/\st=S ++ [.lst (g.map .int)]/\g.length=n/\∀ t,t < n->g.getD t 0=Y3 i fun o=>Q35 s o t)
  (fun _ _ _ _=>Zu _)
  (fun i x Γ st Y ⟨g,G,z,B,Z,a2,gl,gv⟩=>by
   subst Z;subst a2;have hi:i < n:=by simpa using (O0.mp Y).1
   rw [E4 hi] at Y;cases Y;obtain ⟨g',b8,b9,l',v',e⟩:=Qys I h1 h8 hQ hi D U J O z B j q gl gv;exact ⟨_,rfl,_,_,e,g',_,_,_,rfl,rfl,l',v'⟩)
  ⟨(bS n).map fun _=>0,_,_,_,rfl,by rw [e0],by rw [O2,D5],fun t ht=>by
    rw [F4,E2,E4 ht]; rfl⟩
 rw [<- Y7,D5] at *;refine ⟨G,z,B,(y8 (Q12 (by omega) rfl) e).trans ?_⟩;rw [Q3i g 0 PV.int,gl];exact congrArg (fun l=>SR.nx _ (S ++ [Cell.lst l])) (dE fun i hi=>by rw [gv i (O8.mp hi)]; rfl)
theorem Qt1 {n:Nat} {s:RS} (I:SI17 n s) (h1:1<=n) (h8:n<=8) {S:Q0} {Q:Nat} (hQ:S[Q]?=some (.lst (s.now.map Q4))) (D:PV) (c5 U Y Z O j z:Option PV):∃ B:Option PV,Q1u (Q8 4) (Ke (Q2 1)) Kw (arG D Q n (some (Q4 (s.now.getD 0 []))) none c5 U Y Z O j z) S=.nx (arG D Q n (some (Q4 (jw n s))) B c5 U Y Z O j z) S:=by
 have r:=I.ri;have J:=I.jn h1;obtain ⟨a4,S',e,B,rfl,rfl⟩:=Xj (g:=fun i=>Q4 (s.now.getD i [])) (xs:=bS n) (ga:=Q8 4) (body:=Kw) (w:=[(Q,.lst (s.now.map Q4))]) (Γ:=arG D Q n (some (Q4 (s.now.getD 0 []))) none c5 U Y Z O j z) (st:=S)
  (fun i Γ st=>∃ B,Γ=arG D Q n (some (Q4 (jnt n s i))) B c5 U Y Z O j z/\st=S) (fun _ _ st ⟨_,_,h⟩=>by rw [h]; exact Qdg I h1 h8 hQ)
  (fun i x Γ st hx ⟨B,a2,a3⟩=>by
   subst a2; subst a3;have G:i < n:=by simpa using (O0.mp hx).1
   rw [E4 G] at hx;cases hx;have wJ:=(J i (by omega)).w;have wN:=r.wn i G;have ej:=Q90 (a:=jnt n s i) (b:=s.now.getD i []) (by rw [wJ.len,wN.len]) (by rw [wJ.len]; omega) (fun q hq=>by rw [wJ.row q hq]; omega) st;exact ⟨_,rfl,_,_,Qr (Qg (n:=2) (Q3 rfl (Q3 rfl rfl)) rfl ej),_,rfl,rfl⟩)
  ⟨_,rfl,rfl⟩
 rw [D5,(J n (O7 n)).own r] at e;exact ⟨B,y8 (Qfh I h1 h8 hQ rfl) e⟩
theorem Qju {n:Nat} {s:RS} (I:SI17 n s) (h1:1<=n) (q:n<=8) {S:Q0} {Q:Nat} (z:S[Q]?=some (.lst (s.now.map Q4))) (D:PV):Ka [D,.ref Q] S=.ok (.bl true) S:=by
 have r:=I.ri;obtain ⟨S1,j⟩:∃ S1,S ++ [Cell.lst ((bS n).map fun i=>.int (yc n s i))]=S1:=⟨_,rfl⟩
 have O:=(O0.mp z).1;have B:S1[Q]?=some (.lst (s.now.map Q4)):=by rw [<- j,O4 O]; exact z
 have hC:ListAt S1 (.ref S.length) ((bS n).map fun i=>.int (yc n s i)):=.inr (.inr ⟨_,rfl,by rw [<- j]; exact Q5c _ _⟩)
 have U:∀ i,i < n->oIx S1 (.ref S.length) (.int i)=.ok (.int (yc n s i)) S1:=fun i hi=>by
  rw [hC.ix,Ws,Sm.atI_get (E4 hi)]; rfl
 have he:∀ i,i < n->Qi (jw n s) i=Wq s i + yc n s i:=fun i hi=>Qha r hi
 have Y:Qw (Q8 0) Qp Q18 [] [none,some (.ref Q)] (Jb 0 n) S=.ok ((bS n).map fun i=>.int (Wq s i)) S:=by
  rw [Y7];exact Qu (fun k:Nat=>PV.int (k:Int)) _ (Zu _) fun i hi=>⟨_,rfl,Qg (n:=2) (Q3 (Q7 rfl rfl (Qbm I h1 q z (O8.mp hi))) (Q3 rfl rfl)) rfl (Q0w (r.wn i (O8.mp hi)).sz (by omega) (O8.mp hi) S)⟩
 have a3:Qw (Q8 0) Qp Q17 [] [none] (Jb 0 n) S=.ok ((bS n).map fun _=>.int 0) S:=by
  rw [Y7];exact Qu (fun k:Nat=>PV.int (k:Int)) _ (Zu _) fun i _=>⟨_,rfl,rfl⟩
 have Z:Qw (Q8 0) Qp Q16 [] [none,some (.lst ((bS n).map fun i=>.int (Wq s i))),some (.ref S.length)] (Jb 0 n) S1=.ok ((bS n).map (Qgf n s)) S1:=by
  rw [Y7];refine Qu (fun k:Nat=>PV.int (k:Int)) _ (Zu _) fun i hi=>⟨_,rfl,?_⟩
  have a1:=J02 (O8.mp hi) (fun i=>PV.int (Wq s i)) S1
  have a2:=U i (O8.mp hi);exact Vx (Q3 (Q7 rfl rfl a1) (Q3 (Q7 rfl rfl a2) (Q3 (Q7 (Q7 rfl rfl a1) (Q7 rfl rfl a2) (Q26 S1 _ _)) rfl))) (dP rfl)
 have J:Qw (Q8 0) Qp Q15 [] [none] ((bS n).map (Qgf n s)) S1=.ok ((bS n).map fun i=>.int (Wq s i + yc n s i)) S1:=Qu _ _ (Zu _) fun i _=>⟨_,rfl,Q7 rfl rfl rfl⟩
 have G:Qw (Q8 0) Qp Q14 [] [none,some (Q4 (jw n s))] (Jb 0 n) S1=.ok ((bS n).map fun i=>.int (Wq s i + yc n s i)) S1:=by
  rw [Y7];refine Qu (fun k:Nat=>PV.int (k:Int)) _ (Zu _) fun i hi=>⟨_,rfl,?_⟩
  have e:=yg (Q1m r) (by omega) (O8.mp hi) S1;rw [he i (O8.mp hi)] at e;exact Qg (n:=2) (Q3 rfl (Q3 rfl rfl)) rfl e
 have es:Wr (fun ns=>some (.int ns.sum)) S1 [.lst ((bS n).map fun i=>.int (Wq s i + yc n s i))]=.ok (.int (Q70 n (jw n s))) S1:=by
  rw [Q5k,<- Qf8 (Q1m r),Y6 he]; rfl
 obtain ⟨d4,ej⟩:=Qt1 I h1 q z D none none none none none none none;obtain ⟨d7,d8,d9,ew⟩:=Quh I h1 q z D (some (Q4 (jw n s))) d4 (some (.lst ((bS n).map fun i=>.int (Wq s i)))) none none
 rw [j] at ew;have gI:∀ f:Nat->Int,Jk dep (.lst ((bS n).map fun i=>PV.int (f i)))=true:=fun f=>by simp [dep,Jk]
 have dI:∀ f:Nat->Int,der S1 (.lst ((bS n).map fun i=>PV.int (f i)))=.lst ((bS n).map fun i=>PV.int (f i)):=fun f=>rfl
 have gA:Jk dep (.lst ((bS n).map (Qgf n s)))=true:=by simp [dep,Jk,Qgf]
 have step:K5 [some D,some (.ref Q),none,none,none,none,none,none,none,none,none,none] S=.rt (.bl true) S1:=Qb (Qr (Yq (Q3 rfl rfl) (Q2c I h1 q z))) (Qb (W0 (Qq (Q7 (Qg (n:=1) (Q3 rfl rfl) rfl (Qcq I h1 q z)) rfl rfl)) rfl) (Qb (Qr (Q7 rfl rfl (Qbm I h1 q z h1))) (Qb ej (Qb (Qr (W5 (Zq (Q12 (by omega) rfl) Y))) (Qb (Qr (j7 (Zq (Q12 (by omega) rfl) a3))) (Qb ew (Qb (Qr (W5 (Zq (Q12 (by omega) rfl) Z))) (Qb (W0 (Qbf (Qq (Q7 (Qg (n:=1) (Q3 rfl rfl) rfl (Qk3 I h1 q B)) rfl (Qwe S1 _))) (Qbf (Qq (Q7 (Qg (n:=1) (Q3 rfl rfl) rfl (Qh9 I h1 q B)) rfl (Qbp S1 (dI _) (gI _)))) (Qq (Q7 (Qg (n:=1) (Q3 rfl rfl) rfl (Qhm I h1 q B)) rfl (Qbp S1 rfl gA))))) rfl) (Qb (Qr (W5 (Zq (Q72 rfl rfl (by rw [O2,D5]; omega)) J))) (Yv (Qgp (Q7 (Yq (Q3 rfl rfl) es) (Qg (n:=1) (Q3 rfl rfl) rfl (Qkg (Q1m r) (by omega) S1)) (Q4f S1 rfl)) (Q7 (W5 (Zq (Q12 (by omega) rfl) G)) rfl (Qte S1 (dI _) (gI _))))))))))))))
 exact (Jm (m:=K5) (nl:=12) (ps:=[D,.ref Q]) step).trans (by rw [<- j]; exact Q2g rfl)
def Qc0:Dx->Bool
 | .sd _=>true
 | _=>false
theorem eqs {a b:Str} (c:Bool) (h:(a == b)=c) (S:Q0):oEq S (.str a) (.str b)=.ok (.bl c) S:=by rw [Qsd,h]
theorem Qyr (x:Dx) (S:Q0):∃ j:Str,oIx S x.V (.int 0)=.ok (.str j) S/\oEq S (.str j) (.str "send")=.ok (.bl (Qc0 x)) S:=by
 cases x with
 | own d=>cases d <;> exact ⟨_,rfl,eqs false (by decide +kernel) S⟩
 | sd i=>exact ⟨_,rfl,eqs true (by decide +kernel) S⟩
 | _=>exact ⟨_,rfl,eqs false (by decide +kernel) S⟩
theorem Qnp (n:Nat):∀ (xs:List Dx) (s:RS),(Zr n s xs).le.length=s.le.length + (xs.filter Qc0).length
 | [],_=>rfl
 | x :: xs,s=>by
  have e:=Qnp n xs (Jd n s x);have h:(Jd n s x).le.length=s.le.length + if Qc0 x=true then 1 else 0:=by
   cases x with
   | own d=>
    show (if d.fits (s.now.getD d.h [])=true then (⟨s.now.set d.h (d.put n (s.now.getD d.h [])),s.last,s.le⟩:RS) else s).le.length=_
    split <;> rfl
   | sd i=>exact O6
   | _=>rfl
  show (Zr n (Jd n s x) xs).le.length=_;rw [e,h,List.filter_cons]
  split <;> simp <;> omega
theorem Qtu {ma mb:ME} {Γ:Gam} {S:Q0} {a b:List PV} (h1:ma Γ S=.ok (.lst a) S) (h2:mb Γ S=.ok (.lst b) S) (j:a.length + b.length<=1000000):Qaf ma mb Γ S=.ok (a ++ b) S:=by
 rw [Qnm,h1,Qn,h2,Qn];exact bO j
theorem Qen {n:Nat} (hn:n<=8) (xs:List Dx) (hx:xs.length<=100) (S:Q0):V4 [.lst (xs.map Dx.V),.int n] S=.ok (.ref S.length) (S ++ [.lst ((xs ++ ksL n ++ cmL n (xs.filter Qc0).length n).map Dx.V)]):=by
 obtain ⟨k,q⟩:∃ k,(xs.filter Qc0).length=k:=⟨_,rfl⟩;have Y:k<=100:=by rw [<- q]; exact F1 (dz _ _) hx
 have hK:Qw (Q8 0) Qp Vv [] [none] (Jb 0 n) S=.ok (((bS n).map Dx.kp).map Dx.V) S:=by
  rw [Y7,G6];exact Qu (fun k:Nat=>PV.int (k:Int)) _ (Zu _) fun i _=>⟨_,rfl,Vx (Q3 rfl (Q3 rfl rfl)) (dP rfl)⟩
 have hS:Qw (Q8 0) Qp Vu [] [none] (Jb 0 n) S=.ok (((bS n).map Dx.sd).map Dx.V) S:=by
  rw [Y7,G6];exact Qu (fun k:Nat=>PV.int (k:Int)) _ (Zu _) fun i _=>⟨_,rfl,Vx (Q3 rfl (Q3 rfl rfl)) (dP rfl)⟩
 have a1:Yj S (.lst (xs.map Dx.V)) (.lst (((bS n).map Dx.kp).map Dx.V))=.ok (.lst (xs.map Dx.V ++ ((bS n).map Dx.kp).map Dx.V)) S:=Qxj (.inl rfl) (.inl rfl) (by simp; omega);obtain ⟨D,z⟩:∃ D,xs ++ ksL n=D:=⟨_,rfl⟩;have Z:(xs.map Dx.V ++ ((bS n).map Dx.kp).map Dx.V) ++ ((bS n).map Dx.sd).map Dx.V=D.map Dx.V:=by rw [<- z]; unfold ksL; rw [<- F0,<- F0,L5]
 have lD:D.length<=200:=by rw [<- z]; unfold ksL; simp; omega
 obtain ⟨S1,j⟩:∃ S1,S ++ [Cell.lst (D.map Dx.V)]=S1:=⟨_,rfl⟩;have hF:Qw (Q8 0) Xa Xn [] [none] (xs.map Dx.V) S1=.ok ((xs.filter Qc0).map Dx.V) S1:=
  qy _ _ _ (Zu _) fun x _=>(let ⟨wd,e1,e2⟩:=Qyr x S1; ⟨_,rfl,Qq (Q7 (Q7 rfl rfl e1) rfl e2),fun _=>rfl⟩)
 have eL:Zt S1 [.lst ((xs.filter Qc0).map Dx.V)]=.ok (.int k) S1:=by rw [Qps,O2,q]
 obtain ⟨a2,S',f,J,rfl,rfl⟩:=Xj (g:=fun t:Nat=>PV.int ((k:Int) + (t:Int))) (xs:=bS n) (ga:=Q8 4) (body:=Xs) (w:=[]) (Γ:=[some (.lst (xs.map Dx.V)),some (.int n),some (.ref S.length),some (.int k),none]) (st:=S1)
  (fun t Γ st=>∃ J,Γ=[some (.lst (xs.map Dx.V)),some (.int n),some (.ref S.length),some (.int k),J]/\st=S ++ [.lst ((D ++ cmL n k t).map Dx.V)])
  (fun _ _ _ _=>Zu _)
  (fun t x Γ st G ⟨J,B,O⟩=>by
   subst B; subst O;have I:t < n:=by simpa using (O0.mp G).1
   rw [E4 I] at G;cases G;have hc:Qw (Q8 0) Qp Xm [] [none,some (.int ((k:Int) + (t:Int)))] (Jb 0 n) (S ++ [.lst ((D ++ cmL n k t).map Dx.V)])=.ok ((cmR n (k + t)).map Dx.V) (S ++ [.lst ((D ++ cmL n k t).map Dx.V)]):=by
    rw [Y7];unfold cmR;rw [G6];exact Qu (fun k:Nat=>PV.int (k:Int)) _ (Zu _) fun i _=>⟨_,rfl,Vx (Q3 rfl (Q3 rfl (Q3 rfl rfl))) (dP rfl)⟩
   have lc:=Qc8 n k t;have tn:t * n<=64:=F1 (gz (show t<=8 by omega) hn) (O7 64);have ex:=Qtc (Q5c S (.lst ((D ++ cmL n k t).map Dx.V))) (ys:=(cmR n (k + t)).map Dx.V) (by rw [O2,O2,O6,lc]; unfold cmR; rw [O2,D5]; omega);rw [Qcr] at ex;refine ⟨_,rfl,_,_,Q3t rfl (W7 (Q5c S _)) (Q3 (W5 (Zq (Q12 (by omega) rfl) hc)) rfl) ex,_,rfl,?_⟩;rw [Qea,<- L5,F0 (l₁:=D ++ cmL n k t)])
  ⟨_,rfl,by rw [<- j]; show S ++ [Cell.lst (D.map Dx.V)]=S ++ [Cell.lst ((D ++ []).map Dx.V)]; rw [L6]⟩
 rw [D5] at *;have U:Q0h (Q1 (Q2 3) (Q1 (mOp Yj (Q2 3) (Q2 1)) Q5)) [some (.lst (xs.map Dx.V)),some (.int n),some (.ref S.length),some (.int k),none] S1=.ok ((bS n).map fun t:Nat=>PV.int ((k:Int) + (t:Int)),[]) S1:=by
  rw [Q87,Q3 (m:=Q2 3) (p:=.int k) rfl (Q3 (Q7 (a:=Q2 3) (b:=Q2 1) (x:=.int k) (y:=.int n) rfl rfl (Q26 _ _ _)) (show Q5 _ _=.ok [] _ from rfl)),Qn];show (if -(lim:Int)<=(k:Int)/\(k:Int)<=(lim:Int)/\-(lim:Int)<=(k:Int) + (n:Int)/\(k:Int) + (n:Int)<=lim then _ else _)=_;rw [bO (by rw [Jc]; omega),show ((k:Int) + (n:Int) - k).toNat=n by omega]; rfl
 have s2:J2 2 (y0 (Qaf (mOp Yj (Qm Q34 (Q1 (Q2 0) Q5)) (Yz (Qs [none] (Q8 0) (J7 (Q1 (Q2 1) Q5)) Qp Vv))) (Yz (Qs [none] (Q8 0) (J7 (Q1 (Q2 1) Q5)) Qp Vu)))) [some (.lst (xs.map Dx.V)),some (.int n),none,none,none] S=.nx [some (.lst (xs.map Dx.V)),some (.int n),some (.ref S.length),none,none] S1:=by
  rw [<- j,<- Z];exact Qr (j7 (Qtu (Q7 (Yq (Q3 rfl rfl) rfl) (W5 (Zq (Q12 (by omega) rfl) hK)) a1) (W5 (Zq (Q12 (by omega) rfl) hS)) (by simp; omega)))
 rw [q,z];exact ju (m:=Ks) (nl:=5) (ps:=[.lst (xs.map Dx.V),.int n]) (Qb s2 (Qb (Qr (Yq (Q3 (W5 (Zq (Q72 rfl rfl (by rw [O2]; omega)) hF)) rfl) eL)) (Qb (y8 U f) (Yv rfl))))
abbrev l83 (ns:List Int) (tb:Tab) (n:Nat) (c6 c7 c8:Option PV):Gam:=[some (.fro (ns.map .int)),some (Q4 tb),some (.int n),some (.ref 4),some (.ref 5),some (.ref 3),c6,c7,c8]
theorem Qr7 (C:aA) {n:Nat} {tb:Tab} (w:Wt' n tb) (c:Ca n tb) {xs:List Dx} (ok:OkL n (s0 n tb) xs) (U:xs.length<=60) (ns:List Int) {S:Q0} (hD:S[4]?=some (.lst (xs.map Dx.V))) (k:Nat) (c7 c8:Option PV):∃ (d7 d8:Option PV) (S':Q0),Q6r C (l83 ns tb n (some (.int (k:Int))) c7 c8) S=.nx (l83 ns tb n (some (.int (k:Int))) d7 d8) S'/\S'[4]?=some (.lst (xs.map Dx.V)):=by
 have h8:=w.n8;have h1:=w.n1;have S4:4 < S.length:=(O0.mp hD).1;have oK:=Qn2 ok k;have lk:(xs.take k).length<=60:=by rw [cF]; exact F1 (fo _ _) U
 obtain ⟨ys,Y⟩:∃ ys,xs.take k=ys:=⟨_,rfl⟩;rw [Y] at oK lk;have J:∀ (S:Q0) (c7 c8:Option PV),S[4]?=some (.lst (xs.map Dx.V))->mSl (Q2 3) Wc (X5 (Q2 6)) (l83 ns tb n (some (.int (k:Int))) c7 c8) S=.ok (.lst (ys.map Dx.V)) S:=fun S c7 c8 h=>by
  rw [Qyp (V:=.ref 4) (xs:=xs.map Dx.V) (k:=k) rfl (.inr (.inr ⟨4,rfl,h⟩)) rfl,<- gV,Y]
 obtain ⟨j,e2,a9,a4,_,a3⟩:=Qa8 (C:=C) (S:=S) (DV:=.lst (ys.map Dx.V)) (xs:=ys) (wt:=[]) w c (fun st _=>⟨rfl,Zu st⟩) (by omega) oK;have I:=(SI17.start w c).run oK;have d2:j[4]?=some (.lst (xs.map Dx.V)):=by rw [a4 4 S4]; exact hD
 have ea:=Qju I h1 h8 a3 (.lst (ys.map Dx.V));have el:=Qen h8 ys (by omega) j;have Z:=Qnp n ys (s0 n tb);have Z:(Zr n (s0 n tb) ys).le.length=(ys.filter Qc0).length:=by rw [Z]; exact gS _
 obtain ⟨kl,a5⟩:∃ kl,(ys.filter Qc0).length=kl:=⟨_,rfl⟩;rw [a5] at el Z;obtain ⟨oR,eR⟩:=Qnr w c oK (row:=cmL n kl n) (Cms.of fun x U=>by rw [Z]; exact Qtk U) fun a i ha hi=>by rw [Z]; exact Qtm ha hi
 obtain ⟨R,hR⟩:∃ R,ys ++ ksL n ++ cmL n kl n=R:=⟨_,rfl⟩;rw [hR] at el oR eR;have lR:R.length<=1000:=by
  rw [<- hR,O6,O6,Qc8];have:n * n<=64:=gz h8 h8;unfold ksL;rw [O6,O2,O2,D5];omega
 obtain ⟨G,B⟩:∃ G,j ++ [Cell.lst (R.map Dx.V)]=G:=⟨_,rfl⟩;rw [B] at el;have k3:∀ t,t < j.length->G[t]?=j[t]?:=fun t ht=>by rw [<- B]; exact O4 ht
 have r3:G[j.length]?=some (.lst (R.map Dx.V)):=by rw [<- B]; exact Q5c _ _
 have l3:j.length < G.length:=(O0.mp r3).1;obtain ⟨q,e5,b0,z,_,a2⟩:=Qa8 (C:=C) (S:=G) (DV:=.ref j.length) (xs:=R) (wt:=[(j.length,.lst (R.map Dx.V))]) w c (fun st h=>⟨by unfold Vn; simp only [h _ l3,r3],fun x U=>by rw [cz.mp U]; exact (h _ l3).trans r3⟩) lR oR;rw [eR] at a2;have a7:q[S.length + n + 2]?=some (.lst ((Zr n (s0 n tb) ys).now.map Q4)):=by rw [z _ (by omega),k3 _ (by omega)]; exact a3
 have d5:q[4]?=some (.lst (xs.map Dx.V)):=by rw [z _ (by omega),k3 _ (by omega)]; exact d2
 have O:=Qhm I h1 h8 a7;have a6:Qw (Q8 0) Qp (Qc5 C) [] [none,some (.ref (G.length + n + 2))] (Jb 0 n) q=.ok ((bS n).map fun i=>.int (Wq (Zr n (s0 n tb) ys) i + yc n (Zr n (s0 n tb) ys) i)) q:=by
  rw [Y7];refine Qu (fun k:Nat=>PV.int (k:Int)) _ (Zu _) fun i hi=>⟨_,rfl,?_⟩
  have hi:=O8.mp hi;have e:=yg (Q1m I.ri) (by omega) hi q;rw [show Qi (jw n (Zr n (s0 n tb) ys)) i=Wq (Zr n (s0 n tb) ys) i + yc n (Zr n (s0 n tb) ys) i from Qha I.ri hi] at e;have x:=x9 a2 (i:=i) (by rw [da]; exact hi);rw [yh hi] at x;exact Qg (n:=2) (Q3 (Q7 rfl rfl x) (Q3 rfl rfl)) rfl e
 have a8:Qw (Q8 0) Qp (Qc4 C) [] [none] ((bS n).map (Qgf n (Zr n (s0 n tb) ys))) q=.ok ((bS n).map fun i=>.int (Wq (Zr n (s0 n tb) ys) i + yc n (Zr n (s0 n tb) ys) i)) q:=Qu _ _ (Zu _) fun i _=>⟨_,rfl,Q7 rfl rfl rfl⟩
 refine ⟨_,_,q,Qb (Qr (Q7 (Qg (n:=2) (Q3 rfl (Q3 (J S _ _ hD) rfl)) rfl e2) rfl rfl)) (Qb (W0 (Q1p (b:=true) (Qq (Qg (n:=2) (Q3 (J j _ _ d2) (Q3 rfl rfl)) rfl ea))) rfl) (Qb (Qr (Q7 (Qg (n:=2) (Q3 rfl (Q3 (Qg (n:=2) (Q3 (J j _ _ d2) (Q3 rfl rfl)) rfl el) rfl)) rfl e5) rfl rfl)) (W0 (Qq (Q7 (W5 (Zq (Q12 (by omega) rfl) a6)) (W5 (Zq (Q72 (Qg (n:=1) (Q3 rfl rfl) rfl O) rfl (by rw [O2,D5]; omega)) a8)) (Qbp q rfl (by simp [dep,Jk])))) rfl))),d5⟩
theorem Qsy (C:aA):∀ ns:List Int,ns.length<=63->∃ st',Qqa C [.fro (ns.map .int)] []=.ok (.bl true) st':=by
 intro ns a2;obtain ⟨n,tb,hn,G,e1⟩:=Qjx ns;have w:=G.w;have c:=G.c;obtain ⟨m,hm,Z⟩:∃ m:Nat,m<=13/\(if (if (ns.length:Int) - 1 < 10 then (ns.length:Int) - 1 else 10) > 4 then (if (ns.length:Int) - 1 < 10 then (ns.length:Int) - 1 else 10) else 4)=(m:Int):=by
  refine ⟨(if (if (ns.length:Int) - 1 < 10 then (ns.length:Int) - 1 else 10) > 4 then (if (ns.length:Int) - 1 < 10 then (ns.length:Int) - 1 else 10) else 4).toNat,?_,?_⟩ <;> split <;> split <;> omega
 obtain ⟨xs,S1,a3,A,e2⟩:=Qgd G ns m hm;obtain ⟨N,hN⟩:∃ N,rsz 0 ((xs.length:Int) + 1) 3=N:=⟨_,rfl⟩;obtain ⟨a4,J,f,O,z,B,rfl,_⟩:=Xj (g:=fun t:Nat=>PV.int ((3 * t:Nat):Int)) (xs:=bS N) (ga:=Q8 6) (body:=Q6r C) (w:=[]) (Γ:=l83 ns tb n none none none) (st:=S1)
  (fun _ Γ st=>∃ O z B,Γ=l83 ns tb n O z B/\st[4]?=some (.lst (xs.map Dx.V))) (fun _ _ _ _=>Zu _)
  (fun _ t Γ st _ ⟨O,z,B,I,U⟩=>by
   subst I;obtain ⟨d7,d8,J,e,h⟩:=Qr7 C w c A.ok (by omega) ns U (3 * t) z B;exact ⟨_,rfl,_,_,e,_,_,_,rfl,h⟩)
  ⟨_,_,_,rfl,A.de⟩
 have j:Qed [] [.int 10,.int ((ns.length:Int) - 1)]=.ok (.int (if (ns.length:Int) - 1 < 10 then (ns.length:Int) - 1 else 10)) []:=Qpq _ _ _;have q:Q8x [] [.int 4,.int (if (ns.length:Int) - 1 < 10 then (ns.length:Int) - 1 else 10)]=.ok (.int m) []:=by rw [Qee,Z]
 have ln:Zt [] [.fro (ns.map .int)]=.ok (.int ns.length) []:=by simp
 have hV:ListAt S1 (.ref 4) (xs.map Dx.V):=.inr (.inr ⟨4,rfl,A.de⟩);have Y:Q4a (Q1 (mC (.int 0)) (Q1 (mOp Yj (Qm Zt (Q1 (Q2 3) Q5)) (mC (.int 1))) (Q1 (mC (.int 3)) Q5))) (l83 ns tb n none none none) S1=.ok ((bS N).map fun t:Nat=>PV.int ((3 * t:Nat):Int),[]) S1:=by
  rw [Qfu,Q3 (p:=.int 0) rfl (Q3 (p:=.int ((xs.length:Int) + 1)) (Q7 (Yq (Q3 (p:=.ref 4) rfl rfl) (by rw [hV.len,O2])) rfl (Q26 S1 _ _)) (Q3 (p:=.int 3) rfl (show Q5 _ _=.ok [] _ from rfl))),Qn];show (if (3:Int)≠0/\-1000000<=(0:Int)/\(0:Int)<=1000000/\-1000000<=(xs.length:Int) + 1/\(xs.length:Int) + 1<=1000000/\-1000000<=(3:Int)/\(3:Int)<=1000000 then Res.ok (jh 0 3 (rsz 0 ((xs.length:Int) + 1) 3),[]) S1 else .stuck)=_;rw [bO (by omega),hN];unfold jh;exact congrArg (fun l=>Res.ok (l,([]:Wt)) S1) (dE fun t _=>by congr 1; omega)
 have k1:J2 1 (Q9 1 Va (Q1 (Q2 0) Q5)) [some (.fro (ns.map .int)),none,none,none,none,none,none,none,none] []=.nx [some (.fro (ns.map .int)),some (Q4 tb),none,none,none,none,none,none,none] []:=Qr (Qg (n:=1) (Q3 rfl rfl) rfl e1);have k3:Qnk (Wz (J1 (Q8 3) (J1 (Q8 4) (J1 (Q8 5) V0)))) (Q9 4 Wp (Q1 (Q2 0) (Q1 (mC (.int 1)) (Q1 (Qm Q8x (Q1 (mC (.int 4)) (Q1 (Qm Qed (Q1 (mC (.int 10)) (Q1 (mOp (oI fun a b=>.int (a - b)) (Qm Zt (Q1 (Q2 0) Q5)) (mC (.int 1))) Q5))) Q5))) (Q1 (Q2 1) Q5))))) [some (.fro (ns.map .int)),some (Q4 tb),some (.int n),none,none,none,none,none,none] []=.nx (l83 ns tb n none none none) S1:=
  Qxi (Qg (n:=4) (Q3 rfl (Q3 rfl (Q3 (Yq (Q3 rfl (Q3 (Yq (Q3 rfl (Q3 (Q7 (Yq (Q3 rfl rfl) ln) rfl (Qkf [] _ _)) rfl)) j) rfl)) q) (Q3 rfl rfl)))) rfl e2) rfl
 have step:Qnd C [some (.fro (ns.map .int)),none,none,none,none,none,none,none,none] []=.rt (.bl true) J:=Qb k1 (Qb (Qr (Yq (Q3 rfl rfl) (Qgg w []))) (Qb k3 (Qb (y8 Y f) rfl)));exact ⟨[],(Jm step).trans (Q2g (st:=[]) (more:=J) rfl)⟩
end Lw
namespace Lw
open PySem PySem.Spec L2 Sm
theorem all_mk {l:eu} {w:aO} {K:bU} {h:Heap} {mg:Str->Option aB} {fa f1 f2 f3 f4 f5 f6 f7 f8 f9 N0 f11 S5 P6 f14 B9 f16 L9 E1 P7 B6 P2 P1 H4 C3 f25 T4 f27 C2 N6 L4 I4 f32 f33 M9 f35 f36 f37 M4 I0 R4 B5 C6 f43 f44 f45 N1 P3 f48 I9 I2 L0 T1 f53 C9 V2 M7 T2 f58 I1 B0 S6 f62 M0 R6 P4 f66 f67 M5 f69 q4:aA} (X:K.In h) (G:h.Ns aS mg) (hfa:mg "law" = some (.ref fa))
  {r2 n7:Option aA} {u2:Array (Option aB)} {x7 o0 o2 o1 m5 n9:aB}
  {i0 e5 c2 d3 c9:aA}
  {Z:aA}
  {d2:Tok}
  {eW eS fI pd xN:aA} {B3 R5:Str} {B4 t9:List aB} {xsn:List Str} {xab:Bool} {u5:Option Bool} {xdd T7 anI:Option aA} {P0 R7 xk2 xk3 B2:Option aB} {R9:Array (Option aB)} {kVI dcI H5 w9 ctI:aB} {pt1 pt2 pt3 pu1 S3 pu3:Tok} {pep:Nat} {cdx:ClassData} {o4:aA} {qt1 M3 qt3 G5 S4 P9 qu3 T9:Tok} {w5:Nat}
  (aH:bX K aS "House" = some (some (.ref Z)))
  (G0:dB K Z fZ=true)
  (T8:dX K Z=true)
  (Hpo:eK K Z=true)
  (I7:bZ K (.ref Z) "__setattr__" = some (some (.builtin "object.__setattr__")))
  (S9:eN K Z=true)
  (Hkc:bi K (.ref Z)=true)
  (k6:bZ K (.ref Z) "number" = some none)
  (n5:bZ K (.ref Z) "now" = some none)
  (n0:bZ K (.ref Z) "kept" = some none)
  (z6:bX K aS "law" = some (some (.ref q4)))
  (l70:K.lookup q4=some ⟨x7,r2,.func (bg "law" "law" (Wn Q3z) (Yd Q3z) (Q6 Q3z) .none o0 o2 o1 n7 m5 n9),u2⟩)
  (c70:bx K m5 "law" = true)
  (k70:bi K (.ref q4)=true)
  (b5:bX K aS "rights_tables" = some (some (.ref f6)))
  (p4:bX K aS "all" = some none)
  (p6:bX K aS "any" = some none)
  (n4:bX K aS "bool" = some none)
  (i4:bX K aS "enumerate" = some none)
  (q7:bX K aS "int" = some none)
  (e9:bX K aS "isinstance" = some none)
  (q6:bX K aS "len" = some none)
  (n6:bX K aS "list" = some none)
  (o6:bX K aS "max" = some none)
  (o9:bX K aS "min" = some none)
  (m6:bX K aS "range" = some none)
  (q8:bX K aS "str" = some none)
  (p0:bX K aS "sum" = some none)
  (m4:bX K aS "tuple" = some none)
  (p7:bX K aS "zip" = some none)
  (d8:bX K aS "MOST_HOUSES" = some (some (.int 8 d2)))
  (l3:bX K aS "NoDeed" = some (some (.ref i0)))
  (l1:bX K aS "NoHouse" = some (some (.ref e5)))
  (i8:bX K aS "NoLetter" = some (some (.ref c2)))
  (k7:bX K aS "NoStand" = some (some (.ref d3)))
  (k8:bX K aS "NoTable" = some (some (.ref c9)))
  (nW:bX K aS "WharfError" = some (some (.ref eW)))
  (nS:bX K aS "Short" = some (some (.ref eS)))
  (w0:K.lookup eS=some (excClassObj B3 R5 eS xN B4 (.ref eW :: Vw) true xsn t9 xab u5 xdd P0 R7 xk2 xk3 B2 "ValueError.__new__"))
  (R1:bZ K (.ref eS) "__init__" = some (some (.ref fI)))
  (li:K.lookup fI=some ⟨.type "function",T7,.func (bg "__init__" "Short.__init__" (Wn Qa3) (Yd Qa3) (Q6 Qa3) .none kVI dcI H5 anI w9 ctI),R9⟩)
  (ci:bx K w9 "Short.__init__" = true)
  (ki:bi K (.ref fI)=true)
  (S8:bi K (.ref eS)=true)
  (z3:eP K (.ref eW) "__getattribute__" = some (some (.builtin "type.__getattribute__")))
  (w4:PySem.W.readsIn K eW (.type "type")=true)
  (r9:PySem.W.findCls K (.ref eW) (.type "type") "__init__" = some (.val (.builtin "ValueError.__init__")))
  (G3:bZ K (.ref eS) "__setattr__" = some (some (.builtin "object.__setattr__")))
  (u7:bZ K (.ref eS) "had" = some none)
  (t4:eQ K eS (.type "object")=some true)
  (pns:bX K aS "PARTS_OF_DEED" = some (some (.ref pd)))
  (T5:K.lookup pd=some ⟨.type "dict",none,.dict #[⟨PyData.keyHash w.params "make",.str "make" pt1,.int 3 pu1⟩,⟨PyData.keyHash w.params "lend",.str "lend" pt2,.int 4 S3⟩,⟨PyData.keyHash w.params "use",.str "use" pt3,.int 3 pu3⟩] pep,#[]⟩)
  (w6:eB K eS=some cdx)
  (P8:bZ K (.ref eS) "__getattribute__" = some (some (.builtin "BaseException.__getattribute__")))
  (T3:bZ K (.ref eS) "__getattr__" = some none)
  (C0:bZ K (.ref eS) "__class__" = some (some (.builtin "object.__class__")))
  (xgs:eP K (.builtin "object.__class__") "__get__" = some (some (.builtin "getset_descriptor.__get__")))
  (C8:fb K (.builtin "object.__class__")=some true)
  (xbe:eQ K eS (.type "BaseException")=some true)
  (v8:bX K aS "PARTS_OF_OTHER_DEED" = some (some (.ref o4)))
  (z4:K.lookup o4=some ⟨.type "dict",none,.dict #[⟨PyData.keyHash w.params "keep",.str "keep" qt1,.int 2 S4⟩,⟨PyData.keyHash w.params "fall",.str "fall" M3,.int 2 P9⟩,⟨PyData.keyHash w.params "send",.str "send" qt3,.int 2 qu3⟩,⟨PyData.keyHash w.params "come",.str "come" G5,.int 3 T9⟩] w5,#[]⟩)
  (p1:FM K Z "__init__" "House.__init__" Xx f37)
  (p8:FM K Z "make" "House.make" xx M4)
  (o3:FM K Z "lend" "House.lend" xy I0)
  (p9:FM K Z "use" "House.use" Q1h R4)
  (o8:FM K Z "keep" "House.keep" xz B5)
  (o7:FM K Z "fall" "House.fall" Q00 C6)
  (q0:FM K Z "letter" "House.letter" jg f43)
  (p5:FM K Z "come" "House.come" Q01 f44)
  (p3:FM K Z "table" "House.table" zr f45)
  (o5:FM K Z "rights" "House.rights" jf N1)
  (q5:FM K Z "used" "House.used" xu P3)
  (h1:FA K "is_whole" Q39 f1)
  (h2:FA K "is_between" xk f2)
  (h3:FA K "is_row" Q7c f3)
  (h4:FA K "is_table" Q3a f4)
  (h5:FA K "is_house" Q3c f5)
  (h6:FA K "rights" Q78 f6)
  (h7:FA K "stock" Qb9 f7)
  (h8:FA K "need_as_many_houses" Vd f8)
  (h9:FA K "is_row_within" Kk f9)
  (h10:FA K "is_within" Q1e N0)
  (h11:FA K "joined_row" xj f11)
  (H3:FA K "joined" Q7b S5)
  (B7:FA K "own_rows" Q38 P6)
  (S7:FA K "is_stand" Q3b f14)
  (R3:FA K "need_stand" xi B9)
  (G1:FA K "whole" Qb8 f16)
  (L1:FA K "going" Qba L9)
  (h18:FA K "on_the_way" xh E1)
  (h19:FA K "held" Qf3 P7)
  (I3:FA K "coming_to" Q1f B6)
  (I8:FA K "account" Q4t P2)
  (H8:FA K "is_text_and_numbers" Ve P1)
  (h23:FA K "is_deed" Q4s H4)
  (L2:FA K "need_houses_of_deed" Vc C3)
  (C5:FA K "place_in_row" ja f25)
  (N5:FA K "raised" Q79 T4)
  (N9:FA K "done" Qf4 f27)
  (h28:FA K "made_some" Q1d C2)
  (C4:FA K "lent_or_used_some" Uj N6)
  (B8:FA K "was_lent_some" Ki L4)
  (N4:FA K "has_root" Q3d I4)
  (I5:FA K "rooted_houses" Kj f32)
  (h33:FA K "rootless_houses" Xc f33)
  (h34:FA K "comes_about" zi M9)
  (C1:FA K "does_come_about" Xd f35)
  (N3:FA K "need_comes_about" Ux f36)
  (h48:FA K "is_other_deed" Km f48)
  (T6:FA K "need_deed_of_run" Uw I9)
  (S1:FA K "do_own_deed" zh I2)
  (L3:FA K "do_other_deed" Kn L0)
  (S0:FA K "answer_to" Q1g T1)
  (N2:FA K "played" Q7a f53)
  (I6:FA K "_law_acell" xr C9)
  (h55:FA K "_law_atape" xm V2)
  (M6:FA K "_law_adigit" zp M7)
  (h57:FA K "_law_arights" jb T2)
  (S2:FA K "_law_abare" xt f58)
  (G4:FA K "_law_araised" jc I1)
  (h60:FA K "_law_ajoined" je B0)
  (T0:FA K "_law_amuch" xq S6)
  (R8:FA K "_law_atable" zj f62)
  (h63:FA K "_law_astart" zk M0)
  (h64:FA K "_law_astep" xn R6)
  (h65:FA K "_law_adrawn" zn P4)
  (R0:FA K "_law_aplayed" jd f66)
  (h67:FA K "_law_abegun" zq f67)
  (h68:FA K "_law_aletters" Kp M5)
  (h69:FA K "_law_aright" zm f69)
  (l7:bY K i0 Vw "ValueError.__new__" = true)
  (k9:bY K e5 Vw "ValueError.__new__" = true)
  (k0:bY K c2 Vw "ValueError.__new__" = true)
  (l0:bY K d3 Vw "ValueError.__new__" = true)
  (k5:bY K c9 Vw "ValueError.__new__" = true)
  (xw:bY K eW Vw "ValueError.__new__" = true)
  (psm:(pd == ai)=false)
  (s8:(o4 == ai)=false)
  (xes:dL K (.ref eS) (.ref eS)=some true)
  (hL:noL K=true) :
  ∃ fd:aN,(∀ (s:aC) (v:aB),BindsTo s fd ⟨[v],[]⟩ [("script",v)])/\∀ base:Heap,K.In base->base.Ns aS mg->FnOk l.prog w K mg base (CXD l.prog w) 11 fa fd ["script"] (Qb5 K):=by
 have e:=hfa.symm.trans (bj X G z6);cases e;have T:Txt mg:=⟨bo X G p4,bo X G p6,bo X G n4,bo X G i4,bo X G q7,bo X G e9,bo X G q6,bo X G n6,bo X G o6,bo X G o9,bo X G m6,bo X G q8,bo X G p0,bo X G m4,bo X G p7,⟨_,bj X G d8⟩⟩;have g9:∃ C,mg "NoDeed" = some (.ref C)/\bY K C Vw "ValueError.__new__" = true:=⟨_,bj X G l3,l7⟩;have U:∃ C,mg "NoHouse" = some (.ref C)/\bY K C Vw "ValueError.__new__" = true:=⟨_,bj X G l1,k9⟩;have c3:∃ C,mg "NoLetter" = some (.ref C)/\bY K C Vw "ValueError.__new__" = true:=⟨_,bj X G i8,k0⟩
 have c8:∃ C,mg "NoStand" = some (.ref C)/\bY K C Vw "ValueError.__new__" = true:=⟨_,bj X G k7,l0⟩;have d6:∃ C,mg "NoTable" = some (.ref C)/\bY K C Vw "ValueError.__new__" = true:=⟨_,bj X G k8,k5⟩;have CD:∃ cd,eB K eS=some cd/\cd.mro=.ref eS :: .ref eW :: Vw/\cd.hasDict=true:=⟨_,by unfold eB; rw [w0],rfl,rfl⟩;have OS:ShortOk K mg eW eS fI:=⟨bj X G nW,bj X G nS,⟨⟨_,_,_,_,_,_,_,_,_,_,_,_,_,_,w0⟩,xw,R1,⟨_,li,rfl⟩,S8⟩,⟨z3,w4,r9⟩,⟨G3,t4,CD,u7⟩⟩;have FI:=Qg1 (x := "__init__") (qual := "Short.__init__") (st:=Qa3) li ci ki;have BI:=FI.binds (ps:=["self", "had"]) fun _ _ _ _ _ _ us hl=>match us,hl with | [_,_],_=>rfl
 have PK:PartsOk l.prog w K mg:=Qms (bj X G pns) T5 psm;have PO:PartsO l.prog w K mg:=Qig (bj X G v8) z4 s8;have XC:XCls K eS:=⟨show (eB K eS).isSome=true by rw [w6]; rfl,P8,T3,C0,xgs,C8,t4,xbe⟩;have Sx:∃ C,mg "Short" = some (.ref C)/\dL K (.ref C) (.ref C)=some true/\XGet K C "had" := ⟨_,OS.ms,xes,XC,(let ⟨cd,a,_,b⟩:=CD; ⟨cd,a,b⟩),u7⟩;have TC:ClsT K Z:=⟨⟨G0,T8,Hpo,I7⟩,k6,n5,n0⟩;obtain ⟨_,A1⟩:=Ya ["thing"] X G h1;obtain ⟨_,A2⟩:=Ya ["thing", "least", "most"] X G h2;obtain ⟨_,A3⟩:=Ya ["thing", "n"] X G h3;obtain ⟨_,A4⟩:=Ya ["thing"] X G h4;obtain ⟨_,A5⟩:=Ya ["table", "thing"] X G h5;obtain ⟨_,A6⟩:=Ya ["table", "house"] X G h6;obtain ⟨_,A7⟩:=Ya ["table"] X G h7;obtain ⟨_,A8⟩:=Ya ["one", "other"] X G h8;obtain ⟨_,A9⟩:=Ya ["one", "other"] X G h9;obtain ⟨_,x4⟩:=Ya ["one", "other"] X G h10;obtain ⟨_,A0⟩:=Ya ["one", "other"] X G h11
 obtain ⟨_,s5⟩:=Ya ["one", "other"] X G H3;obtain ⟨_,z5⟩:=Ya ["tables"] X G B7;obtain ⟨_,z1⟩:=Ya ["tables"] X G S7;obtain ⟨_,u9⟩:=Ya ["tables"] X G R3;obtain ⟨_,x5⟩:=Ya ["tables"] X G G1;obtain ⟨_,s9⟩:=Ya ["tables", "i", "j"] X G L1;obtain ⟨_,y5⟩:=Ya ["tables", "i", "j"] X G h18;obtain ⟨_,t0⟩:=Ya ["tables"] X G h19;obtain ⟨_,t2⟩:=Ya ["tables", "house"] X G I3;obtain ⟨_,v4⟩:=Ya ["tables"] X G I8;obtain ⟨_,x6⟩:=Ya ["thing"] X G H8;obtain ⟨_,y2⟩:=Ya ["thing"] X G h23;obtain ⟨_,t1⟩:=Ya ["table", "deed"] X G L2;obtain ⟨_,w8⟩:=Ya ["table", "deed"] X G C5;obtain ⟨_,v0⟩:=Ya ["table", "house", "place", "k"] X G N5;obtain ⟨_,z0⟩:=Ya ["table", "deed"] X G N9;obtain ⟨_,z2⟩:=Ya ["table", "house"] X G h28;obtain ⟨_,u3⟩:=Ya ["table", "house"] X G C4;obtain ⟨_,x0⟩:=Ya ["table", "house", "lenders"] X G B8;obtain ⟨_,v9⟩:=Ya ["table", "house", "ahead"] X G N4;obtain ⟨_,w2⟩:=Ya ["table"] X G I5
 obtain ⟨_,w1⟩:=Ya ["table"] X G h33;obtain ⟨_,w3⟩:=Ya ["table"] X G h34;obtain ⟨_,s4⟩:=Ya ["thing"] X G C1;obtain ⟨_,r8⟩:=Ya ["thing"] X G N3;obtain ⟨_,N8,H6⟩:=p1.at ["self", "number", "table"];obtain ⟨_,y1,B38⟩:=p8.at ["self", "k"];obtain ⟨_,t8,B39⟩:=o3.at ["self", "to", "k"];obtain ⟨_,u1,C7⟩:=p9.at ["self", "k"];obtain ⟨_,r1,P5⟩:=o8.at ["self"];obtain ⟨_,t5,H9⟩:=o7.at ["self"];obtain ⟨_,v2,B43⟩:=q0.at ["self"];obtain ⟨_,x1,N7⟩:=p5.at ["self", "table"];obtain ⟨_,r3,B45⟩:=p3.at ["self"];obtain ⟨_,w7,G2⟩:=o5.at ["self"];obtain ⟨_,s7,B1⟩:=q5.at ["self"];obtain ⟨_,v3⟩:=Ya ["thing"] X G h48;obtain ⟨_,s6⟩:=Ya ["table", "letters", "deed"] X G T6;obtain ⟨_,v1⟩:=Ya ["houses", "deed"] X G S1;obtain ⟨_,t7⟩:=Ya ["houses", "letters", "deed"] X G L3;obtain ⟨_,r0⟩:=Ya ["houses", "letters", "deed"] X G S0;obtain ⟨_,t6⟩:=Ya ["table", "deeds"] X G N2;obtain ⟨_,u6⟩:=Ya ["script", "k"] X G I6
 obtain ⟨_,z7⟩:=Ya ["script", "k"] X G h55;obtain ⟨_,r5⟩:=Ya ["tape", "many"] X G M6;obtain ⟨_,u8⟩:=Ya ["table", "i"] X G h57;obtain ⟨_,t3⟩:=Ya ["size"] X G S2;obtain ⟨_,x2⟩:=Ya ["table", "i", "at", "k"] X G G4;obtain ⟨_,u0⟩:=Ya ["one", "other"] X G h60;obtain ⟨_,y7⟩:=Ya ["tape"] X G T0;obtain ⟨_,x3⟩:=Ya ["tape", "size", "many"] X G R8;obtain ⟨_,u4⟩:=Ya ["table"] X G h63;obtain ⟨_,r6⟩:=Ya ["state", "deed"] X G h64;obtain ⟨_,r7⟩:=Ya ["tape", "state"] X G h65;obtain ⟨_,v7⟩:=Ya ["script", "start", "many", "table"] X G R0;obtain ⟨_,v6⟩:=Ya ["script"] X G h67;obtain ⟨_,v5⟩:=Ya ["deeds", "size"] X G h68;obtain ⟨_,r4⟩:=Ya ["deeds", "tables"] X G h69;have M8:=Qxh (st:=Q3z) (ps:=["script"]) X G z6 l70 c70 k70 fun _ _ _ _ _ _ us hl=>match us,hl with | [_],_=>rfl
 refine ⟨bg "law" "law" (Wn Q3z) (Yd Q3z) (Q6 Q3z) .none o0 o2 o1 n7 m5 n9,fun s v=>.of_eq rfl,fun base kb nb=>?_⟩;have m8:ShortS l.prog w K mg base:=⟨_,_,_,_,OS.M,Qs9 FI OS,BI,OS.ms⟩;have a8:=A1.d l.prog w base rfl (Qda A1.F T    );have g4:=A2.d l.prog w base rfl (Q9b A2.F T   a8 );have l8:=A3.d l.prog w base rfl (Qik A3.F T   a8 );have b9:=A4.d l.prog w base rfl (Qdb A4.F T   l8 );have B:=A5.d l.prog w base rfl (Qdd A5.F T   g4 );have q9:=A6.d l.prog w base rfl (Qab A6.F T  U B );have j:DefS l.prog w K mg base 4 "rights_tables" 2 Ym:=⟨_,_,_,Qab A6.F T  U B ,bj X G b5,A6.F.kp,A6.b,rfl⟩;have m9:=A7.d l.prog w base rfl (Qn4 A7.F T    );have q:=A8.d l.prog w base rfl (Q07 A8.F T  d6  )
 have a5:=A9.d l.prog w base rfl (Q4z A9.F T    );have i3:=x4.d l.prog w base rfl (Qbh x4.F T   q a5 );have e8:=A0.d l.prog w base rfl (Q9a A0.F T    );have l6:=s5.d l.prog w base rfl (Qij s5.F T   q e8 );have c1:=z5.d l.prog w base rfl (Qd9 z5.F T    );have c0:=z1.d l.prog w base rfl (Qdc z1.F T   b9 i3 c1 );have a2:=u9.d l.prog w base rfl (Q99 u9.F T  c8 c0 );have n2:=x5.d l.prog w base rfl (Qn3 x5.F T   a2 c1 );have i9:=s9.d l.prog w base rfl (Qn5 s9.F T    );have g0:=y5.d l.prog w base rfl (Q98 y5.F T  U a2 B i9 );have l2:=t0.d l.prog w base rfl (Qsa t0.F T   a2 j );have i7:=t2.d l.prog w base rfl (Qbi t2.F T   i9 )
 have e6:=v4.d l.prog w base rfl (Qff v4.F T  c8 l2 i7 );have I:=x6.d l.prog w base rfl (Q08 x6.F T   a8 );have d9:=y2.d l.prog w base rfl (Qfe y2.F T PK   I );have J:=t1.d l.prog w base rfl (Q06 t1.F T  U B );have c4:=w8.d l.prog w base rfl (Q61 w8.F T    );have l4:=v0.d l.prog w base rfl (Qih v0.F T    );have i5:=z0.d l.prog w base rfl (Qsb z0.F T m8  g9 d9 J j l4 c4 );have i1:=z2.d l.prog w base rfl (Qbg z2.F T    );have a9:=u3.d l.prog w base rfl (Q1n u3.F T    );have b6:=x0.d l.prog w base rfl (Q4x x0.F T    );have k4:=v9.d l.prog w base rfl (Qde v9.F T   i1 b6 );have a4:=w2.d l.prog w base rfl (Q4y w2.F T   k4 )
 have b4:=w1.d l.prog w base rfl (Q3g w1.F T   a4 a9 );have c7:=w3.d l.prog w base rfl (Q7n w3.F T   j b4 a4 );have b3:=s4.d l.prog w base rfl (Q3h s4.F T   b9 c7 );have Y:=r8.d l.prog w base rfl (Q2w r8.F T  d6 b3 );have m7:MakeS l.prog w K mg base 8 Z "House" 3 (Yi Z):=⟨_,_,_,Q41 N8 T TC  U Y B ,⟨S9,p1.1,p1.2.1,Hkc⟩,bj X G aH,H6,rfl⟩;have e7:MethS l.prog w K mg base 6 Z "make" 2 (Ue Z):=⟨_,_,_,Q9i y1 T TC   i5 ,⟨p8.1,p8.2.1,y1.kp⟩,B38,rfl⟩;have g1:MethS l.prog w K mg base 6 Z "lend" 3 (Uf Z):=⟨_,_,_,Q9j t8 T TC   i5 ,⟨o3.1,o3.2.1,t8.kp⟩,B39,rfl⟩;have i2:MethS l.prog w K mg base 6 Z "use" 2 (X8 Z):=⟨_,_,_,Qbk u1 T TC   i5 ,⟨p9.1,p9.2.1,u1.kp⟩,C7,rfl⟩
 have g5:MethS l.prog w K mg base 1 Z "keep" 1 (Ug Z):=⟨_,_,_,Q9k r1 T TC    ,⟨o8.1,o8.2.1,r1.kp⟩,P5,rfl⟩;have f0:MethS l.prog w K mg base 1 Z "fall" 1 (Uh Z):=⟨_,_,_,Q9m t5 T TC    ,⟨o7.1,o7.2.1,t5.kp⟩,H9,rfl⟩;have c6:MethS l.prog w K mg base 1 Z "letter" 1 (W4 Z):=⟨_,_,_,Q67 v2 T TC    ,⟨q0.1,q0.2.1,v2.kp⟩,B43,rfl⟩;have g6:MethS l.prog w K mg base 3 Z "come" 2 (Ui Z):=⟨_,_,_,Q9n x1 T TC  c3 q a5 l6 ,⟨p5.1,p5.2.1,x1.kp⟩,N7,rfl⟩;have d7:MethS l.prog w K mg base 1 Z "table" 1 (Vb Z):=⟨_,_,_,Q7v r3 T TC    ,⟨p3.1,p3.2.1,r3.kp⟩,B45,rfl⟩;have l9:MethS l.prog w K mg base 5 Z "rights" 1 (jv Z):=⟨_,_,_,Q66 w7 T TC   j ,⟨o5.1,o5.2.1,w7.kp⟩,G2,rfl⟩;have n3:MethS l.prog w K mg base 1 Z "used" 1 (Q0z Z):=⟨_,_,_,Q9h s7 T TC    ,⟨q5.1,q5.2.1,s7.kp⟩,B1,rfl⟩
 have a3:=v3.d l.prog w base rfl (Q50 v3.F T PO   I );have b0:=s6.d l.prog w base rfl (Q2v s6.F T  g9 U c3 d9 J a3 B );have d4:=v1.d l.prog w base rfl (Q7m v1.F T TC    e7 g1 i2);have b8:=t7.d l.prog w base rfl (Q51 t7.F T TC    g5 f0 c6 g6);have i6:=r0.d l.prog w base rfl (Qbj r0.F T TC Sx   a3 b8 d4 );have l5:=t6.d l.prog w base rfl (Qii t6.F T TC   Y b0 i6 m7 d7);have g3:=u6.d l.prog w base rfl (Q9f u6.F T    );have b1:=z7.d l.prog w base rfl (Q9c z7.F T   g3 );have O:=r5.d l.prog w base rfl (Q7t r5.F T    )
 have z:=u8.d l.prog w base rfl (Q62 u8.F T    );have g8:=t3.d l.prog w base rfl (Q9g t3.F T    );have a7:=x2.d l.prog w base rfl (Q63 x2.F T    );have a6:=u0.d l.prog w base rfl (Q65 u0.F T    );have b2:=y7.d l.prog w base rfl (Q9e y7.F T   O );have e0:=x3.d l.prog w base rfl (Q7p x3.F T   g8 O z a7 b2 );have e4:=u4.d l.prog w base rfl (Q7q u4.F T    );have g7:=r6.d l.prog w base rfl (Q9d r6.F T   a6 z a7 );have d1:=r7.d l.prog w base rfl (Q7s r7.F T   O z b2 );have c5:=v7.d l.prog w base rfl (Q64 v7.F T   e4 b1 d1 g7 );have d5:=v6.d l.prog w base rfl (Q7u v6.F T   b1 O e0 )
 have b7:=v5.d l.prog w base rfl (Q52 v5.F T    );have d0:=r4.d l.prog w base rfl (Q7r r4.F T   c0 a6 z g0 n2 l2 e6 m9 j );exact Qsx hL (Qwb M8.F T TC   d5 c5 l5 d0 b7 j e6 ) (Qsy _)
end Lw
namespace PySem.W.Fast
local macro_rules|`(command|open $n*)=>return Lean.mkNullNode (<-n.mapM λn=>`(command|theorem $n:ident:True:=trivial))
open tw2495873195940997333 tw15385383375973506314 tw2916695733688469946 tw4232235465709570612 tw15467850962624410771 tw2916599154622744295 tw12465744367960760385 tw1303016511026163636 tw14096925603957977749 tw14770004361608063839 tw18245456064628474432 tw5258072790559348009 tw8994977078600051369 tw2010697989999591357 tw13254812575240760576 tw16171414990214436851 te9090930545910533102 te7026576610548259327 te9612296979906507356 te6672263659564416624 te9096159589795892072 te12755042594037605350 te2790948761863296843 te7924127660553084870 te16992662816049469914 te4094897464500684882 te17947164907617427165 te8476013929753064957 te3285105894842201452 te8298389891099527534 te15610299961584824060 te3632927328385131061 te15847912663033841724 te2143606815968882885 te3928301995846504885 te2802839670476555616 te6779207661531593303 te3213351603074933238 te612216822593010316 te2704417317407855744 te10918726916103691439 te16749814107489095509 te5068812805191886693 te16734695762410476655 te16163803365619717262 te9655454761343692218 te3042067596020015234 te11634626858613767259 te164981172882909020 te13837933504201233907 te6349768772420368885 te5637336159684180488 te13481129537940020995 te4469646945941026828 te5005503393600170167 te14273869482206145974 te16533137499676128892 te10089465367846333425 te13023379942134014813 te17864565717324789354 te14063210915196795359 te9632780477836515655 te7656298040155055503 te10548420376452949043 te372820399286903941 te7673920168029633521 te11270724561922613161 te13850250486044608885 te10081838205755481245 te13154102048431918004 te11051558079617060443 te9460640523175659538 te2959120971694233263 te15718436546626664907 te6660688730028981467 te17275261109485822971 te11391376028289809913 te3171859847608548734 te10825415266039233254 te7362227844813722306 te11190058303671385356 te4116563136645363642 te9690332757414000510 te14757237156727012316 te14306680778009939283 te14161037433133596580 te17847597860330556026 te11714347578820593678 te12570856723190139385 te3181397132483411700 te10929918624599113228 te2189415070865108791 te4546756092553684340 te4797098819680079330 te9209866903508367516 te14383969395480892533 te6518859946955118831 te7413100982307186861 te4090315140605273774 te3862585289925301794 te5396931994695307105 te3527136543860003138 te1869307898096147364 te9622939829875718754 te7654150476781823623 te14440713813474615293 te10621200649734508585 te12434245963811104185 te15751388042464901620 te3140577480821443785 te3722883348593491004 te443387902693406283 te4168055560867391489 te15607985225743658221 te16371923209112596075 te7247546273300840475 te9753498066069516267 te5025137797491575515 te12610621700244307769 te7729608433351453678 te9937672705322666418 te16322824712490096843 te8102650405071103805 te8987699366539779535 te10759060030703370416 te16109490639910102256 te3812401273820920836 te17400012700408102230 te12339100458171429368 te16916330204398469758 te11197554115651470211 te11601610861985984611 te12953588258137498605 te7387926113025326281 te8406677100759153350 te12984064898655481805 te15307419256206956237 te13101812004830707028 te16720099463342397235 te6229577792131190046 te4895116980441702032 te296476768258784977 te14011258775077738379 te14489458889364137652 te7044191314064308429 te17884501820486064152 te10475920012396358356 te7793555212529061054 te16737074893325922191 te12802190415362121356 te16718225898890371368 te12779020863769742893 te13204925043760417667 te13195157435833839033 te12101786410114430529 te15467950984839058518 te1053777756620023090 te15028940313128648694 te11747690276468656019 te12281424973695987567 te11202881409780651308 te3304669184843066303 te10006334435020333516 te4085589003946413512 te7173483044568401629 te1626464463828735299 te7129643205484893454 te12242855271705638060 te12125642695082995104 te6213764908216457809 te6718399991371140567 te2081457441255928972 te3284601923931701110 te11513432692570839255 te9079282186670295112 te625568370254059887 te17606938611158756881 te4022599523702387578 te17124974693237212169 te12584531221100578220 te3946875161535490207 te11787278144580625550 te16939785791775292238 te17383972936894917422 te7396290859407677331 te1457876771877682958 te18202029424709678277 te2468178568708421613 te17470008288895013005 te9352800099358837074 te11778535038813881307 te8759894539053882552 te7921145979995424490 te11931797886959035883 te13687060574535260307 te14002627817009594555 te5171042732602707409 te17826763992398546833 te8796573031388552199 te2206663186856989010 te1036462979076191804 te10267281342786977578 te17532070722066865077 te16791472869469821578 te17613729673906297172 te5728582091913239578 te13334171551745011381 te18373645438911566143 te2676398015246285454 te3005224600702728193 te6085690662442533865 te2814761272021139489 te1472347446218391710 te17967682871045308022 te7434900778073636099 te2557448538971972339 te16907481161616138170 te577026490185431494 te8543573691337057758 te8264761612050670449 te1106386502913600496 te15441179093130414126 te10395790556937619402 te12099318493118838652 te12716932339481626492 te13191815544829053839 te717417430687554566 te1396997188315935064 te5137063078428225779 te5450075598828721806 te3295916207445751173 te14116460416322673760 te7162170085557320401 te7888737859252667587 te5810945289002011880 te5811685358825407783 te1007767061700843806 te5192296317718459184 te12719670791011251811 te17054255325897421901 te741152905703662266 te18422684305317424062 te6677660140406571069 te11038654801852017456 te8043211264740187174 te2429820622015642570 te18333693820465857378 te2981765711940085893 te7888417728007808584 te13040375572831830808 te12745295394756480083 te13618241390338699299 te2132788345734831677 te13092287579389532245 te1672699960649813130 te13754655898406232761 te17234688855398175152 te4568708910922477460 te13630292315422610826 te1623100983772702516 te11371357743655940957 te7875696191291725222 te13043544430320519346 te9564909861581170150 te16858429531670058149 te13196316959189852291 te14456408394543762887 te5578191660218630319 te9870741632994565888 te4674900979517504847 te5841908684433132766 te3504616126940810843 te12788075893548456083 te14977941430976200298 te12693820097243317629 te8667860491401863292 te7162451913715118821
end PySem.W.Fast
open PySem PySem.W PyProof.Rows Sm
set_option maxRecDepth 100000 in
set_option maxHeartbeats 0 in
theorem PySem.Challenge.cw_lendwharf_k83_whole_runs_stand_holds : PySem.Challenge.rw_lendwharf_k83_whole_runs_stand.Holds := by
 w_on; o_law; k_head; (case hw=>w_witness2)
 k_fill
 refine Sm.walkS (l:=PySem.Challenge.rw_lendwharf_k83_whole_runs_stand) (k:=11) rfl ⟨rfl,by decide,by decide⟩ rfl (fun w h Y=>PySem.W.kIn_of Y) ?F
 case F=>
  intro w mg fa h KX G hmg;refine' Lw.all_mk KX G hmg ..
  any_goals k_is
  any_goals exact FA.mk (by k_is) (by k_is) (by k_is) (by k_is)
  any_goals exact FM.mk (by k_is) (by k_is) (by k_is) (by k_is) (by k_is)
  any_goals k_exc
  all_goals first | kts_exm | rfl | decide
