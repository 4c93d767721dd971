import PyProof.Rows.All
import Wide.All
import OpenK.AllK
import Wide.FinOn
import Lean
import PyProof.EqAt
import PyProof.EqKinds
import PyProof.TupleCall
import PyProof.ZipIter
import PyProof.Draws
import PyProof.SumAny
import PyProof.EnumMake
import PyProof.WalkInts
import PyProof.ExcArgsOwn
import PyProof.ExcAttrAll.ValueError
import PyProof.NsDelKeeps
import KE.KTryMore
import OpenK.KOwn
import PyProof.ListMulRoad
import PyProof.FactsAll.tuple_2
import PyProof.NeKinds
import PyProof.Rows.RuleIs
import PyProof.ExcInit
import PyProof.ExcClass3
import OpenK.KCls
import PyProof.InstStoreFacts
import OpenK.KMake
import PyProof.DictRoads
import PyProof.Rows.CountFlat
import PyProof.ListRange
import PyProof.Rows.SetFrom
import PyProof.CollectStr
import PyProof.Rows.TupMore
import PyProof.AttrMissHeap
import KE.KDictOf
import PyProof.DictWalks
import KE.KSortTup
import PyProof.DictItemsLoops
import KE.KDictList
import PyProof.CallStr
import PyProof.StrWalks
import PyProof.StrOps
import PyProof.StrCalls2
import KE.KRevIter
import PyProof.Rows.StrOrd
import PyProof.Rows.StrNews
import PyProof.JoinWalk
import PyProof.CollectIter
import PyProof.Conv_int
import PyProof.FactsAll.str
import PyProof.Conv_int_bool
import PySem.Challenge.RW_lendwharf_k66_whole_rests
open Lean Parser Command in
local macro_rules|`(command|def $i:declId $s:optDeclSig $v:declVal)=>`(command|noncomputable def $i $s:optDeclSig $v:declVal)
open Lean Parser Command in
local macro_rules|`(command|abbrev $i:declId $s:optDeclSig $v:declVal)=>`(command|noncomputable abbrev $i $s:optDeclSig $v:declVal)
section
local macro_rules|`(())=>`(by omega)
set_option Elab.async false
set_option linter.all false
set_option maxRecDepth 100000
set_option maxHeartbeats 4000000
open Option renaming some->zo,none->zl
open Bool renaming true->zb,false->yo
open List renaming getElem?_eq_some_iff->O0,length_map->O1,getElem?_eq_getElem->O2,mem_cons_of_mem->O3,length_append->O5,getElem?_append_left->O7,size_toArray->O8,map_cons->D3,length_cons->D6,mem_cons->D7,getElem?_map->D8,getElem?_set_self->D9,getElem?_set_ne->E2,mem_map->E3,getElem?_append_right->E4,map_append->E5,mem_of_getElem?->E6,mem_cons_self->E7,mem_append->E9,getD_eq_getElem?_getD->F1,mem_append_right->F2,all_eq_true->F4,mem_append_left->F7,foldl_cons->F8,length_range->F9,mem_filter->G6,append_nil->G9,map_map->L4,getElem_mem->L5,nodup_append->L7,getElem_of_mem->L8,length_set->L9,length_singleton->M0,map_congr_left->M9,mem_flatMap->N0,mem_zipIdx_iff_getElem?->N2,any_cons->N3
open PySem.Heap renaming get?_push_of_some->O4,lt_size->D0,get?_push_size->D4,get?_update_other->F6,get?_update_self->G7,size_push->L6
open Nat renaming le_refl->O6,lt_of_lt_of_le->D5,le_trans->E8,ne_of_lt->F0,zero_le->G8,lt_irrefl->N1
open Bool renaming false_ne_true->O9,and_eq_true->F3,false_eq_true->F5
open PySem renaming Value->aA,Addr->aB,Shared->aC,wpAny_bind->aD,wpAny->aF,Expr->aH,model->aI,World->aJ,Program->aK,Stmt->aL,eval->aM,starEach->aN,Around->aO,FuncData->aP,mainGlobals->aQ,Paired->aR,cLine->aS,rawInt->aU,compareOp->aV,SetTable->aW,bootBuiltins->aX,backTo->aY,binaryOp->aZ,wpAny_holding->ae,wpAny_call_entry->af,sysModules->ag,wpAny_mono->ak,pyNext->ao,cellsFrom->aq,wpAny_field->ar,wpAny_newObj_type->au,holding->av,NameKind->aw,call_meets->ay,assignEach->az,codeAny_builtin->bA,attributeBase->bB,wpAny_ite_split->bC,wpAny_seqItems->bD,wpAny_truthy_bool->bE,foldedSetIterable->bF,wpAny_typeOf->bG,plainId_quiet->bH,wpAny_passesOwn->bI,valueAt->bJ,wpAny_isInstance->bK,wpAny_pyIter_tuple->bL,behindInMarks->bM,codeAny_mono->bN,isSubtype_type->bO,wpAny_setField_rec->bP,wpAny_rule->bQ,raiseNew->bS,sliceBounds->bT
open PySem.W renaming Frag->bZ,nsIn->bg,mg_of->bo,kitOne->br,mg_none_of->bz,fnOf->cB,excIn->cF,kia_one->cG,keepIn->cL,codeIn->cv,findIn->di,hideAll->eF,hideAll_get->eG,instObj->fJ,methodObj->fK,lookIn->fM,mroIn->fO,cellsFrom_some->fQ,OpenLaw->fj,exmOne->fu,of_hideAll->gY,hideAll_none->gZ,plainGet->gf,specialIn->gi,takesIn->gj,kitx_list->gk,kitx_dict->gm,callWith_K->gq,WalkO->iD,clsIn->kD
open List renaming range->ba,replicate->bh,all_map->cH,toArray->cJ,mem_range->cM,length_take->cN,length_nil->cO,all_cons->cP,foldl->cQ,lookup_cons->cS,find?_cons->cb,ext_getElem?->cf,filterMap_cons->cj,nodup_cons->cp,pairwise_cons->cq,length_drop->cx,replicate_succ->cy,append_assoc->dA,nodup_nil->dC,getElem?_eq_none->dE,any_eq_true->dF,any_eq_false->dJ,length->dL,flatten_cons->dN,getD->dO,not_mem_nil->dR,filter_cons->dU,foldl_append->dX,prefix_refl->dY,any_map->dZ,length_filter_le->da,flatMap_cons->db,mem_filterMap->dh,take_length->dq,length_reverse->dr,reverse_cons->du,prefix_append->dw,zip_cons_cons->eI,nil_append->eL,pairwise_iff_getElem->eT,getElem?_cons_succ->eX,drop_zero->eZ,set_append_right->fA,length_flatMap->fB,map_const'->fC,sum_replicate_nat->fD,eq_nil_of_length_eq_zero->fF,length_zipIdx->fG,mem_iff_getElem?->fH,of_mem_zip->fP,getElem?_replicate->fS,length_replicate->fT,map_nil->fc,forIn_cons->fk,range_succ_eq_map->fo,Pairwise->fy,pairwise_map->gB,take_append_drop->gG,getElem?_range->gH,take_succ->gK,drop_length->gN,map_id->gO,forall_mem_cons->gP,append_cons->gQ,ext_getElem->gU,cons_append->gV,take_sublist->gr,filterMap_map->hW,eraseIdx_cons_succ->iA,eraseIdxIfInBounds_toArray->iC,length_pos_iff->iE,isEmpty_toArray->iI,isEmpty_iff->iJ,forIn_nil->iL,countP_cons->iN,mem_of_mem_drop->ia,length_eq_zero_iff->ib,length_eraseIdx_of_lt->ic,getElem?_toArray->ig,length_pos_of_mem->io,length_erase_of_mem->ip,mem_erase_of_ne->iq,getElem?_take->ir,getElem?_drop->iu,find?->iy,find?_some->iz,mem_of_find?_eq_some->jA,perm_ext_iff_of_nodup->jD,map_take->jG,map_drop->jH,getElem?_set->jM,drop_eq_getElem_cons->jS,dropLast_eq_take->jT,eraseIdx_eq_take_drop_succ->jU,take_of_length_le->jV,cons_lt_cons_iff->jX,any_nil->jl,set_set->jo,zipIdx_cons->kA,map_inj_right->kB,map_flatMap->kC
open PySem.Value renaming ref->bc,none->bi,type->bu,bool->cK,builtin->cg,int->df,str->eC,isInt->gS,isStrOf->gT,float->gW,notImplemented->gu
open Array renaming length_toList->bj,getElem?_toList->bn,getElem?_eq_getElem->bp,getElem?_eq_some_iff->cA,getElem?_eq_none->ce,getD_eq_getD_getElem?->dS,getD->dW,forIn_toList->eD,toList->fL,mem_toList_iff->fN,getElem?_setIfInBounds_ne->ft,getElem?_replicate->gI,append_assoc->gc,perm_iff_toList_perm->iS,foldl_toList->jC,filterMap->jF,toList_inj->jJ
open Prod renaming fst->bq,snd->cU,ext->cw
open Option.some renaming inj->bt
open Int renaming toNat_natCast->bw,ofNat_lt->dG,toNat_of_nonneg->fq,emod_lt_of_pos->gE,emod_nonneg->gF,min_eq_left->gv,ofNat_le->gy,ofNat_toNat->gz,eq_ofNat_of_zero_le->hJ,not_lt->hU,toNat->jP,le_refl->jR
open PySem.Obj renaming mapSeq->bx,mapFields->cI,data_mapFields->cZ,isFreed_of_fields->dj,putSet->dn,cls_mapFields->fm,data_mapDictKeys->jK
open Nat renaming ne_of_gt->cC,sub_self->cE,le_succ->cz,lt_succ_of_lt->dB,le_of_lt->dH,lt_succ_self->dP,add_assoc->eE,min_eq_left->eJ,mul_comm->eM,le_of_eq->eN,mod_lt->eV,le_of_lt_succ->eW,le_of_ble_eq_true->fI,min_le_right->fY,le_total->fZ,min_eq_right->fb,succ_le_succ->fg,add_sub_cancel->fx,zero_add->gC,pow_succ->gD,eq_zero_or_pos->gM,sub_le->hZ,not_lt->iF,lt_trans->iQ,not_lt_zero->iZ,succ_pos->ij,div_div_eq_div_mul->ik,add_zero->il,strongRecOn->im,sub_zero->jQ,not_lt_of_le->jY,le_add_left->jZ
open List.Perm renaming refl->cT,swap->eU,append_left->kH,cons_inv->kJ
open Bool renaming eq_iff_iff->cV,not_true->cW,false_and->dI,or_false->dM,bne_false->dy,true_and->eB,false_or->eO,true_or->fw,or_eq_true_iff->iH,not_false->jE,and_false->jN,and_true->jO
open PySem renaming mem_of_lookup->cX,Env->ee,evalArgs_none->fe,call->fh,Within->gX,list_append->iB,seqSlot_of->iG,boot_len->jW
open PySem.Str renaming ofString->cY,empty->cm
open List.cons renaming inj->cr,injEq->gL
open Sum renaming inl->cs,inr->cu
open PyProof.Rows renaming callWith_type1->dg,slot_tuple_getitem->eK,envOfC->eu,callWith_builtin1->kE,lt_int->kF,isnot_bool->kG
open Array.Perm renaming refl->dl
open PySem.F renaming plainAttrs_list->dz,slot_dict_keyiterator_next->eQ,plain_list_iadd->eR,slot_tuple_add->fU,entry_tuple_add->fV,args_tuple_add_2->fW,excBase_ValueError->iM,slot_list_count->iO,slot_list_index->iP,slot_dict_iter->iT,entry_dict_keyiterator_next->iU,args_dict_keyiterator_next_1->iV,entry_proto_collect->iW,plain_proto_collect->iX,entry_list_iadd->iY,slot_set_iter->ie,plain_extend_loop->ii,slot_dict_clear->jL
open Option renaming bind_some->eA,isSome_iff_exists->eH,isSome_map->eP,isNone->eY,isSome_some->iK,map_eq_some_iff->iR,bind->jB
open List.Pairwise renaming nil->fi,imp_of_mem->kI
open PyProof.Rows.F renaming plain_set_update_loop->gJ,entry_set_update_loop->jI
noncomputable section
local macro_rules|`(tactic|simp! [$a,*])=>`(tactic|simp -implicitDefEqProofs [$a,*])
def bU{c:Prop}{h:Decidable c}(j:c){α:Sort _}{t e:α}:ite c t e=t:=if_pos j
def bV{c:Prop}{h:Decidable c}(j:¬c){α:Sort _}{t e:α}:ite c t e=e:=if_neg j
def bW{p:Prop}[i:Decidable p](h:¬p):decide p=yo:=decide_eq_false h
def bY{p:Prop}[i:Decidable p](h:p):decide p=zb:=decide_eq_true h
namespace L2
open PySem PySem.Spec PyProof.Rows
abbrev zAA:=List (aB×Obj)
abbrev zAB:=Array (Int×aA)
abbrev zAC:=List (Option Nat)
abbrev zAD:=aA->aC->Prop
abbrev zAE:=Str->Option aA
section
abbrev Key:=Sum Int Str
def Q6d:Key->aA->Bool
|.inl k,v=>gS k v
|.inr x,v=>gT x v
def J23(w:aJ):Key->Int
|.inl k=>hashInt k
|.inr x=>hashStr w x
def Zd:∀{k:Key}{v:aA},Q6d k v=zb->(∃i t,k=cs i/\v=df i t)\/(∃x t,k=cu x/\v=eC x t)
|.inl i,v,h=>by
  obtain⟨t,e⟩:=Value.isInt_shape (k:=i) (v:=v) h;exact .inl ⟨i,t,rfl,e⟩
|.inr x,v,h=>by
  obtain⟨t,e⟩:=Value.isStrOf_shape (x:=x) (v:=v) h;exact .inr ⟨x,t,rfl,e⟩
def Q1g i t:Q6d (.inl i) (.int i t)=zb:=by simp[Q6d,gS]
def Q1f x t:Q6d (.inr x) (.str x t)=zb:=by simp[Q6d,gT]
def Qvs a b:decide ((cs a:Key)=cs b)=(a==b):=by
 by_cases e:a=b
 ·subst e;simp
 ·have h:¬(cs a:Key)=cs b:=λq=>e (Sum.inl.inj q)
  rw[bW h];exact(beq_eq_false_iff_ne.mpr e).symm
def Qvp a b:decide ((cu a:Key)=cu b)=decide (a=b):=by
 by_cases e:a=b
 ·subst e;simp
 ·have h:¬(cu a:Key)=cu b:=λq=>e (Sum.inr.inj q)
  rw[bW h,bW e]
def Qvr a b:decide ((cs a:Key)=cu b)=yo:=bW (λq=>nomatch q)
def Qvq a b:decide ((cu a:Key)=cs b)=yo:=bW (λq=>nomatch q)
def Yp(prog:aK)(w:aJ):PySem.KeyKind prog w Key where
 is:=Q6d
 hash:=J23 w
 inj:=λv a b ha hb=>by
  rcases Zd ha with⟨i,t,rfl,rfl⟩|⟨x,t,rfl,rfl⟩
  ·rcases Zd hb with⟨j,u,rfl,e⟩|⟨y,u,rfl,e⟩
   ·injection e with e1 _;rw[e1]
   ·exact nomatch e
  ·rcases Zd hb with⟨j,u,rfl,e⟩|⟨y,u,rfl,e⟩
   ·exact nomatch e
   ·injection e with e1 _;rw[e1]
 byValue:=λk v h=>by
  rcases Zd h with⟨i,t,rfl,rfl⟩|⟨x,t,rfl,rfl⟩<;>rfl
 pyHash:=λhv h=>by
  rcases Zd hv with⟨i,t,rfl,rfl⟩|⟨x,t,rfl,rfl⟩
  ·exact wpAny_pyHash_int h
  ·exact wpAny_pyHash_str h
 eqBool:=λhu hv h=>by
  rcases Zd hu with⟨i,t,rfl,rfl⟩|⟨x,t,rfl,rfl⟩
  ·rcases Zd hv with⟨j,u,rfl,rfl⟩|⟨y,u,rfl,rfl⟩
   ·rw[Qvs]at h;exact wpAny_eqBool_int h
   ·rw[Qvr]at h;exact SeqAt.EqAt.int_str i t y u _ _ _ _ h
  ·rcases Zd hv with⟨j,u,rfl,rfl⟩|⟨y,u,rfl,rfl⟩
   ·rw[Qvq]at h;exact SeqAt.EqAt.str_int x t j u _ _ _ _ h
   ·rw[Qvp]at h;exact wpAny_eqBool_str h
 «strs»:=λk x t v h=>by
  rcases Zd h with⟨i,u,rfl,e⟩|⟨y,u,rfl,e⟩
  ·exact nomatch e
  ·injection e with e1 _
   subst e1;cases v<;>rfl
inductive HK where
|int (i:Int)|str (x:Str)|tup (l:List HK)
instance:DecidableEq HK:=λ_ _=>Classical.propDecidable _
mutual
def KIs(h:Heap):HK->aA->Prop
|.int i,v=>∃t,v=.int i t
|.str x,v=>∃t,v=.str x t
|.tup l,v=>∃a items,v=.ref a/\IsTup h a items/\KIsL h l items.toList
def KIsL(h:Heap):List HK->List aA->Prop
|[],vs=>vs=[]
|k::l,vs=>∃v r,vs=v::r/\KIs h k v/\KIsL h l r
end
def Dp:Nat->HK->Prop
|_,.int _=>True
|_,.str _=>True
|0,.tup _=>False
|d+1,.tup l=>∀k∈l,Dp d k
def KIsL.len:∀{l:List HK}{vs:List aA},KIsL h l vs->l.length=vs.length
|[],_,r=>by cases r;rfl
|k::l,_,⟨v,r,e,_,q⟩=>by subst e;rw[D6,D6,q.len]
def KIsL.get:∀{l:List HK}{vs:List aA},KIsL h l vs->∀j(h1:j<l.length)(h2:j<vs.length),KIs h l[j] vs[j]
|[],_,_,j,h1,_=>by simp at h1
|k::l,_,⟨v,r,e,q,t⟩,0,h1,h2=>by subst e;exact q
|k::l,_,⟨v,r,e,q,t⟩,j+1,h1,h2=>by subst e;exact t.get j (by simpa using h1) (by simpa using h2)
def KIsL.of:∀{l:List HK}{vs:List aA},KIsL h l vs->(∀k v,k∈l->KIs h k v->KIs h' k v)->KIsL h' l vs
|[],_,r,_=>r
|k::l,_,⟨v,r,e,q,t⟩,f=>⟨v,r,e,f k v (by simp) q,t.of λk v j=>f k v (O3 _ j)⟩
def KIs.keep(j:∀a its,IsTup h a its->IsTup h' a its):∀d{k:HK}{v:aA},Dp d k->KIs h k v->KIs h' k v
|d,.int _,_,_,r=>r
|d,.str _,_,_,r=>r
|0,.tup _,_,p,_=>p.elim
|d+1,.tup l,_,p,⟨a,its,e,i,r⟩=>⟨a,its,e,j a its i,r.of λk v hm=>KIs.keep j d (p k hm)⟩
def Qhi(p:IsTup h a x)(q:IsTup h a y):x=y:=by
 obtain⟨o,h1,h2,n,G⟩:=p;obtain⟨o',j,g2,I,z⟩:=q;rw[h1]at j;cases j;rw[G]at z;cases z;rfl
def KIs.inj:∀d{x y:HK}{v:aA},Dp d x->Dp d y->KIs h x v->KIs h y v->x=y:=by
 intro d
 induction d with
|zero=>
  intro x y v dx z p q;cases x with
  |tup l=>exact dx.elim
  |int i=>
   obtain⟨t,rfl⟩:=p;cases y with
   |tup l=>exact z.elim
   |int j=>obtain⟨u,e⟩:=q;cases e;rfl
   |str j=>obtain⟨u,e⟩:=q;cases e
  |str i=>
   obtain⟨t,rfl⟩:=p;cases y with
   |tup l=>exact z.elim
   |int j=>obtain⟨u,e⟩:=q;cases e
   |str j=>obtain⟨u,e⟩:=q;cases e;rfl
|succ d J=>
  intro x y v dx z p q;cases x with
  |int i=>
   obtain⟨t,rfl⟩:=p;cases y with
   |tup l=>obtain⟨_,_,e,_⟩:=q;cases e
   |int j=>obtain⟨u,e⟩:=q;cases e;rfl
   |str j=>obtain⟨u,e⟩:=q;cases e
  |str i=>
   obtain⟨t,rfl⟩:=p;cases y with
   |tup l=>obtain⟨_,_,e,_⟩:=q;cases e
   |int j=>obtain⟨u,e⟩:=q;cases e
   |str j=>obtain⟨u,e⟩:=q;cases e;rfl
  |tup l=>
   obtain⟨a,its,rfl,p1,p2⟩:=p;cases y with
   |int j=>obtain⟨u,e⟩:=q;cases e
   |str j=>obtain⟨u,e⟩:=q;cases e
   |tup m=>
    obtain⟨b,I,e,O,G⟩:=q;cases e;have e:=Qhi p1 O;subst e;have U:=p2.len;have S:=G.len;congr 1;refine gU () λj h1 h2=>?_
    exact J (dx _ (L5 h1)) (z _ (L5 h2)) (p2.get j h1 ()) (G.get j h2 ())
def Qsd{α:Type}[DecidableEq α]d(xs ys:List α):((ba (min xs.length ys.length)).all (λj=>decide (xs.getD j d=ys.getD j d))&&xs.length==ys.length)=decide (xs=ys):=by
 rw[cV];simp only[F3,F4,cM,decide_eq_true_eq,beq_iff_eq];constructor
 ·rintro ⟨h,e⟩;refine gU e λi h1 h2=>?_
  have:=h i ();simpa[F1,h1,h2]using this
 ·rintro rfl;simp
section
variable{prog:aK}{w:aJ}
mutual
def hkH(prog:aK)(w:aJ):HK->Int
|.int i=>(Yp prog w).hash (.inl i)
|.str x=>(Yp prog w).hash (.inr x)
|.tup l=>reduceHash (Builtin.Tuple.tupleHashOf (hkHL prog w l))
def hkHL(prog:aK)(w:aJ):List HK->List Int
|[]=>[]
|k::l=>hkH prog w k::hkHL prog w l
end
mutual
def hkD:HK->Nat
|.int _=>1
|.str _=>1
|.tup l=>hkDL l+1
def hkDL:List HK->Nat
|[]=>0
|k::l=>hkD k+hkDL l
end
def Qm3(l:List HK):hkHL prog w l=l.map (hkH prog w):=by
 induction l with
|nil=>rfl
|cons k l j=>rw[hkHL,j];rfl
def Qm4 l m:hkDL (l++m)=hkDL l+hkDL m:=by
 induction l with
|nil=>simp[hkDL]
|cons k l j=>rw[gV,hkDL,hkDL,j];omega
variable{A:aO}{E:zAD}
def Qsc(xs ys:List HK):((ba (min xs.length ys.length)).all (λj=>decide (xs.getD j (.int 0)=ys.getD j (.int 0)))&&xs.length==ys.length)=decide (xs=ys):=Qsd (.int 0) xs ys
def Qrm:∀d{A:aO}{s:aC}{k:HK}{v:aA}{Q:Int->aC->Prop},Dp d k->A.units+d<aS->KIs s.heap k v->Q (hkH prog w k) {s with toks:=s.toks+hkD k}->
  aF (aI prog w) A (pyHash v) Q E s:=by
 intro d
 induction d with
|zero=>
  intro A s k v Q Z hu r q;cases k with
  |tup l=>exact Z.elim
  |int i=>obtain⟨t,rfl⟩:=r;exact(Yp prog w).pyHash (k:=.inl i) (Q1g i t) q
  |str i=>obtain⟨t,rfl⟩:=r;exact(Yp prog w).pyHash (k:=.inr i) (Q1f i t) q
|succ d ih=>
  intro A s k v Q Z hu r q;cases k with
  |int i=>obtain⟨t,rfl⟩:=r;exact(Yp prog w).pyHash (k:=.inl i) (Q1g i t) q
  |str i=>obtain⟨t,rfl⟩:=r;exact(Yp prog w).pyHash (k:=.inr i) (Q1f i t) q
  |tup ks=>
   obtain⟨a,Y,rfl,⟨o,ho,hc,n,hd⟩,hi⟩:=r;have U:s.TypeIs (.ref a) "tuple":=⟨o,ho,hc⟩;have a1:A.units<aS:=by omega
   unfold pyHash;unfold pyHashByItsType;have nb:¬(zo (cg "tuple.__hash__")==zo bi)=zb:=by rw[beq_builtin_none];exact O9
   have sp {Q:Option aA->aC->Prop} (h:Q (zo (.builtin "tuple.__hash__")) s):aF (aI prog w) A (specialOf (.ref a) "__hash__") Q E s:=wpAny_specialOf U F.slot_tuple_hash.lookup h;refine aD (wpAny_cRoomFor_or (.inr a1) (aD (sp ?_)));show aF _ _ (if(zo (cg "tuple.__hash__")==zo bi)=zb then _ else _) _ _ _;rw[bV nb];refine aD (sp (aD (wpAny_callSpecialIfBoundUnlessNone?_slot U F.slot_tuple_hash (af F.slot_tuple_hash U F.entry_tuple_hash ?_ (F.args_tuple_hash_1 _)))));show aF _ A.in1 (Builtin.Tuple.tupleItemsOf (.ref a)>>=_) _ _ s;refine aD (wpAny_tupleItemsOf ho hd (aD ?_));rw[<- eD];have O:A.in1.units+d<aS:=by show A.units+1+d<aS;omega
   refine wpAny_forIn_list _ (λrest (b:Array Int) s'=>∃j G,ks=j++G/\KIsL s.heap G rest/\b.toList=j.map (hkH prog w)/\s'={s with toks:=s.toks+hkDL j}) _ ?_ ?_ _ _ ⟨[],ks,rfl,hi,rfl,rfl⟩
   ·rintro x rest b s' ⟨j,G,rfl,I,S,rfl⟩;cases G with
    |nil=>cases I
    |cons k G=>
     obtain⟨v,r,e,h1,h2⟩:=I;cases e;refine aD (ih (s:={s with toks:=s.toks+hkDL j}) (Z k (by simp)) O h1 ?_);exact wpAny_pure ⟨j++[k],G,by simp,h2,by simp[S],by simp[Qm4,hkDL,eE]⟩
   ·rintro b s' ⟨j,G,rfl,I,S,rfl⟩;cases G with
    |cons k G=>obtain⟨_,_,e,_⟩:=I;cases e
    |nil=>
     rw[G9]at q;show aF _ _ (retInt (Builtin.Tuple.tupleHashOf b.toList)) _ _ _;rw[S,<- Qm3];refine wpAny_ret_mkInt ?_;have q:Q (reduceHash (Builtin.Tuple.tupleHashOf (hkHL prog w j))) {s with toks:=s.toks+(hkDL j+1)}:=q;generalize Builtin.Tuple.tupleHashOf (hkHL prog w j)=z at*;show aF _ _ (if(decide (-(2:Int)^63<=z)&&decide (z<2^63))=zb then _ else _) Q E _;unfold reduceHash at q
     split
     ·rename_i J;rw[bU J]at q;exact wpAny_pure (by simpa[eE]using q)
     ·rename_i J;rw[bV J]at q;exact aD (bQ (wpAny_pure (by simpa[eE]using q)))
def Qzh:∀d{A:aO}{s:aC}{x y:HK}{u v:aA},Dp d x->Dp d y->A.units+d<aS->KIs s.heap x u->KIs s.heap y v->SeqAt.EqAt A s u v (decide (x=y)):=by
 intro d;have I:∀{A:aO}{s:aC}{x y:HK}{u v:aA},(∀l,x≠.tup l)->(∀l,y≠.tup l)->KIs s.heap x u->KIs s.heap y v->SeqAt.EqAt A s u v (decide (x=y)):=by
  intro A s x y u v nx ny p q;cases x with
  |tup l=>exact absurd rfl (nx l)
  |int i=>
   obtain⟨t,rfl⟩:=p;cases y with
   |tup l=>exact absurd rfl (ny l)
   |int j=>
    obtain⟨t',rfl⟩:=q;have:=SeqAt.EqAt.int_int (A:=A) (s:=s) i t j t'
    rwa [show(i==j)=decide (HK.int i=HK.int j) by by_cases e:i=j<;>simp[e]]at this
   |str j=>
    obtain⟨t',rfl⟩:=q;rw[bW (by simp)];exact SeqAt.EqAt.int_str _ _ _ _
  |str i=>
   obtain⟨t,rfl⟩:=p;cases y with
   |tup l=>exact absurd rfl (ny l)
   |int j=>
    obtain⟨t',rfl⟩:=q;rw[bW (by simp)];exact SeqAt.EqAt.str_int _ _ _ _
   |str j=>
    obtain⟨t',rfl⟩:=q;have:=SeqAt.EqAt.str_str (A:=A) (s:=s) i t j t'
    rwa [show(i==j)=decide (HK.str i=HK.str j) by by_cases e:i=j<;>simp[e]]at this
 induction d with
|zero=>
  intro A s x y u v dx S hu p q;exact I (λl e=>by subst e;exact dx) (λl e=>by subst e;exact S) p q
|succ d ih=>
  intro A s x y u v dx S hu p q;have G:A.units<aS:=by omega
  cases x with
  |tup l=>
   obtain⟨a,its,rfl,p1,p2⟩:=p;cases y with
   |int j=>
    obtain⟨t',rfl⟩:=q;rw[bW (by simp)];exact SeqAt.EqAt.tuple_int _ _ p1 G
   |str j=>
    obtain⟨t',rfl⟩:=q;rw[bW (by simp)];exact SeqAt.EqAt.tuple_str _ _ p1 G
   |tup m=>
    obtain⟨b,z,rfl,J,O⟩:=q
    by_cases e:a=b
    ·subst e;have e:=KIs.inj (d+1) (h:=s.heap) dx S ⟨a,its,rfl,p1,p2⟩ ⟨a,z,rfl,J,O⟩;rw[bY e];exact SeqAt.EqAt.same _
    ·have Y:=p2.len;have U:=O.len;have he:∀j(h1:j<its.size)(h2:j<z.size),SeqAt.EqAt A.in1 s its[j] z[j] (decide (l.getD j (.int 0)=m.getD j (.int 0))):=λj h1 h2=>by
      have k1:j<l.length:=by rw[Y,bj];exact h1
      have k2:j<m.length:=by rw[U,bj];exact h2
      have e1:l.getD j (.int 0)=l[j]:=by rw[F1,O2 k1];rfl
      have e2:m.getD j (.int 0)=m[j]:=by rw[F1,O2 k2];rfl
      rw[e1,e2];exact ih (dx _ (L5 k1)) (S _ (L5 k2)) (by show A.units+1+d<aS;omega) (p2.get j k1 (by simpa using h1)) (O.get j k2 (by simpa using h2))
     have Z:=SeqAt.RcAt.tuples p1 J G he;have s1:its.size=l.length:=by rw[Y,bj]
     have s2:z.size=m.length:=by rw[U,bj]
     rw[s1,s2,Qsc]at Z;exact SeqAt.EqAt.of_refs e (by simpa using Z)
  |int i=>
   cases y with
   |tup m=>
    obtain⟨t',rfl⟩:=p;obtain⟨b,z,rfl,J,O⟩:=q;rw[bW (by simp)];exact SeqAt.EqAt.int_tuple _ _ J G
   |_=>exact I (by simp) (by simp) p q
  |str i=>
   cases y with
   |tup m=>
    obtain⟨t',rfl⟩:=p;obtain⟨b,z,rfl,J,O⟩:=q;rw[bW (by simp)];exact SeqAt.EqAt.str_tuple _ _ J G
   |_=>exact I (by simp) (by simp) p q
def Qm0:∀d{A:aO}{s:aC}{k:HK}{v:aA}{Q:Bool->aC->Prop}m,d<m->Dp d k->KIs s.heap k v->Q zb s->aF (aI prog w) A (eqIsQuiet m v) Q E s:=by
 intro d;have j:∀{A:aO}{s:aC}{v:aA}{Q:Bool->aC->Prop}(m:Nat),carriedByValue v=zb->Q zb s->aF (aI prog w) A (eqIsQuiet m v) Q E s:=by
  intro A s v Q m Z q;rw[eqIsQuiet_byValue m Z];exact wpAny_pure q
 induction d with
|zero=>
  intro A s k v Q m hm J r q;cases k with
  |tup l=>exact J.elim
  |int i=>obtain⟨t,rfl⟩:=r;exact j m rfl q
  |str i=>obtain⟨t,rfl⟩:=r;exact j m rfl q
|succ d ih=>
  intro A s k v Q m hm J r q;cases k with
  |int i=>obtain⟨t,rfl⟩:=r;exact j m rfl q
  |str i=>obtain⟨t,rfl⟩:=r;exact j m rfl q
  |tup ks=>
   obtain⟨a,G,rfl,⟨o,U,Y,n,hd⟩,hi⟩:=r;have O:s.TypeIs (.ref a) "tuple":=⟨o,U,Y⟩;obtain⟨m,rfl⟩:∃m',m=m'+1:=⟨m-1,by omega⟩;unfold eqIsQuiet;refine aD (wpAny_specialOf O F.slot_tuple_eq.lookup ?_);show aF _ _ (isInstance (.ref a) (.type "tuple")>>=_) _ _ s;refine aD (bK O isSubtype_tuple_tuple ?_);simp only[cW,F5,if_false];refine aD (bD U hd (aD ?_));show aF _ _ (forIn G _ _) _ _ s;rw[<- eD];refine wpAny_forIn_list _ (λrest r s'=>r.1=zl/\s'=s/\∃l,KIsL s.heap l rest/\∀k∈l,k∈ks) _ ?_ ?_ _ _ ⟨rfl,rfl,ks,hi,λ_ h=>h⟩
   ·rintro v rest r s' ⟨I,rfl,l,S,z⟩;cases l with
    |nil=>cases S
    |cons k l=>
     obtain⟨v',r',e,h1,h2⟩:=S;cases e;refine aD (ih m () (J k (z k (by simp))) h1 ?_);simp only[cW,F5,if_false];exact wpAny_pure ⟨rfl,rfl,l,h2,λx hx=>z x (O3 _ hx)⟩
   ·rintro ⟨r1,r2⟩ s' ⟨I,rfl,_⟩;simp only at I;subst I;exact wpAny_pure q
def nk(prog:aK)(w:aJ):HeapKind prog w HK where
 is:=λh k a=>KIs h k (.ref a)/\Dp 5 k
 hash:=hkH prog w
 draws:=hkD
 room:=λA=>A.units+5<aS
 inj:=λhx hy=>KIs.inj 5 hx.2 hy.2 hx.1 hy.1
 keeps:=λ{h h' k a d o es ep} x ho hd hs=>⟨KIs.keep (λb its ⟨ob,h1,h2,n,h3⟩=>⟨ob,(hs.2 b λe=>by
  subst e;rw[ho]at h1;cases h1;rw[hd]at h3;cases h3).trans h1,h2,n,h3⟩) 5 x.2 x.1,x.2⟩
 pyHash:=λhu hk h=>Qrm 5 hk.2 hu hk.1 h
 eqBool:=λhu hx hy h=>Qzh 5 hx.2 hy.2 hu hx.1 hy.1 prog w _ _ h
 quiet:=λhk h=>Qm0 5 8 (by decide) hk.2 hk.1 h
end
def Qa3 prog w i t:(Yp prog w).is (.inl i) (.int i t)=zb:=Q1g i t
def Qa2 prog w x t:(Yp prog w).is (.inr x) (.str x t)=zb:=Q1f x t
end
inductive V where
|non|bl (b:Bool)|int (i:Int)|str (x:Str)|byt (b:Array UInt8)|flt (b:UInt64)|ref (a:aB)|ty (n:String)
deriving DecidableEq
def RelV:V->aA->Prop
|.non,u=>u=bi
|.bl b,u=>u=cK b
|.int i,u=>∃t,u=df i t
|.str x,u=>∃t,u=eC x t
|.byt b,u=>∃t,u=Value.bytes b t
|.flt b,u=>∃t,u=gW b t
|.ref a,u=>u=bc a
|.ty n,u=>u=bu n
abbrev Vals:List V->List aA->Prop:=aR RelV
def Vals.length{xs:List V}{j:List aA}(r:Vals xs j):xs.length=j.length:=Paired.length r
def Vals.get:∀{xs:List V}{j:List aA}{i:Nat}{x:V},Vals xs j->xs[i]?=zo x->∃u,j[i]?=zo u/\RelV x u
|_,_,_,_,.nil,e=>by simp at e
|_,_,0,_,.cons r _,e=>by simp at e;subst e;exact⟨_,rfl,r⟩
|_,_,i+1,x,.cons _ t,e=>by
  obtain⟨u,h1,h2⟩:=Vals.get (i:=i) (x:=x) t (by simpa using e);exact⟨u,by simpa using h1,h2⟩
def Vals.set(r:RelV x u):∀{xs:List V}{j:List aA}i,Vals xs j->Vals (xs.set i x) (j.set i u)
|_,_,_,.nil=>.nil
|_,_,0,.cons _ t=>.cons r t
|_,_,i+1,.cons q t=>.cons q (Vals.set r i t)
def Vals.append:∀{xs ys:List V}{j ws:List aA},Vals xs j->Vals ys ws->Vals (xs++ys) (j++ws)
|_,_,_,_,.nil,s=>s
|_,_,_,_,.cons r t,s=>.cons r (Vals.append t s)
def Vals.take:∀{xs:List V}{j:List aA}n,Vals xs j->Vals (xs.take n) (j.take n)
|_,_,0,_=>.nil
|_,_,_+1,.nil=>.nil
|_,_,n+1,.cons r t=>.cons r (Vals.take n t)
def Vals.drop:∀{xs:List V}{j:List aA}n,Vals xs j->Vals (xs.drop n) (j.drop n)
|_,_,0,r=>r
|_,_,_+1,.nil=>.nil
|_,_,n+1,.cons _ t=>Vals.drop n t
def RelO:Option V->Option aA->Prop
|some v,zo u=>RelV v u
|none,zl=>True
|_,_=>False
def KV{κ:Type}:List (κ×V)->List (κ×aA)->Prop:=aR λ(p:κ×V) (q:κ×aA)=>p.1=q.1/\RelV p.2 q.2
def kV:Key->V
|.inl i=>.int i
|.inr x=>.str x
inductive HO where
|lst (xs:List V)
|tup (xs:List V)
|dK (kvs:List (Key×V))|dT (kvs:List (HK×V))
|set (S:Int->Bool) (n:Nat)
|ins (C dx:aB) (fs:List (Str×V))
|own (x:aB)
|xd (fs:List (Str×V))
|met (f x:aB)
|rng (lo hi:Int)
|frz (o:Obj) (u:HO)
|tbl (ps:Array aA)
|ext (φ:Heap->Prop)
abbrev Hp:=aB->Option HO
def upd(H:Hp)(a:aB)(o:HO):Hp:=λb=>if b=a then zo o else H b
def Qj:upd H a o a=zo o:=by unfold upd;rw[bU rfl]
def Q7{H:Hp}(h:b≠a):upd H a o b=H b:=by unfold upd;rw[bV h]
def Qt2{H:Hp}(h:H a=zo o)(h':H b=zo u)(d:o≠u):a≠b:=by
 intro e;subst e;rw[h]at h';exact d (bt h')
def Qc{H:Hp}(h:H a=zo o)(h':H b=zl):a≠b:=by
 intro e;subst e;rw[h]at h';cases h'
mutual
def KAt(H:Hp):HK->V->Prop
|.int i,v=>v=.int i
|.str x,v=>v=.str x
|.tup l,v=>∃a vs,v=.ref a/\H a=zo (.tup vs)/\KAtL H l vs
def KAtL(H:Hp):List HK->List V->Prop
|[],vs=>vs=[]
|k::l,vs=>∃v r,vs=v::r/\KAt H k v/\KAtL H l r
end
mutual
theorem KAt.keep{H H':Hp}(j:∀b xs,H b=zo (.tup xs)->H' b=zo (.tup xs)):∀{k:HK}{v:V},KAt H k v->KAt H' k v
|.int _,_,r=>r
|.str _,_,r=>r
|.tup _,_,⟨a,vs,e,h,r⟩=>⟨a,vs,e,j a vs h,KAtL.keep j r⟩
theorem KAtL.keep{H H':Hp}(j:∀b xs,H b=zo (.tup xs)->H' b=zo (.tup xs)):∀{l:List HK}{vs:List V},KAtL H l vs->KAtL H' l vs
|[],_,r=>r
|_::_,_,⟨v,r,e,h,t⟩=>⟨v,r,e,KAt.keep j h,KAtL.keep j t⟩
end
def KR(H:Hp)(k:HK)(b:aB):Prop:=KAt H k (.ref b)/\Dp 5 k
def KR.keep{H H':Hp}{b:aB}(r:KR H k b)(j:∀b xs,H b=zo (.tup xs)->H' b=zo (.tup xs)):KR H' k b:=⟨r.1.keep j,r.2⟩
section
variable(P:aK)(w:aJ)
def ObjOk(H:Hp)(h:Heap)(a:aB):HO->Prop
 |.lst xs=>xs.length<=sizeLine/\∃(its:List aA)(n:Nat),Vals xs its/\h.get? a=zo {cls:=.type "list",data:=.seq its.toArray n}
 |.tup xs=>xs.length<=sizeLine/\∃its:List aA,Vals xs its/\IsTup h a its.toArray
 |.dK kvs=>kvs.length<=sizeLine/\(a==ag)=yo/\∃vs,KV kvs vs/\h.DictOf (Yp P w) a vs
 |.dT kvs=>kvs.length<=sizeLine/\(a==ag)=yo/\∃xs:List (HK×aB×aA),
   aR (λ(p:HK×V) (q:HK×aB×aA)=>p.1=q.1/\KR H p.1 q.2.1/\RelV p.2 q.2.2) kvs xs/\
   ∃o es ep,h.get? a=zo o/\o.ExactDict/\o.data=.dict es ep/\es.toList=xs.map (entryOfKey (nk P w))/\(xs.map (·.1)).Nodup
 |.set S n=>h.SetOf (intKind P w) a S n
 | .ins C dx fs=>H dx=zo (.own a)/\fs.length<=1000/\dx≠a/\h.get? a=zo (fJ C dx) /\
   ∃mA,h.Ns1 dx mA/\(∀f,RelO (fs.lookup f) (mA f))/\gX mA (fs.map (·.1))
 |.own _=>∃o,h.get? a=zo o
 |.xd fs=>∃mA,h.Ns1 a mA/\∀f,RelO (fs.lookup f) (mA f)
 |.rng lo hi=>∃t u v,h.get? a=zo {cls:=.type "range",data:=.fields #[.int lo t,.int hi u,.int 1 v]}
 |.frz o u=>h.get? a=zo o/\ObjOk H h a u
 |.tbl ps=>h.get? a=zo {cls:=.none,data:=.fields ps}
 |.met f x=>h.get? a=zo (fK (.ref f) (.ref x))
 |.ext φ=>φ h/\(∃o,h.get? a=zo o)/\∀h1 h2:Heap,φ h1->(∀o,h1.get? a=zo o->h2.get? a=zo o)->φ h2
def HOk(H:Hp)(h:Heap):Prop:=∀a o,H a=zo o->ObjOk P w H h a o
end
variable{P:aK}{H H':Hp}{h h':Heap}{a:aB}{o:HO}
section
variable{w:aJ}
def ObjOk.lt(x:ObjOk P w H h a o):a<h.objs.size:=by
 cases o with
|lst xs=>obtain⟨_,_,_,_,e⟩:=x;exact D0 e
|tup xs=>obtain⟨_,_,_,p⟩:=x;exact p.lt
|dK j=>obtain⟨_,_,_,_,o,_,_,e,_⟩:=x;exact D0 e
|dT j=>obtain⟨_,_,_,_,o,_,_,e,_⟩:=x;exact D0 e
|set S n=>obtain⟨o,_,_,_,e,_⟩:=x;exact D0 e
|ins C dx fs=>obtain⟨_,_,_,e,_⟩:=x;exact D0 e
|own y=>obtain⟨_,e⟩:=x;exact D0 e
|xd fs=>obtain⟨_,⟨_,_,_,e,_⟩,_⟩:=x;exact D0 e
|rng lo hi=>obtain⟨_,_,_,e⟩:=x;exact D0 e
|frz ob u=>obtain⟨e,_⟩:=x;exact D0 e
|tbl ps=>exact D0 (show h.get? a=zo _ from x)
|met f y=>exact D0 (show h.get? a=zo _ from x)
|ext q=>obtain⟨_,⟨_,e⟩,_⟩:=x;exact D0 e
def Paired.mapP{α β:Type}{F G:α->β->Prop}:∀{l₁:List α}{j:List β},aR F l₁ j->(∀a b,F a b->G a b)->aR G l₁ j
|_,_,.nil,_=>.nil
|_,_,.cons r t,f=>.cons (f _ _ r) (Paired.mapP t f)
def ObjOk.stay (x:ObjOk P w H h a o) (k:∀b u,(b=a\/H b=zo (.own a))->h.get? b=zo u->h'.get? b=zo u)
  (Y:∀b,H b=zo (.own a)->H' b=zo (.own a)) (J:∀b xs,H b=zo (.tup xs)->H' b=zo (.tup xs)):ObjOk P w H' h' a o:=by
 induction o with
|lst xs=>obtain⟨z,its,n,r,e⟩:=x;exact⟨z,its,n,r,k _ _ (.inl rfl) e⟩
|tup xs=>obtain⟨z,its,r,ob,e,c⟩:=x;exact⟨z,its,r,ob,k _ _ (.inl rfl) e,c⟩
|dK G=>obtain⟨z,y,vs,r,ob,es,ep,e,c⟩:=x;exact⟨z,y,vs,r,ob,es,ep,k _ _ (.inl rfl) e,c⟩
|dT G=>
  obtain⟨z,y,xs,r,ob,es,ep,e,c⟩:=x;exact⟨z,y,xs,Paired.mapP r λp q z=>⟨z.1,z.2.1.keep J,z.2.2⟩,ob,es,ep,k _ _ (.inl rfl) e,c⟩
|set S n=>obtain⟨ob,es,ep,t,e,c⟩:=x;exact⟨ob,es,ep,t,k _ _ (.inl rfl) e,c⟩
|ins C dx fs=>
  obtain⟨d,z,ne,e,I,⟨j,es,ep,O,c⟩,r⟩:=x;exact⟨Y _ d,z,ne,k _ _ (.inl rfl) e,I,⟨j,es,ep,k _ _ (.inr d) O,c⟩,r⟩
|own y=>obtain⟨ob,e⟩:=x;exact⟨ob,k _ _ (.inl rfl) e⟩
|xd fs=>obtain⟨I,⟨j,es,ep,e,c⟩,r⟩:=x;exact⟨I,⟨j,es,ep,k _ _ (.inl rfl) e,c⟩,r⟩
|rng lo hi=>obtain⟨t,u,v,e⟩:=x;exact⟨t,u,v,k _ _ (.inl rfl) e⟩
|frz ob u U=>obtain⟨e,q⟩:=x;exact⟨k _ _ (.inl rfl) e,U q⟩
|tbl ps=>
  have e:h.get? a=zo {cls:=.none,data:=.fields ps}:=x;show h'.get? a=zo {cls:=.none,data:=.fields ps};exact k a _ (.inl rfl) e
|met f y=>
  have e:h.get? a=zo (fK (.ref f) (.ref y)):=x;show h'.get? a=zo (fK (.ref f) (.ref y));exact k a _ (.inl rfl) e
|ext Z=>obtain⟨p,⟨o,e⟩,st⟩:=x;exact⟨st _ _ p λo q=>k _ _ (.inl rfl) q,⟨o,k _ _ (.inl rfl) e⟩,st⟩
def HOk.lt(x:HOk P w H h)(e:H a=zo o):a<h.objs.size:=(x a o e).lt
def HOk.fresh(x:HOk P w H h)(e:h.objs.size<=a):H a=zl:=by
 cases q:H a with
|none=>rfl
|some u=>exact absurd (D5 (x.lt q) e) (N1 _)
def HOk.kept(x:HOk P w H h)(k:∀b u,h.get? b=zo u->h'.get? b=zo u):HOk P w H h':=λa o e=>
 (x a o e).stay (λb u _ q=>k b u q) (λ_ q=>q) λ_ _ q=>q
def HOk.laid(x:HOk P w H h)(k:∀b u,h.get? b=zo u->h'.get? b=zo u)(G:h.objs.size<=a)(new:ObjOk P w (upd H a o) h' a o):HOk P w (upd H a o) h':=λb u e=>by
 have j:=x.fresh G
 by_cases z:b=a
 ·subst z;rw[Qj]at e;cases e;exact new
 ·rw[Q7 z]at e;exact(x b u e).stay (λc v _ q=>k c v q) (λc q=>by rw[Q7 (Qc q j)];exact q) λc xs q=>by rw[Q7 (Qc q j)];exact q
end
def Rd(H:Hp)(a:aB)(u:HO):Prop:=H a=zo u\/∃o,H a=zo (.frz o u)
def Rd.ok(r:Rd H a u)(x:HOk P w H h):ObjOk P w H h a u:=by
 rcases r with r|⟨o,r⟩
 ·exact x a u r
 ·obtain⟨_,q⟩:=x a _ r;exact q
def Mut:Option HO->Prop
|some (.lst _)=>True
|some (.dK _)=>True
|some (.dT _)=>True
|some (.set _ _)=>True
|some (.ins _ _ _)=>True
|some (.ext _)=>True
|_=>False
variable{e:aB}{o':HO}
section
variable{w:aJ}{x:aB}
def HOk.write (ok:HOk P w H h) (J:Mut (H x)) (Z:e=x\/H e=zo (.own x)) (k:∀b u,b≠e->h.get? b=zo u->h'.get? b=zo u) (U:∃u,h'.get? e=zo u)
  (new:ObjOk P w (upd H x o') h' x o'):HOk P w (upd H x o') h':=λb u q=>by
 have G:∀c y,H c=zo (.own y)->c≠x:=λc y r z=>by subst z;rw[r]at J;exact J
 have I:∀c xs,H c=zo (.tup xs)->c≠x:=λc xs r z=>by subst z;rw[r]at J;exact J
 by_cases O:b=x
 ·subst O;rw[Qj]at q;cases q;exact new
 ·rw[Q7 O]at q
  by_cases j:b=e
  ·have Y:H b=zo (.own x):=by
    rcases Z with z|z
    ·exact absurd (j.trans z) O
    ·rw[j];exact z
   rw[q]at Y;cases Y;obtain⟨v,hv⟩:=U;exact⟨v,by rw[j];exact hv⟩
  ·refine(ok b u q).stay (λc v S r=>k c v ?_ r) (λc r=>by rw[Q7 (G c b r)];exact r) λc xs r=>by rw[Q7 (I c xs r)];exact r
   rcases S with rfl|S
   ·exact j
   ·rintro rfl;rcases Z with z|z
    ·exact G c b S z
    ·rw[S]at z;cases z;exact O rfl
end
structure Un(fs ex:List aB)(H H':Hp)(h h':Heap):Prop where
keep:∀b o,h.get? b=zo o->H b=zl->b∉fs->b∉ex->h'.get? b=zo o
slot:∀b o,h.get? b=zo o->H b=zl->b∈fs->b∉ex->∃sl,h'.get? b=zo {o with slots:=sl}
free:∀b o,h.get? b=zo o->H b=zl->b∉ex->H' b=zl
there:∀b o,h.get? b=zo o->b∉ex->∃o',h'.get? b=zo o'
tups:∀b xs,H b=zo (.tup xs)->H' b=zo (.tup xs)
frzs:∀b o u,H b=zo (.frz o u)->H' b=zo (.frz o u)
tbls:∀b ps,H b=zo (.tbl ps)->∃more,H' b=zo (.tbl (ps++more))
variable{fs' ex ex':List aB}{H1 H2:Hp}{h1 h2:Heap}
section
variable{fs:List aB}{x:aB}
def Un.any(u:Un fs ex H H1 h h1)(q:h.get? b=zo ob)(n:H b=zl)(j:b∉ex):∃G,h1.get? b=zo {ob with slots:=G}:=by
 by_cases z:b∈fs
 ·exact u.slot b ob q n z j
 ·exact⟨ob.slots,u.keep b ob q n z j⟩
def Un.kept(k:∀b u,h.get? b=zo u->h'.get? b=zo u):Un fs ex H H h h':=
 ⟨λb ob q _ _ _=>k b ob q,λb ob q _ _ _=>⟨ob.slots,k b ob q⟩,λ_ _ _ n _=>n,λb ob q _=>⟨ob,k b ob q⟩,λ_ _ q=>q,λ_ _ _ q=>q,λ_ ps q=>⟨#[],by rw[q];simp⟩⟩
def Un.refl:Un fs ex H H h h:=Un.kept λ_ _ q=>q
def Un.laid(k:∀b u,h.get? b=zo u->h'.get? b=zo u)(z:h.objs.size<=a)(j:H a=zl):Un fs ex H (upd H a o) h h' where
 keep:=λb u q _ _ _=>k b u q
 slot:=λb u q _ _ _=>⟨u.slots,k b u q⟩
 free:=λb u q n _=>by rw[Q7 (F0 (D5 (D0 q) z))];exact n
 there:=λb u q _=>⟨u,k b u q⟩
 tups:=λb xs q=>by rw[Q7 (Qc q j)];exact q
 frzs:=λb u xs q=>by rw[Q7 (Qc q j)];exact q
 tbls:=λb ps q=>⟨#[],by rw[Q7 (Qc q j),q];simp⟩
def Un.write(G:Mut (H x))(S:e=x\/H e=zo (.own x))(k:∀b u,b≠e->h.get? b=zo u->h'.get? b=zo u)(I:∃u,h'.get? e=zo u):Un fs ex H (upd H x o) h h':=by
 have O:∀b,H b=zl->b≠x:=λb n z=>by subst z;rw[n]at G;exact G
 have J:∀b,H b=zl->b≠e:=λb n z=>by
  subst z;rcases S with r|r
  ·exact O b n r
  ·rw[n]at r;cases r
 have hm:∀b u,H b=zo u->¬Mut (zo u)->b≠x:=λb u q nm z=>by subst z;rw[q]at G;exact nm G
 refine⟨λb u q n _ _=>k b u (J b n) q,λb u q n _ _=>⟨u.slots,k b u (J b n) q⟩,λb u q n _=>by rw[Q7 (O b n)];exact n,λb u q _=>?_,
  λb xs q=>by rw[Q7 (hm b _ q λz=>z)];exact q,λb u xs q=>by rw[Q7 (hm b _ q λz=>z)];exact q,λb ps q=>⟨#[],by rw[Q7 (hm b _ q λz=>z),q];simp⟩⟩
 by_cases j:b=e
 ·subst j;exact I
 ·exact⟨u,k b u j q⟩
end
def trk(h:Heap)(H:Hp):List aB:=(ba h.objs.size).filter λa=>(H a).isSome
def Q88(h:Heap)(H:Hp):Heap:=eF h (trk h H)
def Qgm(h:Heap)H:(Q88 h H).objs.size=h.objs.size:=PySem.W.hideAll_size _ _
def Qm7{o:Obj}(e:h.get? b=zo o)(n:H b=zl):(Q88 h H).get? b=zo o:=
 eG _ e λhm=>by
  have q:(H b).isSome=zb:=(G6.mp hm).2;rw[n]at q;simp at q
def Qqm{o:Obj}(e:(Q88 h H).get? b=zo o):h.get? b=zo o/\H b=zl:=by
 have j:h.get? b=zo o:=gY (trk h H) e;refine⟨j,?_⟩;cases q:H b with
|none=>rfl
|some x=>
  have hm:b∈trk h H:=G6.mpr ⟨cM.mpr (D0 j),by simp[q]⟩;have z:(Q88 h H).get? b=zl:=gZ (trk h H) hm;rw[z]at e;cases e
def Qse(g h:Heap)(L:aB):zAA:=(ba h.objs.size).filterMap λa=>if a=L\/(g.get? a).isSome=zb then zl else(h.get? a).map λo=>(a,o)
def rest(g h:Heap)(L d:aB):zAA:=(Qse g h L).filter λp=>decide (p.1≠d)
structure Mod(K:bZ)(mg:zAE)(base:Heap):Prop where
kin:K.In base
glob:base.Ns aQ mg
blt:∃mb,base.Ns builtinsNs mb/\∀x:Str,x≠"__name__"->mb x=aX x
nolimit:base.NoLimit
structure Cx where
prog:aK
w:aJ
K:bZ
mg:Str->Option aA
base:Heap
A:aO
N:List Str
s₀:aC
H₀:Hp
env:Env
outer:List Env
stack:List Env
ex:List aB
fn:Str->Bool
calm:Bool
pn:zAA
xe:aA->aC->Prop
def frs(l:List Env):List aB:=l.filterMap (·.frame)
abbrev Cx.fs(X:Cx):List aB:=frs X.outer
def Vis(sc:Scope)(x:Str):Prop:=sc.names.lookup x=zo .local\/sc.names.lookup x=zo .cell\/sc.names.lookup x=zo .free
def Loc(sc:Scope)(x:Str):Prop:=sc.names.lookup x=zo .local\/sc.names.lookup x=zo .cell
def J0b(env:Env)(h:Heap)(m:zAE)(x:Str)(u:aA):Prop:=
 (env.kindOf x=zo .local/\m x=zo u)\/((env.kindOf x=zo .cell\/env.kindOf x=zo .free)/\∃c,env.cells.lookup x=zo c/\h.IsCell c (zo u))
structure Cx.Ok(X:Cx):Prop where
mod:Mod X.K X.mg X.base
kind:X.env.scope.kind=.function
glob:X.env.globals=aQ
blt:X.env.builtins=builtinsNs
above:X.s₀.heap.objs.size<=X.env.locals
inj:∀x y c,X.env.cells.lookup x=zo c->X.env.cells.lookup y=zo c->x=y
has:∀x,(X.env.kindOf x=zo .cell\/X.env.kindOf x=zo .free)->∃c,X.env.cells.lookup x=zo c
cab:∀x c,X.fn x=zb->X.env.cells.lookup x=zo c->X.s₀.heap.objs.size<=c
hd:X.calm=zb->X.A.handled=zl
frames:X.A.frames=zo X.stack
stk:X.stack=X.outer\/(X.stack=X.env::X.outer/\X.env.frame=zo X.env.locals)
exf:∀b∈X.ex,b≠X.env.locals/\∀x c,X.env.cells.lookup x=zo c->c≠b
bs:∀b o,X.base.get? b=zo o->X.s₀.heap.get? b=zo o/\X.H₀ b=zl
bsz:X.base.objs.size<=X.s₀.heap.objs.size
noex:∀b o,X.base.get? b=zo o->b∉X.ex
exfs:∀b∈X.ex,b∉X.fs
funs:X.s₀.heap.FunFrames X.base X.outer
frf:∀b∈X.fs,X.H₀ b=zl
structure Inv(X:Cx)(pins:zAA)(σ:List (Option V))(H:Hp)(s:aC):Prop where
ok:X.Ok
os:s.os=X.s₀.os
bare:AllBare s.gens
base:Un X.fs X.ex X.H₀ H X.s₀.heap s.heap
loc:∃m,s.heap.Ns X.env.locals m/\∀(i:Nat)(x:Str)(v:V),X.N[i]?=zo x->σ[i]?=zo (zo v)->Vis X.env.scope x->∃u,RelV v u/\J0b X.env s.heap m x u
cell:∀x c,X.env.cells.lookup x=zo c->∃v,s.heap.IsCell c v
free:H X.env.locals=zl
freeC:∀x c,X.env.cells.lookup x=zo c->H c=zl
pin:∀p∈X.pn++pins,s.heap.get? p.1=zo p.2/\H p.1=zl/\p.1≠X.env.locals/\p.1∉X.fs/\∀v,p.2.data≠.cell v
hok:HOk X.prog X.w H s.heap
len:σ.length=X.N.length
variable{X:Cx}{pins:zAA}{σ:List (Option V)}{s:aC}
def Cx.Ok.nofr(ok:X.Ok){o:Obj}(e:X.base.get? b=zo o):b∉X.fs:=λj=>by
 have:=(ok.funs.mem j).1;rw[e]at this;cases this
def Inv.bs(I:Inv X pins σ H s):∀b o,X.base.get? b=zo o->s.heap.get? b=zo o/\H b=zl:=λb o e=>
 ⟨I.base.keep b o (I.ok.bs b o e).1 (I.ok.bs b o e).2 (I.ok.nofr e) (I.ok.noex b o e),I.base.free b o (I.ok.bs b o e).1 (I.ok.bs b o e).2 (I.ok.noex b o e)⟩
def Inv.bk(I:Inv X pins σ H s):∀b o,X.base.get? b=zo o->s.heap.get? b=zo o:=λb o e=>(I.bs b o e).1
def Inv.mod(I:Inv X pins σ H s):Mod X.K X.mg X.base:=I.ok.mod
def Inv.kIn(I:Inv X pins σ H s):X.K.In s.heap:=I.ok.mod.kin.keeps I.bk
def Inv.lt(I:Inv X pins σ H s):X.env.locals<s.heap.objs.size:=let ⟨_,j,_⟩:=I.loc;j.lt
def Inv.sz(I:Inv X pins σ H s):X.s₀.heap.objs.size<=s.heap.objs.size:=E8 I.ok.above (dH I.lt)
def Inv.nofs(I:Inv X pins σ H s)(h:s.heap.objs.size<=a):a∉X.fs:=λq=>by
 obtain⟨_,o,j,_⟩:=I.ok.funs.mem q;exact absurd (D5 (D0 j) (E8 I.sz h)) (N1 _)
def Inv.cne(I:Inv X pins σ H s):∀x c,X.env.cells.lookup x=zo c->c≠X.env.locals:=λx c e z=>by
 obtain⟨v,o,G,hd⟩:=I.cell x c e;obtain⟨m,⟨o',es,ep,q,j,_⟩,_⟩:=I.loc;rw[z,q]at G;cases G;rw[j]at hd;cases hd
def Inv.funs(I:Inv X pins σ H s):s.heap.FunFrames X.base X.outer:=by
 have all:∀(l:List Env),(∀b∈frs l,b∈X.fs)->X.s₀.heap.FunFrames X.base l->s.heap.FunFrames X.base l:=by
  intro l
  induction l with
  |nil=>intro _ _;trivial
  |cons env r O=>
   intro hs J;obtain⟨Y,⟨L,o,j,U,S,hd⟩,hr⟩:=J;have q:L∈X.fs:=hs L (by unfold frs;rw[cj,j];exact E7);obtain⟨Z,e⟩:=I.base.slot L o S (I.ok.frf L q) q λz=>I.ok.exfs L z q
   exact⟨Y,⟨L,_,j,U,e,hd⟩,O (λb G=>hs b (by unfold frs;rw[cj,j];exact O3 _ G)) hr⟩
 exact all X.outer (λ_ G=>G) I.ok.funs
def Inv.stack(I:Inv X pins σ H s):s.heap.FunFrames X.base X.stack:=by
 rcases I.ok.stk with e|⟨e,q⟩
 ·rw[e];exact I.funs
 ·rw[e];obtain⟨m,j,_⟩:=I.loc;refine .cons (by rw[I.ok.kind];decide) q j ?_ I.funs;exact Heap.get?_none_of_le (E8 I.ok.bsz I.ok.above)
def Inv.stkSub(I:Inv X pins σ H s):∀b∈frs X.stack,b∈X.env.locals::X.fs:=λb j=>by
 rcases I.ok.stk with e|⟨e,q⟩
 ·rw[e]at j;exact O3 _ j
 ·rw[e]at j;unfold frs at j;rw[cj,q]at j;exact j
def Inv.stkFree(I:Inv X pins σ H s):∀b∈frs X.stack,H b=zl:=λb j=>by
 rcases D7.mp (I.stkSub b j)with e|j
 ·rw[e];exact I.free
 ·obtain⟨_,o,q,_⟩:=I.ok.funs.mem j;exact I.base.free b o q (I.ok.frf b j) λz=>I.ok.exfs b z j
def Inv.step {g':Array GenState} {t':Nat} {d':Drawn} {ch:List aB} (I:Inv X pins σ H s)
  (O:∀b∈ch,(b∈X.ex\/X.s₀.heap.objs.size<=b)/\b≠X.env.locals/\(∀x c,X.env.cells.lookup x=zo c->c≠b)/\∀p∈X.pn++pins,p.1≠b)
  (keep:∀b o,b≠X.env.locals->b∉X.fs->b∉ch->s.heap.get? b=zo o->H b=zl->h'.get? b=zo o)
  (slot:∀b o,b≠X.env.locals->b∈X.fs->b∉ch->s.heap.get? b=zo o->H b=zl->∃sl,h'.get? b=zo {o with slots:=sl}) (free:∀b o,b∉ch->s.heap.get? b=zo o->H b=zl->H' b=zl)
  (there:∀b o,b∉ch->s.heap.get? b=zo o->∃o',h'.get? b=zo o')
  (tups:∀b xs,H b=zo (.tup xs)->H' b=zo (.tup xs)) (frzs:∀b o u,H b=zo (.frz o u)->H' b=zo (.frz o u)) (tbls:∀b ps,H b=zo (.tbl ps)->∃more,H' b=zo (.tbl (ps++more)))
  (ns:∀m,s.heap.Ns X.env.locals m->h'.Ns X.env.locals m) (hok:HOk X.prog X.w H' h') (hg:AllBare g'):
  Inv X pins σ H' {s with heap:=h',gens:=g',drawn:=d',toks:=t'}:=by
 have a1:∀b o,X.s₀.heap.get? b=zo o->b≠X.env.locals:=λb o e=>F0 (D5 (D0 e) I.ok.above)
 have S:∀b o,X.s₀.heap.get? b=zo o->b∉X.ex->b∉ch:=λb o e j Y=>by
  rcases(O b Y).1 with z|z
  ·exact j z
  ·exact absurd (D5 (D0 e) z) (N1 _)
 have G:∀x c,X.env.cells.lookup x=zo c->∀v,s.heap.IsCell c v->h'.IsCell c v:=λx c e v ⟨o,Z,hd⟩=>by
  have J:c∉ch:=λz=>(O c z).2.2.1 x c e rfl
  by_cases hc:c∈X.fs
  ·obtain⟨sl,q⟩:=slot c o (I.cne x c e) hc J Z (I.freeC x c e);exact⟨_,q,hd⟩
  ·exact⟨o,keep c o (I.cne x c e) hc J Z (I.freeC x c e),hd⟩
 refine⟨I.ok,I.os,hg,⟨λb o e n Y j=>?_,λb o e n Y j=>?_,λb o e n j=>?_,λb o e j=>?_,λb xs e=>tups b xs (I.base.tups b xs e),λb o xs e=>frzs b o xs (I.base.frzs b o xs e),λb ps e=>?_⟩,?_,λx c e=>?_,?_,λx c e=>?_,λp hp=>?_,hok,I.len⟩
 ·exact keep b o (a1 b o e) Y (S b o e j) (I.base.keep b o e n Y j) (I.base.free b o e n j)
 ·obtain⟨sl,U⟩:=I.base.slot b o e n Y j;obtain⟨a2,e2⟩:=slot b _ (a1 b o e) Y (S b o e j) U (I.base.free b o e n j);exact⟨a2,e2⟩
 ·obtain⟨o',U⟩:=I.base.there b o e j;exact free b o' (S b o e j) U (I.base.free b o e n j)
 ·obtain⟨o',U⟩:=I.base.there b o e j;exact there b o' (S b o e j) U
 ·obtain⟨m1,U⟩:=I.base.tbls b ps e;obtain⟨m2,e2⟩:=tbls b _ U;exact⟨m1++m2,by rw[e2,gc]⟩
 ·obtain⟨m,hn,hl⟩:=I.loc;refine⟨m,ns m hn,λi x v U e2 e3=>?_⟩;obtain⟨u,r,l⟩:=hl i x v U e2 e3;refine⟨u,r,?_⟩;rcases l with l|⟨k,c,e,z⟩
  ·exact .inl l
  ·exact .inr ⟨k,c,e,G x c e _ z⟩
 ·obtain⟨v,z⟩:=I.cell x c e;exact⟨v,G x c e v z⟩
 ·obtain⟨m,⟨o,_,_,Z,_⟩,_⟩:=I.loc;exact free _ o (λz=>(O _ z).2.1 rfl) Z I.free
 ·obtain⟨v,o,Z,hd⟩:=I.cell x c e;exact free c o (λz=>(O c z).2.2.1 x c e rfl) Z (I.freeC x c e)
 ·obtain⟨e,n,ne,nf,d⟩:=I.pin p hp;have J:p.1∉ch:=λz=>(O p.1 z).2.2.2 p hp rfl
  exact⟨keep p.1 p.2 ne nf J e n,free p.1 p.2 J e n,ne,nf,d⟩
def Inv.un{t':Nat}(I:Inv X pins σ H s)(u:Un X.fs [] H H' s.heap h')(hok:HOk X.prog X.w H' h'):Inv X pins σ H' {s with heap:=h',toks:=t'}:=by
 obtain⟨m,⟨o,es,ep,O,r⟩,_⟩:=id I.loc;obtain⟨Z,S⟩:=u.any O I.free (by simp);exact I.step (g':=s.gens) (d':=s.drawn) (ch:=[]) (λ_ z=>nomatch z) (λb o _ q _ e n=>u.keep b o e n q (by simp)) (λb o _ q _ e n=>u.slot b o e n q (by simp)) (λb o _ e n=>u.free b o e n (by simp)) (λb o _ e=>u.there b o e (by simp)) u.tups u.frzs u.tbls (λY hm=>by
  obtain⟨o',G,J,j,U⟩:=hm;rw[O]at j;cases j;exact⟨_,G,J,S,U⟩) hok I.bare
def Inv.call {g':Array GenState} {t':Nat} {d':Drawn} {ch:List aB} (I:Inv X pins σ H s) (u:Un (frs X.stack) ch H H' s.heap h') (hok:HOk X.prog X.w H' h') (Y:AllBare g')
  (G:∀b∈ch,(b∈X.ex\/X.s₀.heap.objs.size<=b)/\b≠X.env.locals/\(∀x c,X.env.cells.lookup x=zo c->c≠b)/\∀p∈X.pn++pins,p.1≠b):
  Inv X pins σ H' {s with heap:=h',gens:=g',drawn:=d',toks:=t'}:=by
 obtain⟨m,⟨o,es,ep,U,r⟩,_⟩:=id I.loc;obtain⟨sl,S⟩:=u.any U I.free λz=>(G _ z).2.1 rfl
 exact I.step (ch:=ch) G (λb o S Z j e n=>u.keep b o e n (λz=>(D7.mp (I.stkSub b z)).elim S Z) j) (λb o _ _ j e n=>u.any e n j) (λb o j e n=>u.free b o e n j) (λb o j e=>u.there b o e j) u.tups u.frzs u.tbls (λm' hm=>by
  obtain⟨o',O,J,q,r'⟩:=hm;rw[U]at q;cases q;exact⟨_,O,J,S,r'⟩) hok Y
def Inv.turned {t':Nat} {it:aB} (I:Inv X pins σ H s) (k:∀b o,b≠it->s.heap.get? b=zo o->h'.get? b=zo o) (Y:H it=zl) (J:it≠X.env.locals)
  (h1:it∈X.ex\/X.s₀.heap.objs.size<=it) (h2:∀x c,X.env.cells.lookup x=zo c->c≠it) (S:∀p∈X.pn++pins,p.1≠it):Inv X pins σ H {s with heap:=h',toks:=t'}:=by
 have G:∀b u,H b=zo u->b≠it:=λb u e z=>by rw[z,Y]at e;cases e
 refine I.step (g':=s.gens) (d':=s.drawn) (ch:=[it]) (λb O=>?_) (λb o _ _ j e _=>k b o (λz=>j (by simp[z])) e) (λb o _ _ j e _=>⟨o.slots,k b o (λz=>j (by simp[z])) e⟩) (λ_ _ _ _ n=>n)
  (λb o j e=>⟨o,k b o (λz=>j (by simp[z])) e⟩) (λ_ _ e=>e) (λ_ _ _ e=>e) (λb ps e=>⟨#[],by rw[e];simp⟩) (λm hm=>?_) (λb u e=>?_) I.bare
 ·have e:b=it:=by simpa using O
  subst e;exact⟨h1,J,h2,S⟩
 ·obtain⟨o,es,ep,U,r⟩:=hm;exact⟨o,es,ep,k _ o (Ne.symm J) U,r⟩
 ·refine(I.hok b u e).stay (λc v j q=>k c v ?_ q) (λ_ q=>q) λ_ _ q=>q
  rcases j with z|z
  ·rw[z];exact G b u e
  ·exact G c _ z
def Inv.tok(I:Inv X pins σ H s)t:Inv X pins σ H {s with toks:=t}:=I.un (h':=s.heap) (t':=t) Un.refl I.hok
def Inv.kept(I:Inv X pins σ H s)(k:∀b u,s.heap.get? b=zo u->h'.get? b=zo u):Inv X pins σ H {s with heap:=h',toks:=t'}:=I.un (Un.kept k) (I.hok.kept k)
def Inv.laid(I:Inv X pins σ H s)(k:∀b u,s.heap.get? b=zo u->h'.get? b=zo u)(j:s.heap.objs.size<=a)(new:ObjOk X.prog X.w (upd H a o) h' a o):
  Inv X pins σ (upd H a o) {s with heap:=h',toks:=t'}:=I.un (Un.laid k j (I.hok.fresh j)) (I.hok.laid k j new)
def Inv.write(I:Inv X pins σ H s)(q:Mut (H x))(z:e=x\/H e=zo (.own x))(k:∀b u,b≠e->s.heap.get? b=zo u->h'.get? b=zo u)(j:∃u,h'.get? e=zo u)(new:ObjOk X.prog X.w (upd H x o) h' x o):Inv X pins σ (upd H x o) {s with heap:=h',toks:=t'}:=I.un (Un.write q z k j) (I.hok.write q z k j new)
def Inv.pins_of(I:Inv X pins σ H s)(h:∀p∈j,s.heap.get? p.1=zo p.2/\H p.1=zl/\p.1≠X.env.locals/\p.1∉X.fs/\∀v,p.2.data≠.cell v):Inv X j σ H s:=
 ⟨I.ok,I.os,I.bare,I.base,I.loc,I.cell,I.free,I.freeC,λp q=>(E9.mp q).elim (λz=>I.pin p (F7 _ z)) (h p),I.hok,I.len⟩
def Q42{N:List Str}(G:N.Nodup){i j:Nat}{x:Str}(a:N[i]?=zo x)(b:N[j]?=zo x):i=j:=by
 obtain⟨h1,z⟩:=O0.mp a;obtain⟨h2,q⟩:=O0.mp b;exact(List.getElem_inj G).mp (z.trans q.symm)
def Q5q {M:Model} {A:aO} {E:zAD} {i:Nat} {x:Str} {v:V} {u:aA} {Q:Unit->aC->Prop} (I:Inv X pins σ H s) (hN:X.N.Nodup) (hi:X.N[i]?=zo x) (S:Loc X.env.scope x) (r:RelV v u)
  (h:∀s',Inv X pins (σ.set i (zo v)) H s'->(∃a,Heap.SameBut a s.heap s'.heap/\(a=X.env.locals\/X.env.cells.lookup x=zo a))->Q PUnit.unit s') (hf:X.fn x=zb\/X.env.scope.names.lookup x=zo .local:=by first|exact .inl rfl|exact .inr rfl|assumption):aF M A (storeName X.env x u) Q E s:=by
 obtain⟨m,hn,hl⟩:=id I.loc;have a5:(X.env.scope.kind==.class||(X.env.scope.kind==.module&&X.env.locals !=X.env.globals))=yo:=by rw[I.ok.kind];rfl
 have Z:i<σ.length:=by rw[I.len];exact(O0.mp hi).1
 have cne:=I.cne;have J:∀{a:aB}{h':Heap},(∃o,s.heap.get? a=zo o/\H a=zl)->Heap.SameBut a s.heap h'->HOk X.prog X.w H h':=λ{a h'} ha hs b ob e=>by
  obtain⟨_,_,U⟩:=ha;refine(I.hok b ob e).stay (λc w' O q=>(hs.2 c ?_).trans q) (λ_ q=>q) λ_ _ q=>q
  rintro rfl;rcases O with rfl|O
  ·rw[U]at e;cases e
  ·rw[U]at O;cases O
 rcases S with hk|hk
 ·refine wpAny_storeName_local hk hn (λh' a7 hs=>?_) a5;obtain⟨oL,_,_,a8,_⟩:=id hn;refine h _ ⟨I.ok,I.os,I.bare,⟨λb o e n hb S=>?_,λb o e n hb S=>?_,I.base.free,λb o e S=>?_,I.base.tups,I.base.frzs,I.base.tbls⟩,⟨_,a7,λj y v' G Y e3=>?_⟩,λy c e=>?_,I.free,I.freeC,λp hp=>?_,J ⟨oL,a8,I.free⟩ hs,by simpa using I.len⟩ ⟨_,hs,.inl rfl⟩
  ·exact(hs.2 b (F0 (D5 (D0 e) I.ok.above))).trans (I.base.keep b o e n hb S)
  ·obtain⟨sl,G⟩:=I.base.slot b o e n hb S;exact⟨sl,(hs.2 b (F0 (D5 (D0 e) I.ok.above))).trans G⟩
  ·obtain⟨o',G⟩:=I.base.there b o e S;exact⟨o',(hs.2 b (F0 (D5 (D0 e) I.ok.above))).trans G⟩
  ·by_cases hj:j=i
   ·subst hj;rw[hi]at G;cases G;rw[D9 Z]at Y;cases Y;exact⟨u,r,.inl ⟨hk,by simp⟩⟩
   ·rw[E2 (Ne.symm hj)]at Y;obtain⟨u',r',q⟩:=hl j y v' G Y e3;refine⟨u',r',?_⟩;rcases q with⟨k,e⟩|⟨k,c,e,z⟩
    ·refine .inl ⟨k,?_⟩;have:y≠x:=λe=>hj (Q42 hN G (e▸hi))
     simp[this,e]
    ·exact .inr ⟨k,c,e,z.sameBut hs (cne y c e)⟩
  ·obtain⟨w',z⟩:=I.cell y c e;exact⟨w',z.sameBut hs (cne y c e)⟩
  ·obtain⟨e,n,ne,nf,d⟩:=I.pin p hp;exact⟨(hs.2 p.1 ne).trans e,n,ne,nf,d⟩
 ·have a1:X.fn x=zb:=by
   rcases hf with z|z
   ·exact z
   ·rw[z]at hk;cases hk
  obtain⟨c,O⟩:=I.ok.has x (.inl hk);obtain⟨w',z⟩:=I.cell x c O;refine wpAny_storeName_cell I.ok.kind hk O z (λh' a4 hs=>?_);obtain⟨oc,a2,a3⟩:=id z;refine h {s with heap:=h'} ⟨I.ok,I.os,I.bare,⟨λb o e n hb S=>?_,λb o e n hb S=>?_,I.base.free,λb o e S=>?_,I.base.tups,I.base.frzs,I.base.tbls⟩,⟨m,hn.sameBut hs (Ne.symm (cne x c O)),λj y v' G Y e3=>?_⟩,λy c' e=>?_,I.free,I.freeC,λp hp=>?_,J ⟨oc,a2,I.freeC x c O⟩ hs,by simpa using I.len⟩ ⟨c,hs,.inr O⟩
  ·exact(hs.2 b (F0 (D5 (D0 e) (I.ok.cab x c a1 O)))).trans (I.base.keep b o e n hb S)
  ·obtain⟨sl,G⟩:=I.base.slot b o e n hb S;exact⟨sl,(hs.2 b (F0 (D5 (D0 e) (I.ok.cab x c a1 O)))).trans G⟩
  ·obtain⟨o',G⟩:=I.base.there b o e S;exact⟨o',(hs.2 b (F0 (D5 (D0 e) (I.ok.cab x c a1 O)))).trans G⟩
  ·by_cases hj:j=i
   ·subst hj;rw[hi]at G;cases G;rw[D9 Z]at Y;cases Y;exact⟨u,r,.inr ⟨.inl hk,c,O,a4⟩⟩
   ·rw[E2 (Ne.symm hj)]at Y;obtain⟨u',r',q⟩:=hl j y v' G Y e3;refine⟨u',r',?_⟩;rcases q with q|⟨k,c',e,z'⟩
    ·exact .inl q
    ·refine .inr ⟨k,c',e,z'.sameBut hs ?_⟩;rintro rfl;exact hj (Q42 hN G (I.ok.inj _ _ _ e O▸hi))
  ·by_cases a6:c'=c
   ·subst a6;exact⟨_,a4⟩
   ·obtain⟨w2,z2⟩:=I.cell y c' e;exact⟨w2,z2.sameBut hs a6⟩
  ·obtain⟨e,n,ne,nf,d⟩:=I.pin p hp;refine⟨(hs.2 p.1 ?_).trans e,n,ne,nf,d⟩;intro q;rw[q,a2]at e;have q':oc=p.2:=bt e;exact d w' (by rw[<- q'];exact a3)
def Q34{Q:Unit->aC->Prop}(I:Inv X pins σ H s)(G:X.N.Nodup)(hi:X.N[i]?=zo x)(q:Loc X.env.scope x)(r:RelV v u)(h:∀s',Inv X pins (σ.set i (zo v)) H s'->Q PUnit.unit s')(j:X.fn x=zb\/X.env.scope.names.lookup x=zo .local:=by first|exact .inl rfl|exact .inr rfl|assumption):aF M A (storeName X.env x u) Q E s:=
 Q5q I G hi q r (λs' z _=>h s' z) j
def Inv.call'{s':aC}(I:Inv X pins σ H s)(z:s'.os=s.os)(u:Un (frs X.stack) ch H H' s.heap s'.heap)(hok:HOk X.prog X.w H' s'.heap)(q:AllBare s'.gens)(j:∀b∈ch,(b∈X.ex\/X.s₀.heap.objs.size<=b)/\b≠X.env.locals/\(∀x c,X.env.cells.lookup x=zo c->c≠b)/\∀p∈X.pn++pins,p.1≠b):Inv X pins σ H' s':=by
 obtain⟨h',g',d',t',o'⟩:=s';have e:o'=s.os:=z;subst e;exact I.call (g':=g') (t':=t') (d':=d') u hok q j
abbrev XK:=aA->Option aB->Hp->Prop
abbrev St:=List (Option V)
abbrev VK:=V->Hp->Prop
abbrev TE:=St->Hp->VK->Prop
abbrev TT:=St->Hp->(Bool->Hp->Prop)->Prop
abbrev TA:=St->Hp->(List V->Hp->Prop)->Prop
structure Ends where
nx:St->Hp->Prop
rt:VK
bk:St->Hp->Prop:=λ_ _=>False
ct:St->Hp->Prop:=λ_ _=>False
abbrev TS:=Ends->St->Hp->Prop
def EP(X:Cx)(pins:zAA)(σ:St)(Q:VK)(u:aA)(s':aC):Prop:=∃v H',Inv X pins σ H' s'/\RelV v u/\Q v H'
def TP(X:Cx)(pins:zAA)(σ:St)(Q:Bool->Hp->Prop)(b:Bool)(s':aC):Prop:=∃H',Inv X pins σ H' s'/\Q b H'
def AP(X:Cx)(pins:zAA)(σ:St)(Q:List V->Hp->Prop)(us:List aA)(s':aC):Prop:=∃vs H',Inv X pins σ H' s'/\Vals vs us/\Q vs H'
def SP(X:Cx)(pins:zAA)(D:Ends)(f:Flow)(s':aC):Prop:=
 match f with
|.next=>∃σ' H',Inv X pins σ' H' s'/\D.nx σ' H'
|.brk=>∃σ' H',Inv X pins σ' H' s'/\D.bk σ' H'
|.cont=>∃σ' H',Inv X pins σ' H' s'/\D.ct σ' H'
|.ret u=>∃v σ' H',Inv X pins σ' H' s'/\RelV v u/\D.rt v H'
def PE(X:Cx)(e:aH)(t:TE):Prop:=
 ∀(pins:zAA)(s:aC)(σ:St)(H:Hp)(Q:VK),Inv X pins σ H s->t σ H Q->aF (aI X.prog X.w) X.A (aM e X.env) (EP X pins σ Q) X.xe s
def PT(X:Cx)(e:aH)(t:TT):Prop:=
 ∀(pins:zAA)(s:aC)(σ:St)(H:Hp)(Q:Bool->Hp->Prop),Inv X pins σ H s->t σ H Q->aF (aI X.prog X.w) X.A (isTrue e X.env (aM e X.env)) (TP X pins σ Q) X.xe s
def PW(X:Cx)(e:aH)(t:TT):Prop:=
 ∀(whole:Sem aA)(pins:zAA)(s:aC)(σ:St)(H:Hp)(Q:Bool->Hp->Prop),Inv X pins σ H s->t σ H Q->aF (aI X.prog X.w) X.A (isTrue e X.env whole) (TP X pins σ Q) X.xe s
def PW.pt{e:aH}(h:PW X e t):PT X e t:=h _
def PA(X:Cx)(es:List aH)(t:TA):Prop:=
 ∀(pos:Pos)(pins:zAA)(s:aC)(σ:St)(H:Hp)(Q:List V->Hp->Prop),Inv X pins σ H s->t σ H Q->aF (aI X.prog X.w) X.A (spliced (aY pos (aN es X.env))) (AP X pins σ Q) X.xe s
def PS(X:Cx)(st:aL)(t:TS):Prop:=
 ∀(pins:zAA)(s:aC)(σ:St)(H:Hp)(D:Ends),Inv X pins σ H s->t D σ H->aF (aI X.prog X.w) X.A (exec st X.env) (SP X pins D) X.xe s
def PSs(X:Cx)(st:List aL)(t:TS):Prop:=
 ∀(pins:zAA)(s:aC)(σ:St)(H:Hp)(D:Ends),Inv X pins σ H s->t D σ H->aF (aI X.prog X.w) X.A (execs st X.env) (SP X pins D) X.xe s
def thn{α:Type}{t:Sem α}{Q j:α->aC->Prop}{M:Model}{A:aO}{E:zAD}{s:aC}(h:aF M A t Q E s)(q:∀a s,Q a s->j a s):aF M A t j E s:=ak h q λ_ _ x=>x
section
variable{X:Cx}
def Qxd(i:Nat):TE:=λσ H Q=>∃v,σ[i]?=zo (zo v)/\Q v H
def tC(v:V):TE:=λ_ H Q=>Q v H
def Qjf(J:X.N[i]?=zo x)(O:Vis X.env.scope x)(hd:(x==("__debug__":Str))=yo:=by decide)(z:(x==("__classdict__":Str))=yo:=by decide):PE X (.Name x pos) (Qxd i):=by
 intro pins s σ H Q I h;obtain⟨v,e,h⟩:=h;obtain⟨m,U,S⟩:=I.loc;obtain⟨u,r,l⟩:=S i x v J e O;have fin:EP X pins σ Q u s:=⟨v,H,I,r,h⟩;rcases l with⟨q,hm⟩|⟨q,c,G,j⟩
 ·exact wpAny_Name (wpAny_loadName_local I.ok.kind q U hm fin) hd
 ·rcases q with q|q
  ·exact wpAny_Name (wpAny_loadName_cell I.ok.kind q G j fin) hd
  ·exact wpAny_Name (wpAny_loadName_free I.ok.kind q G j fin z) hd
def Qjj{i j pos}:PE X (.Constant (.int i) j pos) (tC (.int i)):=λ_ _ _ H _ I h=>wpAny_Constant_int ⟨.int i,H,I.tok _,⟨_,rfl⟩,h⟩
def Qjp{b j pos}:PE X (.Constant (.bool b) j pos) (tC (.bl b)):=λ_ _ _ H _ I h=>Constant_bool ⟨.bl b,H,I,rfl,h⟩
def Qbw{j pos}:PE X (.Constant .none j pos) (tC .non):=λ_ _ _ H _ I h=>Constant_none ⟨.non,H,I,rfl,h⟩
def Q7f{x j pos}:PE X (.Constant (.str x) j pos) (tC (.str x)):=λ_ _ _ H _ I h=>Calls.Constant_str ⟨.str x,H,I.tok _,⟨_,rfl⟩,h⟩
def Gl(X:Cx)(x:Str):Prop:=X.env.kindOf x=zo .globalImplicit
def Q0e{σ:St}{Q:zAD}(I:Inv X pins σ H s)(j:Gl X x)(hm:X.mg x=zo u)(h:Q u s)(hd:(x==("__debug__":Str))=yo:=by decide):aF (aI X.prog X.w) X.A (aM (.Name x pos) X.env) Q E s:=
 Calls.Name_function_global I.ok.kind j (Calls.loadGlobal_global (by rw[I.ok.glob];exact I.mod.glob.keeps I.bk) hm h) hd
def xb{σ:St}{Q:zAD}(I:Inv X pins σ H s)(z:Gl X x)(hm:X.mg x=zl)(j:aX x=zo u)(h:Q u s)(q:x≠"__name__":=by decide)(hd:(x==("__debug__":Str))=yo:=by decide):aF (aI X.prog X.w) X.A (aM (.Name x pos) X.env) Q E s:=by
 obtain⟨mb,h1,h2⟩:=I.mod.blt;exact Calls.Name_function_global I.ok.kind z (Calls.loadGlobal_builtin (by rw[I.ok.glob];exact I.mod.glob.keeps I.bk) hm (by rw[I.ok.blt];exact h1.keeps I.bk) ((h2 x q).trans j) h) hd
def Z5(j:Gl X x)(hm:X.mg x=zo u)(r:RelV v u)(hd:(x==("__debug__":Str))=yo:=by decide):PE X (.Name x pos) (tC v):=
 λ_ _ _ H _ I h=>Q0e I j hm ⟨v,H,I,r,h⟩ hd
def Qdw(q:Gl X x)(hm:X.mg x=zl)(j:aX x=zo u)(r:RelV v u)(z:x≠"__name__":=by decide)(hd:(x==("__debug__":Str))=yo:=by decide):PE X (.Name x pos) (tC v):=
 λ_ _ _ H _ I h=>xb I q hm j ⟨v,H,I,r,h⟩ z hd
variable{a b:aH}{ta tb:TE}{pos:Pos}
def tB(t:TE):TT:=λσ H Q=>t σ H λx H1=>∃c,x=.bl c/\Q c H1
def Qiy{e:aH}{t:TE}(h:PE X e t)(O:∀j,isTrue e X.env j=(do let v<-j;standAt e.pos;av [v] (truthy v)):=by intro _;rfl):PT X e (tB t):=by
 intro pins s σ H Q I z;refine isTrue_plain (thn (h pins s σ H _ I z) λv s1 ⟨x,H1,G,J,S⟩=>?_) (O _)
 obtain⟨d,rfl,q⟩:=S;cases J;exact bE ⟨H1,G,q⟩
variable{tA tB':TT}{rest:List aH}
def J1m(t u:TT):TT:=λσ H Q=>t σ H λc H1=>if c=zb then u σ H1 Q else Q yo H1
def tOr(t u:TT):TT:=λσ H Q=>t σ H λc H1=>if c=zb then Q zb H1 else u σ H1 Q
def J1i(t:TT):TT:=λσ H Q=>t σ H λc H1=>Q (!c) H1
def Qpt(j:PT X a tA):PW X (.BoolOp .And [a] pos) tA:=by
 intro q pins s σ H Q I h;refine isTrue_and (thn (j pins s σ H Q I h) λc s1 e=>?_)
 cases c with
|true=>exact isTrue_and_nil e
|false=>exact e
def Qiu(j:PT X a tA):PW X (.BoolOp .Or [a] pos) tA:=by
 intro q pins s σ H Q I h;refine isTrue_or (thn (j pins s σ H Q I h) λc s1 e=>?_)
 cases c with
|false=>exact isTrue_or_nil e
|true=>exact e
def Qu8(J:PT X a tA)(z:PW X (.BoolOp .And (b::rest) pos) tB'):PW X (.BoolOp .And (a::b::rest) pos) (J1m tA tB'):=by
 intro G pins s σ H Q I h;refine isTrue_and (thn (J pins s σ H _ I h) λc s1 ⟨H1,j,q⟩=>?_)
 cases c with
|true=>exact z G pins s1 σ H1 Q j q
|false=>exact⟨H1,j,q⟩
def Qsv(J:PT X a tA)(z:PW X (.BoolOp .Or (b::rest) pos) tB'):PW X (.BoolOp .Or (a::b::rest) pos) (tOr tA tB'):=by
 intro G pins s σ H Q I h;refine isTrue_or (thn (J pins s σ H _ I h) λc s1 ⟨H1,j,q⟩=>?_)
 cases c with
|true=>exact⟨H1,j,q⟩
|false=>exact z G pins s1 σ H1 Q j q
def Qiz(j:PT X a tA):PT X (.UnaryOp .Not a pos) (J1i tA):=by
 intro pins s σ H Q I h;exact isTrue_not (j pins s σ H (λc H1=>Q (!c) H1) I h)
def Qxr(ta tb:TE):TE:=λσ H Q=>ta σ H λx H1=>∃c,x=.bl c/\if c=zb then tb σ H1 Q else Q (.bl yo) H1
def J1h(ta tb:TE):TE:=λσ H Q=>ta σ H λx H1=>∃c,x=.bl c/\if c=zb then Q (.bl zb) H1 else tb σ H1 Q
def Qxi(ta:TE):TE:=λσ H Q=>ta σ H λx H1=>∃c,x=.bl c/\Q (.bl (!c)) H1
def Qug{op}(h:PE X a t):PE X (.BoolOp op [a] pos) t:=λpins s σ H Q I j=>BoolOp_one (h pins s σ H Q I j)
def Quk(J:PE X a ta)(z:PE X (.BoolOp .And (b::rest) pos) tb):PE X (.BoolOp .And (a::b::rest) pos) (Qxr ta tb):=by
 intro pins s σ H Q I h;refine BoolOp_and (thn (J pins s σ H _ I h) λv s1 ⟨x,H1,q,G,j⟩=>?_)
 obtain⟨c,rfl,j⟩:=j;cases G;refine bE ?_;cases c with
|true=>exact z pins s1 σ H1 Q q j
|false=>exact⟨.bl yo,H1,q,rfl,j⟩
def Qya(J:PE X a ta)(z:PE X (.BoolOp .Or (b::rest) pos) tb):PE X (.BoolOp .Or (a::b::rest) pos) (J1h ta tb):=by
 intro pins s σ H Q I h;refine BoolOp_or (thn (J pins s σ H _ I h) λv s1 ⟨x,H1,q,G,j⟩=>?_)
 obtain⟨c,rfl,j⟩:=j;cases G;refine bE ?_;cases c with
|false=>exact z pins s1 σ H1 Q q j
|true=>exact⟨.bl zb,H1,q,rfl,j⟩
def Quh(G:PE X a ta):PE X (.UnaryOp .Not a pos) (Qxi ta):=by
 intro pins s σ H Q I h;refine UnaryOp_ (thn (G pins s σ H _ I h) λv s1 ⟨x,H1,q,z,j⟩=>?_)
 obtain⟨c,rfl,j⟩:=j;cases z;exact not_of (bE ⟨.bl (!c),H1,q,rfl,j⟩)
end
def SqL(K:bZ)(H:Hp)(a:aB)(xs:List V):Prop:=
 Rd H a (.lst xs)\/
  ∃(o:Obj)(its:Array aA)(n:Nat),K.lookup a=zo o/\o.cls=.type "list"/\o.dict=zl/\o.data=.seq its n/\its.size<=sizeLine/\Vals xs its.toList
def SqT(K:bZ)(H:Hp)(a:aB)(xs:List V):Prop:=
 Rd H a (.tup xs)\/
  ∃(o:Obj)(its:Array aA)(n:Nat),K.lookup a=zo o/\o.cls=.type "tuple"/\o.data=.seq its n/\its.size<=sizeLine/\Vals xs its.toList
def J2d:aA->Option V
|.none=>zo .non
|.bool b=>zo (.bl b)
|.int i _=>zo (.int i)
|.str x _=>zo (.str x)
|.bytes b _=>zo (.byt b)
|.float b _=>zo (.flt b)
|.ref a=>zo (.ref a)
|.type n=>zo (.ty n)
|_=>zl
def RelV.abs(r:RelV x u):J2d u=zo x:=by
 cases x with
|non=>cases r;rfl
|bl _=>cases r;rfl
|int _=>obtain⟨t,rfl⟩:=r;rfl
|str _=>obtain⟨t,rfl⟩:=r;rfl
|byt _=>obtain⟨t,rfl⟩:=r;rfl
|flt _=>obtain⟨t,rfl⟩:=r;rfl
|ref _=>cases r;rfl
|ty _=>cases r;rfl
def RelV.inj(r:RelV x u)(q:RelV y u):x=y:=bt (r.abs.symm.trans q.abs)
def Vals.inj:∀{xs ys:List V}{j:List aA},Vals xs j->Vals ys j->xs=ys
|_,_,_,.nil,.nil=>rfl
|_,_,_,.cons r t,.cons q t'=>by rw[r.inj q,Vals.inj t t']
variable{xs ys:List V}
section
variable{σ:St}
def SqL.of{K:bZ}(h:H a=zo (.lst xs)):SqL K H a xs:=.inl (.inl h)
def SqT.of{K:bZ}(h:H a=zo (.tup xs)):SqT K H a xs:=.inl (.inl h)
def Inv.list(I:Inv X pins σ H s)(h:SqL X.K H a xs):∃its:List aA,Vals xs its/\PlainL s.heap a its.toArray/\xs.length<=sizeLine:=by
 rcases h with h|⟨o,its,n,q,j,hd,hs,hz,r⟩
 ·obtain⟨z,its,n,r,e⟩:=h.ok I.hok;exact⟨its,r,⟨_,n,e,rfl,rfl,rfl⟩,z⟩
 ·refine⟨its.toList,r,⟨o,n,I.kIn a o q,j,hd,by simpa using hs⟩,?_⟩;have e:=r.length;simp only[bj]at e;omega
def Inv.tuple(I:Inv X pins σ H s)(h:SqT X.K H a xs):∃its:List aA,Vals xs its/\IsTup s.heap a its.toArray/\xs.length<=sizeLine:=by
 rcases h with h|⟨o,its,n,q,j,hs,hz,r⟩
 ·obtain⟨z,its,r,p⟩:=h.ok I.hok;exact⟨its,r,p,z⟩
 ·refine⟨its.toList,r,⟨o,I.kIn a o q,j,n,by simpa using hs⟩,?_⟩;have e:=r.length;simp only[bj]at e;omega
def Inv.list_inj(I:Inv X pins σ H s)(h:SqL X.K H a xs)(h':SqL X.K H a ys):xs=ys:=by
 obtain⟨its,r,⟨o,n,e,_,_,d⟩,_⟩:=I.list h;obtain⟨its',q,⟨o',G,j,_,_,d'⟩,_⟩:=I.list h';rw[e]at j;cases j;rw[d]at d';injection d' with z _
 have:its=its':=by simpa using congrArg fL z
 subst this;exact r.inj q
def Inv.tuple_inj(I:Inv X pins σ H s)(h:SqT X.K H a xs)(h':SqT X.K H a ys):xs=ys:=by
 obtain⟨its,r,⟨o,e,_,n,d⟩,_⟩:=I.tuple h;obtain⟨its',q,⟨o',j,_,G,d'⟩,_⟩:=I.tuple h';rw[e]at j;cases j;rw[d]at d';injection d' with z _
 have:its=its':=by simpa using congrArg fL z
 subst this;exact r.inj q
end
abbrev Cx.wish(X:Cx)(E:zAD):Cx:={X with xe:=E}
abbrev Cx.nox(X:Cx):Cx:=X.wish λ_ _=>False
def Cx.Ok.wish(ok:X.Ok)E:(X.wish E).Ok:=
 ⟨ok.mod,ok.kind,ok.glob,ok.blt,ok.above,ok.inj,ok.has,ok.cab,ok.hd,ok.frames,ok.stk,ok.exf,ok.bs,ok.bsz,ok.noex,ok.exfs,ok.funs,ok.frf⟩
def Cx.Ok.unwish(ok:(X.wish E).Ok):X.Ok:=
 ⟨ok.mod,ok.kind,ok.glob,ok.blt,ok.above,ok.inj,ok.has,ok.cab,ok.hd,ok.frames,ok.stk,ok.exf,ok.bs,ok.bsz,ok.noex,ok.exfs,ok.funs,ok.frf⟩
variable{E:zAD}
section
variable{σ:St}
def Inv.wish(I:Inv X pins σ H s)E:Inv (X.wish E) pins σ H s:=⟨I.ok.wish E,I.os,I.bare,I.base,I.loc,I.cell,I.free,I.freeC,I.pin,I.hok,I.len⟩
def Inv.unwish(I:Inv (X.wish E) pins σ H s):Inv X pins σ H s:=⟨I.ok.unwish,I.os,I.bare,I.base,I.loc,I.cell,I.free,I.freeC,I.pin,I.hok,I.len⟩
end
variable{st:aL}{u:TS}{te:TE}{pos:Pos}
section
variable{rest:List aL}{t:TS}{e:aH}
def Qsp:TS:=λD σ H=>D.nx σ H
def Qxf(t u:TS):TS:=λD σ H=>t {D with nx:=u D} σ H
def Q7c:PSs X [] Qsp:=λ_ _ σ H _ I h=>wpAny_execs_nil ⟨σ,H,I,h⟩
def j8(h1:PS X st t)(h2:PSs X rest u):PSs X (st::rest) (Qxf t u):=by
 intro pins s σ H D I h;refine wpAny_execs_cons (thn (h1 pins s σ H {D with nx:=u D} I h) λf s1 q=>?_)
 cases f with
|next=>
  obtain⟨j,H',z,q⟩:=q;exact h2 pins s1 j H' D z q
|ret v=>exact q
|brk=>exact q
|cont=>exact q
def xz(h1:PS X st t):PSs X [st] t:=by
 intro pins s σ H D I h;refine wpAny_execs_cons (thn (h1 pins s σ H D I h) λf s1 q=>?_)
 cases f with
|next=>exact wpAny_execs_nil q
|ret v=>exact q
|brk=>exact q
|cont=>exact q
def Qtj:TS:=λD σ H=>D.bk σ H
def Qj4:PS X (.Break pos) Qtj:=λ_ _ σ H _ I h=>wpAny_Break ⟨σ,H,I,h⟩
def Inv.quiet{σ:St}(I:Inv X pins σ H s):interactive X.env=yo:=by simp[interactive,I.ok.kind]
def Qxn(te:TE):TS:=λD σ H=>te σ H λ_ H1=>D.nx σ H1
def Qpw(q:PE X e te)(hs:swapsWith e zl pos.line X.env=pure yo:=by rfl):PS X (.Expr e pos) (Qxn te):=by
 intro pins s σ H D I h;exact wpAny_Expr_any (thn (q pins s σ H _ I h) λv s1 ⟨x,H1,j,G,z⟩=>⟨σ,H1,j,z⟩) I.quiet hs
def Qxg(te:TE):TS:=λD σ H=>te σ H D.rt
def Q7e(z:PE X e te):PS X (.Return (zo e) pos) (Qxg te):=by
 intro pins s σ H D I h;exact wpAny_Return_some (thn (z pins s σ H _ I h) λv s1 ⟨x,H1,j,q,G⟩=>⟨x,σ,H1,j,q,G⟩)
def Qxm(c:TT)(t u:TS):TS:=λD σ H=>c σ H λb H1=>if b=zb then t D σ H1 else u D σ H1
def Qj2{c:aH}{a b:List aL}{tc:TT}(G:PT X c tc)(J:PSs X a t)(z:PSs X b u):PS X (.If c a b pos) (Qxm tc t u):=by
 intro pins s σ H D I h;refine wpAny_If (thn (G pins s σ H _ I h) λd s1 ⟨H1,j,q⟩=>?_)
 cases d with
|true=>exact J pins s1 σ H1 D j q
|false=>exact z pins s1 σ H1 D j q
end
abbrev TG:=V->St->Hp->(St->Hp->Prop)->Prop
abbrev TGs:=List V->St->Hp->(St->Hp->Prop)->Prop
def PG(X:Cx)(target:aH)(t:TG):Prop:=
 ∀(pins:zAA)(s:aC)(σ:St)(H:Hp)(v:V)(u:aA)(Q:St->Hp->Prop),Inv X pins σ H s->RelV v u->t v σ H Q->
  aF (aI X.prog X.w) X.A (assign target X.env u) (λ_ s'=>∃σ' H',Inv X pins σ' H' s'/\Q σ' H') X.xe s
def PGs(X:Cx)(ts:List aH)(t:TGs):Prop:=
 ∀(pins:zAA)(s:aC)(σ:St)(H:Hp)(vs:List V)(us:List aA)(Q:St->Hp->Prop),Inv X pins σ H s->Vals vs us->t vs σ H Q->
  aF (aI X.prog X.w) X.A (assignInOrder ((az ts X.env).map (·.2)) us) (λ_ s'=>∃σ' H',Inv X pins σ' H' s'/\Q σ' H') X.xe s
abbrev Qwm:=V->V->V->Hp->(Hp->Prop)->Prop
def J0a(X:Cx)(t:Qwm):Prop:=
 ∀(pins:zAA)(s:aC)(σ:St)(H:Hp)(o i v:V)(ov iv u:aA)(Q:Hp->Prop),Inv X pins σ H s->RelV o ov->RelV i iv->RelV v u->t o i v H Q->
  aF (aI X.prog X.w) X.A (setItem ov iv u) (λ_ s'=>∃H',Inv X pins σ H' s'/\Q H') X.xe s
def Q6g(i:Nat):TG:=λv σ H Q=>Q (σ.set i (zo v)) H
def Qq8(G:X.N.Nodup)(hi:X.N[i]?=zo x)(q:Loc X.env.scope x)(j:X.fn x=zb\/X.env.scope.names.lookup x=zo .local:=by first|exact .inl rfl|exact .inr rfl|assumption):PG X (.Name x pos) (Q6g i):=by
 intro pins s σ H v u Q I r h;exact wpAny_assign_Name (Q34 I G hi q r (λs' z=>⟨_,H,z,h⟩) j)
def Qzm:TGs:=λvs σ H Q=>vs=[]/\Q σ H
def Qmb(t:TG)(u:TGs):TGs:=λvs σ H Q=>∃v r,vs=v::r/\t v σ H λσ' H'=>u r σ' H' Q
def Qq6:PGs X [] Qzm:=by
 intro pins s σ H vs j Q I r h;obtain⟨e,h⟩:=h;subst e;cases r;exact assignInOrder_nil ⟨σ,H,I,h⟩
def Qjd {e:aH} {es:List aH} {t:TG} {u:TGs} (h1:PG X e t) (h2:PGs X es u)
  (hs:(az (e::es) X.env).map (·.2)=assign e X.env::(az es X.env).map (·.2):=by rfl):PGs X (e::es) (Qmb t u):=by
 intro pins s σ H vs O Q I r h;obtain⟨v,S,J,h⟩:=h;subst J;cases r with
|cons r z=>
  rw[hs];refine assignInOrder_cons (thn (h1 pins s σ H _ _ _ I r h) λ_ s1 ⟨j,H1,q,G⟩=>?_)
  exact h2 pins s1 j H1 _ _ Q q z G
def Qzk(K:bZ)(n:Nat)(t:TGs):TG:=λv σ H Q=>∃a xs,v=.ref a/\SqT K H a xs/\xs.length=n/\t xs σ H Q
def Qud(J:X.calm=zb)(h:PGs X es t)(Y:(az es X.env).length=n:=by rfl)(q:(az es X.env).findIdx? (·.1)=zl:=by rfl):PG X (.Tuple es k pos) (Qzk X.K n t):=by
 intro pins s σ H v u Q I r j;obtain⟨a,xs,Z,hq,U,j⟩:=j;subst Z;cases r;obtain⟨its,z,G,hz⟩:=I.tuple hq;refine assign_Tuple_tuple (I.ok.hd J) G (by simp[Y,<- U,z.length]) q λh' S=>?_
 have O:Inv X pins σ H {s with heap:=h'}:=I.kept (t':=s.toks) λb o e=>S b o (F0 (D0 e)) e
 exact h pins _ σ H xs _ Q O (by simpa using z) j
def J27(to ti:TE)(t:Qwm):TG:=λv σ H Q=>to σ H λo H1=>ti σ H1 λi H2=>t o i v H2 λH3=>Q σ H3
def Que {o i:aH} {to z:TE} {t:Qwm} (ho:PE X o to) (hi:PE X i z) (hs:J0a X t)
  (ha:∀v,assign (.Subscript o i pos) X.env v=(do
   let j<-av [v] (aM o X.env)
   let q<-av [v,j] (aM i X.env)
   standAt pos
   av [v,j,q] (setItem j q v)
   release [v,j,q] []):=by intro _;rfl):PG X (.Subscript o i pos) (J27 to z t):=by
 intro pins s σ H v u Q I r h;rw[ha];refine aD (ae (thn (ho pins s σ H _ I h) λj s1 ⟨x,H1,U,r1,q1⟩=>?_))
 refine aD (ae (thn (hi pins s1 σ H1 _ U q1) λq S ⟨y,H2,Y,J,Z⟩=>?_))
 refine aD (wpAny_standAt (aD (ae (thn (hs pins S σ H2 x y v j q u _ Y r1 J r Z) λ_ s3 ⟨O,G,q3⟩=>?_))))
 exact wpAny_release ⟨σ,O,G,q3⟩
def Qnu(te:TE)(g:TG):TS:=λD σ H=>te σ H λx H1=>g x σ H1 D.nx
def Qj5 {tg e:aH} {te:TE} {g:TG} (O:PE X e te) (z:PG X tg g) (hs:swapsWithSole [tg] e pos.line X.env=pure yo:=by rfl) (j:swappedStores [tg] e X.env=pure zl:=by rfl)
  (h1:(az [tg] X.env).map (·.2)=[assign tg X.env]:=by rfl):PS X (.Assign [tg] e pos) (Qnu te g):=by
 intro pins s σ H D I h;refine wpAny_Assign_stores (thn (O pins s σ H _ I h) λv s1 ⟨x,H1,G,J,S⟩=>?_) hs j
 rw[h1];exact thn (z pins s1 σ H1 x v _ G J S) λ_ U q=>q
def Q7d {i:Nat} {x:Str} {e:aH} {te:TE} {pos':Pos} (U:X.N.Nodup) (hi:X.N[i]?=zo x) (z:Loc X.env.scope x) (O:PE X e te) (hs:swapsWith e (zo (.Name x pos')) pos.line X.env=pure yo:=by rfl) (j:X.fn x=zb\/X.env.scope.names.lookup x=zo .local:=by first|exact .inl rfl|exact .inr rfl|assumption):
  PS X (.Assign [.Name x pos'] e pos) (Qnu te (Q6g i)):=by
 intro pins s σ H D I h;refine wpAny_Assign_Name (thn (O pins s σ H _ I h) λv s1 ⟨y,H1,q,J,S⟩=>?_) hs
 exact Q34 q U hi z J (λY G=>⟨_,H1,G,S⟩) j
def Qte(c:TT)(tb:TS):TS:=λD σ H=>∃W:Nat->St->Hp->Prop,(∃m,W m σ H)/\∀m σ H,W m σ H->
 c σ H λb H1=>if b=zb then ∃N:St->Hp->Prop,(∀σ' H',N σ' H'->∃m',m'<m/\W m' σ' H')/\tb {D with nx:=N,ct:=N,bk:=D.nx} σ H1 else D.nx σ H1
def Qj1{c:aH}{body:List aL}{tc:TT}{tb:TS}(hp:PassesOwn (aI X.prog X.w) X.A X.env X.xe)(hc:PT X c tc)(hb:PSs X body tb):PS X (.While c body [] pos) (Qte tc tb):=by
 intro pins s σ H D I h;obtain⟨W,⟨m0,w0⟩,turn⟩:=h;refine wpAny_While (codeAny_whileLoop (λn s'=>∃z H',Inv X pins z H' s'/\W n z H') ?_ m0 ⟨σ,H,I,w0⟩);rintro n s1 ⟨q,H1,I1,w1⟩;refine bI hp (thn (hc pins s1 q H1 _ I1 (turn n q H1 w1)) λb s2 ⟨H2,I2,J⟩=>?_)
 cases b with
|true=>
  obtain⟨N,hN,J⟩:=J;rw[bU rfl];refine bI hp (thn (hb pins s2 q H2 _ I2 J) λf s3 O=>?_)
  cases f with
  |next=>
   obtain⟨j,G,Z,S⟩:=O;obtain⟨Y,hm,U⟩:=hN j G S;exact⟨Y,hm,j,G,Z,U⟩
  |cont=>
   obtain⟨j,G,Z,S⟩:=O;obtain⟨Y,hm,U⟩:=hN j G S;exact⟨Y,hm,j,G,Z,U⟩
  |brk=>exact O
  |ret v=>exact O
|false=>
  rw[bV O9];exact wpAny_execs_nil ⟨q,H2,I2,J⟩
structure It where
go:Nat->Hp->Prop
yld:Nat->Hp->V->Hp->Prop
stop:Nat->Hp->Prop
def Q57(X:Cx)(pins:zAA)(H:Hp)(b:aB):Prop:=
 H b=zl/\b≠X.env.locals/\b∉X.fs/\(b∈X.ex\/X.s₀.heap.objs.size<=b)/\(∀x c,X.env.cells.lookup x=zo c->c≠b)/\∀p∈X.pn++pins,p.1≠b
def Inv.fpOk{σ:St}(I:Inv X pins σ H s)(j:s.heap.objs.size<=b)(G:H' b=zl):Q57 X pins H' b:=by
 refine⟨G,cC (D5 I.lt j),I.nofs j,.inr (E8 I.sz j),λx c e z=>?_,λp J z=>?_⟩
 ·obtain⟨v,q⟩:=I.cell x c e;exact absurd (D5 q.lt (by rw[z];exact j)) (N1 _)
 ·exact absurd (D5 (D0 (I.pin p J).1) (by rw[z];exact j)) (N1 _)
structure Turn(P:aK)(w:aJ)(K:bZ)(tg:aH)(J:It)(fp:List aB)(it:aB)(tn:Nat->Heap->Prop):Prop where
mem:it∈fp
obj:∀i h,tn i h->∀b∈fp,∃o,h.get? b=zo o/\∀v,o.data≠.cell v
keep:∀i h h',tn i h->(∀b∈fp,∀o,h.get? b=zo o->h'.get? b=zo o)->tn i h'
item:∀(X:Cx),X.prog=P->X.w=w->X.K=K->X.calm=zb->∀(i:Nat)(pins:zAA)(s:aC)(σ:St)(H:Hp)(E:zAD),Inv X pins σ H s->(∀b∈fp,Q57 X pins H b)->tn i s.heap->J.go i H->
 aF (aI P w) X.A (ao (.ref it)) (λr s1=>∃u,r=zo u/\
  aF (aI P w) X.A (letOwnedTupleGo tg (.ref it) u) (λ_ s2=>∃x H',Inv X pins σ H' s2/\RelV x u/\J.yld i H x H'/\tn (i+1) s2.heap/\∀b∈fp,H' b=zl) E s1) E s
done:∀(X:Cx),X.prog=P->X.w=w->X.K=K->X.calm=zb->∀(i:Nat)(pins:zAA)(s:aC)(σ:St)(H:Hp)(E:zAD),Inv X pins σ H s->(∀b∈fp,Q57 X pins H b)->tn i s.heap->J.stop i H->
 aF (aI P w) X.A (ao (.ref it)) (λr s1=>r=zl/\Inv X pins σ H s1) E s
self:∀(A:aO)(i:Nat)(s:aC)(Q:zAD)(E:zAD),tn i s.heap->Q (.ref it) s->aF (aI P w) A (pyIter (.ref it)) Q E s
abbrev TI:=St->Hp->(It->Hp->Prop)->Prop
def PIE(X:Cx)(pins:zAA)(σ:St)(tg:aH)(R:It->Hp->Prop)(itv:aA)(s2:aC):Prop:=
 ∃(it:aB)(fp:List aB)(tn:Nat->Heap->Prop)(J:It)(H':Hp),itv=.ref it/\Inv X pins σ H' s2/\Turn X.prog X.w X.K tg J fp it tn/\tn 0 s2.heap/\(∀b∈fp,Q57 X pins H' b)/\R J H'
def PI(X:Cx)(tg iter:aH)(wi:TI):Prop:=
 ∀(pins:zAA)(s:aC)(σ:St)(H:Hp)(R:It->Hp->Prop),Inv X pins σ H s->wi σ H R->
  aF (aI X.prog X.w) X.A (aM iter X.env) (λv s1=>aF (aI X.prog X.w) X.A (pyIter v) (PIE X pins σ tg R) X.xe s1) X.xe s
def Qak{u:aA}{o:Obj}{Q:Unit->aC->Prop}(z:s.heap.get? it=zo o)(q:o.cls=.type n)(hd:o.data=.fields vs)(G:["enumerate","zip","dict_itemiterator","dict_reverseitemiterator","odict_iterator","itertools.zip_longest","itertools.pairwise"].contains n=yo)(j:Q PUnit.unit s):aF M A (letOwnedTupleGo tg (.ref it) u) Q E s:=by
 unfold letOwnedTupleGo;cases tg<;>first
  |exact wpAny_pure j
  | (cases u <;> first
    |exact wpAny_pure j
    | (refine aD (wpAny_load z ?_)
       rw[q,hd];show aF M A (if(["enumerate","zip","dict_itemiterator","dict_reverseitemiterator","odict_iterator","itertools.zip_longest","itertools.pairwise"].contains n&&vs[0]?==zo (aU _))=zb then _ else _) Q E s;rw[bV (by intro h;rw[G,dI]at h;cases h)];exact wpAny_pure j))
def Itl(K:bZ)(a:aB):It:=
 ⟨λi H=>∃xs x,SqL K H a xs/\xs[i]?=zo x,λi H x H'=>H'=H/\∀xs,SqL K H a xs->xs[i]?=zo x,λi H=>∃xs,SqL K H a xs/\xs.length<=i⟩
def Itt(K:bZ)(a:aB):It:=
 ⟨λi H=>∃xs x,SqT K H a xs/\xs[i]?=zo x,λi H x H'=>H'=H/\∀xs,SqT K H a xs->xs[i]?=zo x,λi H=>∃xs,SqT K H a xs/\xs.length<=i⟩
def Itr(lo:Int)(n:Nat):It:=⟨λi _=>i<n,λi H x H'=>H'=H/\x=.int (lo+i),λi _=>n<=i⟩
def Qf6{P:aK}{w:aJ}{K:bZ}{tg:aH}(a it:aB):Turn P w K tg (Itl K a) [it] it (λi h=>h.IsListIter it a i) where
 mem:=by simp
 obj:=λi h st b j=>by
  have e:b=it:=by simpa using j
  subst e;obtain⟨o,e,c,d⟩:=st;exact⟨o,e,λv z=>by rw[d]at z;cases z⟩
 keep:=λi h h' st k=>st.at λo e=>k it (by simp) o e
 item:=by
  intro X hP hw U hc i pins s σ H E I G st hg;subst hP hw U;obtain⟨xs,x,q,hx⟩:=hg;obtain⟨its,Y,p,hz⟩:=I.list q;obtain⟨u,hu,ru⟩:=Y.get hx;obtain⟨f0,S,f2,O,Z,J⟩:=G it (by simp);refine wpAny_pyNext_list_item st p.isList (x:=u) (by simpa using hu) λh' st' sb=>?_
  have I1:Inv X pins σ H {s with heap:=h'}:=I.turned (t':=s.toks) (λb o j e=>(sb.2 b j).trans e) f0 S O Z J
  obtain⟨o,e,c,d⟩:=id st';exact⟨u,rfl,Qak (s:={s with heap:=h'}) e c d (by decide) ⟨x,H,I1,ru,⟨rfl,λys hy=>by rw[I.list_inj hy q];exact hx⟩,st',λb j=>(G b j).1⟩⟩
 done:=by
  intro X hP hw U hc i pins s σ H E I G st hg;subst hP hw U;obtain⟨xs,q,hx⟩:=hg;obtain⟨its,Y,p,hz⟩:=I.list q;obtain⟨f0,S,f2,O,Z,J⟩:=G it (by simp);have hl:=Y.length;exact wpAny_pyNext_list_end (I.ok.hd hc) st p.isList (by simp;omega) λh' eb=>⟨rfl,I.turned (t':=s.toks) (λb o j e=>eb b o j e) f0 S O Z J⟩
 self:=λ_ _ _ _ _ st h=>wpAny_pyIter_listiter st h
def Qba{P:aK}{w:aJ}{K:bZ}{tg:aH}(a it:aB):Turn P w K tg (Itt K a) [it] it (λi h=>h.IsTupleIter it a i) where
 mem:=by simp
 obj:=λi h st b j=>by
  have e:b=it:=by simpa using j
  subst e;obtain⟨o,e,c,d⟩:=st;exact⟨o,e,λv z=>by rw[d]at z;cases z⟩
 keep:=λi h h' st k=>st.at λo e=>k it (by simp) o e
 item:=by
  intro X hP hw U hc i pins s σ H E I G st hg;subst hP hw U;obtain⟨xs,x,q,hx⟩:=hg;obtain⟨its,Y,p,hz⟩:=I.tuple q;obtain⟨u,hu,ru⟩:=Y.get hx;obtain⟨f0,S,f2,O,Z,J⟩:=G it (by simp);refine wpAny_pyNext_tuple_item st (show s.heap.IsTuple a its.toArray from p) (x:=u) (by simpa using hu) λh' st' sb=>?_
  have I1:Inv X pins σ H {s with heap:=h'}:=I.turned (t':=s.toks) (λb o j e=>(sb.2 b j).trans e) f0 S O Z J
  obtain⟨o,e,c,d⟩:=id st';exact⟨u,rfl,Qak (s:={s with heap:=h'}) e c d (by decide) ⟨x,H,I1,ru,⟨rfl,λys hy=>by rw[I.tuple_inj hy q];exact hx⟩,st',λb j=>(G b j).1⟩⟩
 done:=by
  intro X hP hw U hc i pins s σ H E I G st hg;subst hP hw U;obtain⟨xs,q,hx⟩:=hg;obtain⟨its,Y,p,hz⟩:=I.tuple q;obtain⟨f0,S,f2,O,Z,J⟩:=G it (by simp);have hl:=Y.length;exact wpAny_pyNext_tuple_end (I.ok.hd hc) st (show s.heap.IsTuple a its.toArray from p) (by simp;omega) λh' eb=>⟨rfl,I.turned (t':=s.toks) (λb o j e=>eb b o j e) f0 S O Z J⟩
 self:=λ_ _ _ _ _ st h=>wpAny_pyIter_tupleiter st h
def Qbb{P:aK}{w:aJ}{K:bZ}{tg:aH}(it:aB)(lo:Int)(n:Nat):Turn P w K tg (Itr lo n) [it] it (λi h=>IsRangeIter h it (lo+(i:Nat)*1) ((n:Int)-(i:Nat)) 1) where
 mem:=by simp
 obj:=λi h st b j=>by
  have e:b=it:=by simpa using j
  subst e;exact⟨_,st,λv z=>by
   have z':Data.fields _=Data.cell v:=z;cases z'⟩
 keep:=λi h h' st k=>k it (by simp) _ st
 item:=by
  intro X hP Z O S i pins s σ H E I q st hg;subst hP Z O;obtain⟨f0,U,f2,J,Y,G⟩:=q it (by simp);have W:=Walks.range (prog:=X.prog) (w:=X.w) (I.ok.hd S) it lo 1 n;refine W.item i s _ _ hg st λv h' tk hv st' kk=>?_
  obtain⟨t,rfl⟩:=hv;have I1:Inv X pins σ H {s with heap:=h',toks:=tk}:=I.turned (λb o j e=>kk b o (by simpa using j) e) f0 U J Y G
  refine⟨_,rfl,Qak (s:={s with heap:=h',toks:=tk}) (n:="range_iterator") st' rfl rfl (by decide) ⟨.int (lo+i),H,I1,⟨t,?_⟩,⟨rfl,rfl⟩,st',λb j=>(q b j).1⟩⟩
  rw[Int.mul_one]
 done:=by
  intro X hP Z O S i pins s σ H E I q st hg;subst hP Z O;obtain⟨f0,U,f2,J,Y,G⟩:=q it (by simp);exact wpAny_pyNext_range_end (I.ok.hd S) st (by have:n<=i:=hg;omega) λh' eb=>⟨rfl,I.turned (t':=s.toks) (λb o j e=>eb b o j e) f0 U J Y G⟩
 self:=λ_ _ _ _ _ st h=>wpAny_pyIter_rangeiter st h
variable{tg:aH}
def Qzf(K:bZ)(tl:TE):TI:=λσ H R=>tl σ H λx H1=>∃a,x=.ref a/\(∃xs,SqL K H1 a xs)/\R (Itl K a) H1
def J25(K:bZ)(tl:TE):TI:=λσ H R=>tl σ H λx H1=>∃a,x=.ref a/\(∃xs,SqT K H1 a xs)/\R (Itt K a) H1
def Qq4{l:aH}{tl:TE}(G:PE X l tl):PI X tg l (Qzf X.K tl):=by
 intro pins s σ H R I h;refine thn (G pins s σ H _ I h) λv s1 ⟨x,H1,j,J,O⟩=>?_
 obtain⟨a,e,⟨xs,S⟩,q⟩:=O;subst e;cases J;obtain⟨its,U,p,hz⟩:=j.list S;refine wpAny_pyIter_list p.isList ?_;refine⟨s1.heap.objs.size,[s1.heap.objs.size],_,_,H1,rfl,j.kept (t':=s1.toks) λb o e=>O4 _ e,Qf6 a _,⟨_,D4 _ rfl,rfl,rfl⟩,λb z=>?_,q⟩
 have e:b=s1.heap.objs.size:=by simpa using z
 subst e;exact j.fpOk (O6 _) (j.hok.fresh (O6 _))
def Qub{l:aH}{tl:TE}(G:PE X l tl):PI X tg l (J25 X.K tl):=by
 intro pins s σ H R I h;refine thn (G pins s σ H _ I h) λv s1 ⟨x,H1,j,J,O⟩=>?_
 obtain⟨a,e,⟨xs,S⟩,q⟩:=O;subst e;cases J;obtain⟨its,U,p,hz⟩:=j.tuple S;refine bL (show s1.heap.IsTuple a its.toArray from p) ?_;refine⟨s1.heap.objs.size,[s1.heap.objs.size],_,_,H1,rfl,j.kept (t':=s1.toks) λb o e=>O4 _ e,Qba a _,⟨_,D4 _ rfl,rfl,rfl⟩,λb z=>?_,q⟩
 have e:b=s1.heap.objs.size:=by simpa using z
 subst e;exact j.fpOk (O6 _) (j.hok.fresh (O6 _))
def Qiq {pins:zAA} {σ:St} {H:Hp} {s:aC} {R:It->Hp->Prop} {E:zAD} {lo hi:Int} {t u v:Tok} {tk:Nat} (I:Inv X pins σ H s) (h1:-(2^62)<=lo) (h2:lo<2^62) (O:-(2^62)<=hi) (J:hi<2^62)
  (q:R (Itr lo (hi-lo).toNat) H):aF (aI X.prog X.w) X.A (pyIter (.ref s.heap.objs.size)) (PIE X pins σ tg R) E {s with heap:=s.heap.push {cls:=.type "range",data:=.fields #[.int lo t,.int hi u,.int 1 v]},toks:=tk}:=by
 refine wpAny_pyIter_range (IsRange.new ..) (small_one h1 h2 O J) ?_;have j:Inv X pins σ H {s with heap:=s.heap.push {cls:=.type "range",data:=.fields #[.int lo t,.int hi u,.int 1 v]},toks:=tk}:=I.kept λb o e=>O4 _ e
 refine⟨(s.heap.push {cls:=.type "range",data:=.fields #[.int lo t,.int hi u,.int 1 v]}).objs.size,[(s.heap.push {cls:=.type "range",data:=.fields #[.int lo t,.int hi u,.int 1 v]}).objs.size],_,_,H,rfl,
  j.kept (t':=tk) λb o e=>O4 _ e,Qbb _ lo (hi-lo).toNat,?_,λb z=>?_,q⟩
 ·have S:lo+((0:Nat):Int)*1=lo:=by simp
  have G:(((hi-lo).toNat:Nat):Int)-((0:Nat):Int)=Builtin.Range.rangeSize lo hi 1:=by rw[rangeSize_one];split<;>omega
  show IsRangeIter _ _ (lo+((0:Nat):Int)*1) ((((hi-lo).toNat:Nat):Int)-((0:Nat):Int)) 1;rw[S,G];exact D4 _ rfl
 ·have e:b=(s.heap.push {cls:=.type "range",data:=.fields #[.int lo t,.int hi u,.int 1 v]}).objs.size:=by simpa using z
  subst e;exact j.fpOk (O6 _) (j.hok.fresh (O6 _))
def Qze(ta:TA):TI:=λσ H R=>ta σ H λvs H1=>∃j:Int,vs=[.int j]/\-(2^62)<=j/\j<2^62/\R (Itr 0 j.toNat) H1
def Qft{a:aH}(G:Gl X "range")(hm:X.mg "range"=zl)(U:PA X [a] ta)(hs:aN [a] X.env=[(yo,aM a X.env)]:=by rfl):PI X tg (.Call (.Name "range" p) [a] [] pos) (Qze ta):=by
 intro pins s σ H R I h;refine Call_ (xb I G hm boot_range (dg (thn (U pos pins s σ H _ I h) λZ s1 ⟨vs,H1,J,S,z⟩=>?_) hs rfl))
 obtain⟨j,e,z,Y,q⟩:=z;subst e;cases S with
|cons r O=>
  cases O;obtain⟨t,rfl⟩:=r;exact call_range_1 (Qiq J () () z Y (by simpa using q))
def J1j(wi:TI)(g:TG)(tb:TS):TS:=λD σ H=>wi σ H λJ H1=>∃W:Nat->Nat->St->Hp->Prop,(∃m,W 0 m σ H1)/\∀i m σ H,W i m σ H->
 (J.stop i H/\D.nx σ H)\/(J.go i H/\∃N:St->Hp->Prop,(∀σ' H',N σ' H'->∃m',m'<m/\W (i+1) m' σ' H')/\∀x H',J.yld i H x H'->g x σ H' λσ2 H2=>tb {D with nx:=N,ct:=N,bk:=D.nx} σ2 H2)
def Q3k(fp:List aB)(h:Heap):zAA:=fp.filterMap λb=>(h.get? b).map λo=>(b,o)
def Vr{o:Obj}(q:b∈j)(e:h.get? b=zo o):(b,o)∈Q3k j h:=dh.mpr ⟨b,q,by rw[e];rfl⟩
def Qg0{p:aB×Obj}(I:p∈Q3k j h):p.1∈j/\h.get? p.1=zo p.2:=by
 obtain⟨b,z,e⟩:=dh.mp I;cases q:h.get? b with
|none=>rw[q]at e;cases e
|some o=>
  rw[q]at e;have G:(b,o)=p:=bt e;subst G;exact⟨z,q⟩
def Inv.pinned{σ:St}(I:Inv X pins σ H s)(J:∀b∈j,Q57 X pins H b)(U:∀b∈j,∃o,s.heap.get? b=zo o/\∀v,o.data≠.cell v):Inv X (pins++Q3k j s.heap) σ H s:=
 I.pins_of λp Y=>(E9.mp Y).elim (λz=>I.pin p (F2 _ z)) λz=>by
  obtain⟨q,e⟩:=Qg0 z;obtain⟨S,O,Z,_⟩:=J p.1 q;obtain⟨o,G,d⟩:=U p.1 q;rw[e]at G;cases G;exact⟨e,S,O,Z,d⟩
def Inv.unpinned{σ:St}(I:Inv X (pins++q) σ H s):Inv X pins σ H s:=I.pins_of λp j=>I.pin p (F2 _ (F7 _ j))
def Qu9(hp:PassesOwn (aI X.prog X.w) X.A X.env X.xe)(hc:X.calm=zb)(hi:PI X tg iter wi)(hg:PG X tg g)(S:PSs X body tb)(hs:∀x,bF iter X.env x=pure x:=by intro _;rfl):PS X (.For tg iter body [] pos) (J1j wi g tb):=by
 intro pins s σ H D I h;refine wpAny_For (thn (hi pins s σ H _ I h) λv s1 h1=>thn h1 λa7 s2 h2=>?_) hs
 obtain⟨it,fp,tn,J,H2,e,I2,T,a6,f2,W,⟨m0,w0⟩,turn⟩:=h2;subst e;have q:∀{H':Hp},(∀b∈fp,H' b=zl)->∀b∈fp,Q57 X pins H' b:=λhn b S=>⟨hn b S,(f2 b S).2⟩
 refine codeAny_forLoop_any (λn s'=>∃i z H',Inv X pins z H' s'/\tn i s'.heap/\(∀b∈fp,H' b=zl)/\W i n z H') ?_ m0 ⟨0,σ,H2,I2,a6,λb S=>(f2 b S).1,w0⟩
 rintro n s3 ⟨i,G,H3,I3,a2,a1,w3⟩;rcases turn i n G H3 w3 with⟨stop,qn⟩|⟨go,N,hN,step⟩
 ·refine bI hp (thn (T.done X rfl rfl rfl hc i pins s3 G H3 X.xe I3 (q a1) a2 stop) λr s4 ⟨hr,I4⟩=>?_)
  subst hr;exact wpAny_execs_nil ⟨G,H3,I4,qn⟩
 ·refine bI hp (thn (T.item X rfl rfl rfl hc i pins s3 G H3 X.xe I3 (q a1) a2 go) λr s4 ⟨u,hr,h4⟩=>?_)
  subst hr;refine bI hp (thn h4 λ_ s5 ⟨x,H5,I5,r5,y5,Z,a3⟩=>?_);have a4:=I5.pinned (q a3) (T.obj _ _ Z);refine bI hp (thn (hg _ s5 G H5 x u _ a4 r5 (step x H5 y5)) λ_ s6 ⟨a5,H6,I6,q6⟩=>?_)
  refine bI hp (thn (S _ s6 a5 H6 _ I6 q6) λf s7 Y=>?_)
  have again:∀{j:St}{U:Hp},Inv X (pins++Q3k fp s5.heap) j U s7->N j U->∃m,m<n/\∃i z H',Inv X pins z H' s7/\tn i s7.heap/\(∀b∈fp,H' b=zl)/\W i m z H':=λ{j U} O n7=>by
   obtain⟨m',hm,w7⟩:=hN j U n7;refine⟨m',hm,i+1,j,U,O.unpinned,T.keep _ _ _ Z λb S o e=>(O.pin (b,o) (F2 _ (F2 _ (Vr S e)))).1,λb S=>?_,w7⟩;obtain⟨o,e,d⟩:=T.obj _ _ Z b S;exact(O.pin (b,o) (F2 _ (F2 _ (Vr S e)))).2.1
  cases f with
  |next=>obtain⟨j,U,O,n7⟩:=Y;exact again O n7
  |cont=>obtain⟨j,U,O,n7⟩:=Y;exact again O n7
  |brk=>obtain⟨j,U,O,Y⟩:=Y;exact⟨j,U,O.unpinned,Y⟩
  |ret v=>obtain⟨x7,j,U,O,r7,Y⟩:=Y;exact⟨x7,j,U,O.unpinned,r7,Y⟩
abbrev R2:=V->V->Hp->VK->Prop
def OpR(X:Cx)(f:aA->aA->Sem aA)(r:R2):Prop:=
 ∀(pins:zAA)(s:aC)(σ:St)(H:Hp)(x y:V)(v u:aA)(Q:VK),Inv X pins σ H s->RelV x v->RelV y u->r x y H Q->
  aF (aI X.prog X.w) X.A (f v u) (EP X pins σ Q) X.xe s
def W6(X:Cx)(f:aA)(r:List V->Hp->VK->Prop):Prop:=
 ∀(pins:zAA)(s:aC)(σ:St)(H:Hp)(xs:List V)(us:List aA)(Q:VK),Inv X pins σ H s->Vals xs us->r xs H Q->
  aF (aI X.prog X.w) X.A (call f us) (EP X pins σ Q) X.xe s
def tOp(r:R2)(ta tb:TE):TE:=λσ H Q=>ta σ H λx H1=>tb σ H1 λy H2=>r x y H2 Q
def rI(C:Int->Int->Prop)(g:Int->Int->V):R2:=λx y H Q=>∃i j,x=.int i/\y=.int j/\C i j/\Q (g i j) H
def rI0(g:Int->Int->V):R2:=λx y H Q=>∃i j,x=.int i/\y=.int j/\Q (g i j) H
variable{b c:aH}{ta tb tc:TE}
section
variable{a:aH}
def Qwg(ha:PE X a ta)(O:PE X b tb){σ:St}{R:V->V->Hp->Prop}(I:Inv X pins σ H s)(h:ta σ H λx H1=>tb σ H1 λy H2=>R x y H2){f:aA->aA->Sem aA}(J:∀v u z x y H2,Inv X pins σ H2 z->RelV x v->RelV y u->R x y H2->aF (aI X.prog X.w) X.A (f v u) Q X.xe z):
  aF (aI X.prog X.w) X.A (aM a X.env) (λv j=>aF (aI X.prog X.w) X.A (aM b X.env) (λu q=>aF (aI X.prog X.w) X.A (f v u) Q X.xe q) X.xe j) X.xe s:=by
 refine thn (ha pins s σ H _ I h) λv s1 ⟨x,H1,S,Z,q1⟩=>?_
 refine thn (O pins s1 σ H1 _ S q1) λu z ⟨y,H2,U,G,Y⟩=>?_
 exact J v u z x y H2 U Z G Y
def Qjh(U:OpR X (aZ op) r)(S:PE X a ta)(j:PE X b tb):PE X (.BinOp a op b pos) (tOp r ta tb):=by
 intro pins s σ H Q I h;exact wpAny_BinOp (Qwg S j I h λv u z x y H2 J G O q=>U pins z σ H2 x y v u Q J G O q)
def opI{f:aA->aA->Sem aA}{C:Int->Int->Prop}{g:Int->Int->Int}(rule:∀i j t u(s:aC)(Q:zAD)E,C i j->Q (.int (g i j) s.toks) {s with toks:=s.toks+1}->aF (aI X.prog X.w) X.A (f (.int i t) (.int j u)) Q E s):
  OpR X f (rI C λi j=>.int (g i j)):=by
 intro pins s σ H x y v u Q I G J h;obtain⟨i,j,rfl,rfl,z,q⟩:=h;obtain⟨t,rfl⟩:=G;obtain⟨t',rfl⟩:=J;exact rule i j t t' s _ _ z ⟨.int (g i j),H,I.tok _,⟨_,rfl⟩,q⟩
def Qym{f:aA->aA->Sem aA}{g:Int->Int->Int}(rule:∀i j t u(s:aC)(Q:zAD)E,Q (.int (g i j) s.toks) {s with toks:=s.toks+1}->aF (aI X.prog X.w) X.A (f (.int i t) (.int j u)) Q E s):
  OpR X f (rI0 λi j=>.int (g i j)):=by
 intro pins s σ H x y v u Q I z G h;obtain⟨i,j,rfl,rfl,q⟩:=h;obtain⟨t,rfl⟩:=z;obtain⟨t',rfl⟩:=G;exact rule i j t t' s _ _ ⟨.int (g i j),H,I.tok _,⟨_,rfl⟩,q⟩
def Qqk{f:aA->aA->Sem aA}{g:Int->Int->Bool}(rule:∀i j t u s(Q:zAD)E,Q (.bool (g i j)) s->aF (aI X.prog X.w) X.A (f (.int i t) (.int j u)) Q E s):
  OpR X f (rI0 λi j=>.bl (g i j)):=by
 intro pins s σ H x y v u Q I z G h;obtain⟨i,j,rfl,rfl,q⟩:=h;obtain⟨t,rfl⟩:=z;obtain⟨t',rfl⟩:=G;exact rule i j t t' s _ _ ⟨.bl (g i j),H,I,rfl,q⟩
def J2g(i j:Int):Prop:=0<=j/\j<=1000000/\i.natAbs<2^64
def CMul(i j:Int):Prop:=(-(2^64)<i/\i<2^64)\/(-(2^64)<j/\j<2^64)
def CMul.ok(h:CMul i j):IntMulOk i j:=by
 rcases h with⟨h1,h2⟩|⟨h1,h2⟩
 ·exact .of_left (intBits_le_64 h1 h2)
 ·exact .of_right (intBits_le_64 h1 h2)
def Qv1:OpR X (aZ .Add) (rI0 λi j=>.int (i+j)):=Qym λ_ _ _ _ _ _ _ q=>add_int q
def Quu:OpR X (aZ .Sub) (rI0 λi j=>.int (i-j)):=Qym λ_ _ _ _ _ _ _ q=>sub_int q
def Qux:OpR X (aZ .Mult) (rI CMul λi j=>.int (i*j)):=opI λ_ _ _ _ _ _ _ z q=>mul_int q z.ok
def Quy:OpR X (aZ .Mod) (rI (λ_ j=>0<j) λi j=>.int (i%j)):=opI λi j _ _ _ _ _ z q=>by
 have h1:(0:Int)<j:=z;exact mod_int' () (by rw[Int.fmod_eq_emod_of_nonneg i ()];exact q)
def Quw:OpR X (aZ .Pow) (rI J2g λi j=>.int (i^j.toNat)):=opI λ_ _ _ _ _ _ _ z q=>pow_int_small z.1 z.2.1 z.2.2 q
end
def J1n:V->V->Bool
|.non,.non=>zb|.non,.int _=>zb|.int _,.non=>zb|.non,.bl _=>zb|.bl _,.non=>zb|.non,.str _=>zb|.str _,.non=>zb
|.int _,.int _=>zb|.bl _,.bl _=>zb|.str _,.str _=>zb|.byt _,.byt _=>zb
|.int _,.str _=>zb|.str _,.int _=>zb|.bl _,.str _=>zb|.str _,.bl _=>zb
|_,_=>yo
def rNe:R2:=λx y H Q=>J1n x y=zb/\Q (.bl (!decide (x=y))) H
def Qs1:decide (V.int i=V.int j)=(i==j):=by
 rw[cV];simp
def Qw6:decide (V.bl i=V.bl j)=(i==j):=by
 rw[cV];simp
def Qs0:decide (V.str i=V.str j)=(i==j):=by
 rw[cV];simp
def Qs2{i j:Array UInt8}:decide (V.byt i=V.byt j)=(i.toList==j.toList):=by
 rw[cV];cases i;cases j;simp
section
variable{a:aH}
def Zn{pins:zAA}{σ:St}{H:Hp}{s:aC}{Q:VK}{k j:Bool}(I:Inv X pins σ H s)(q:Q (.bl k) H)(e:k=j):EP X pins σ Q (.bool j) s:=by
 subst e;exact⟨.bl k,H,I,rfl,q⟩
def Qyh:OpR X (aV .NotEq) rNe:=by
 intro pins s σ H x y v u Q I G z h;obtain⟨hs,q⟩:=h;cases x with
|non=>
  cases G;cases y with
  |non=>cases z;exact PySem.EqNone.ne_none_none (Zn I q (by simp))
  |bl j=>cases z;exact PySem.EqNone.ne_none_bool (Zn I q (by simp))
  |int j=>obtain⟨t',rfl⟩:=z;exact PySem.EqNone.ne_none_int (Zn I q (by simp))
  |str j=>obtain⟨t',rfl⟩:=z;exact PySem.EqNone.ne_none_str (Zn I q (by simp))
  |_=>exact absurd (show yo=zb from hs) O9
|bl i=>
  cases G;cases y with
  |non=>cases z;exact PySem.EqNone.ne_bool_none (Zn I q (by simp))
  |bl j=>cases z;exact ne_bool (Zn I q (congrArg not Qw6))
  |str j=>obtain⟨t',rfl⟩:=z;exact PySem.EqMixed.ne_bool_str (Zn I q (by simp))
  |_=>exact absurd (show yo=zb from hs) O9
|int i=>
  obtain⟨t,rfl⟩:=G;cases y with
  |non=>cases z;exact PySem.EqNone.ne_int_none (Zn I q (by simp))
  |int j=>obtain⟨t',rfl⟩:=z;exact ne_int (Zn I q (congrArg not Qs1))
  |str j=>obtain⟨t',rfl⟩:=z;exact PySem.EqMixed.ne_int_str (Zn I q (by simp))
  |_=>exact absurd (show yo=zb from hs) O9
|str i=>
  obtain⟨t,rfl⟩:=G;cases y with
  |non=>cases z;exact PySem.EqNone.ne_str_none (Zn I q (by simp))
  |bl j=>cases z;exact PySem.EqMixed.ne_str_bool (Zn I q (by simp))
  |int j=>obtain⟨t',rfl⟩:=z;exact PySem.EqMixed.ne_str_int (Zn I q (by simp))
  |str j=>obtain⟨t',rfl⟩:=z;exact ne_str (Zn I q (congrArg not Qs0))
  |_=>exact absurd (show yo=zb from hs) O9
|byt i=>
  obtain⟨t,rfl⟩:=G;cases y with
  |byt j=>obtain⟨t',rfl⟩:=z;exact PySem.W.ne_bytes (Zn I q (congrArg not Qs2))
  |_=>exact absurd (show yo=zb from hs) O9
|_=>cases y<;>exact absurd (show yo=zb from hs) O9
def Qyi:OpR X (aV .Lt) (rI0 λi j=>.bl (decide (i<j))):=Qqk λ_ _ _ _ _ _ _ q=>lt_int q
def Qt0:OpR X (aV .LtE) (rI0 λi j=>.bl (decide (i<=j))):=Qqk λ_ _ _ _ _ _ _ q=>le_int q
def Qyj:OpR X (aV .Gt) (rI0 λi j=>.bl (decide (j<i))):=Qqk λ_ _ _ _ _ _ _ q=>gt_int q
def Qyk:OpR X (aV .GtE) (rI0 λi j=>.bl (decide (j<=i))):=Qqk λ_ _ _ _ _ _ _ q=>ge_int q
def Qv0:OpR X (aV .Is) (λx y H Q=>y=.non/\Q (.bl (decide (x=.non))) H):=by
 intro pins s σ H x y v u Q I j z h;obtain⟨rfl,q⟩:=h;cases z;refine is_none_gen (Zn I q ?_);cases x<;>first
  |(cases j;rfl)
  |(obtain⟨t,rfl⟩:=j;rfl)
def Qqi:OpR X (aV .IsNot) (λx y H Q=>y=.non/\Q (.bl (!decide (x=.non))) H):=by
 intro pins s σ H x y v u Q I j z h;obtain⟨rfl,q⟩:=h;cases z;refine isnot_none_gen (Zn I q ?_);cases x<;>first
  |(cases j;rfl)
  |(obtain⟨t,rfl⟩:=j;rfl)
def OpR.or{r j:R2}(h:OpR X f r)(h':OpR X f j):OpR X f (λx y H Q=>r x y H Q\/j x y H Q):=by
 intro pins s σ H x y v u Q I z G q;rcases q with q|q
 ·exact h pins s σ H x y v u Q I z G q
 ·exact h' pins s σ H x y v u Q I z G q
def Q41 b(h:op≠.In:=by decide)(h2:op≠.NotIn:=by decide):bM op b=yo:=by
 have q:(op==CmpOp.In)=yo:=by cases op<;>first|rfl|exact absurd rfl h
 have j:(op==CmpOp.NotIn)=yo:=by cases op<;>first|rfl|exact absurd rfl h2
 cases b<;>simp[bM,q,j]
def Q7g(U:OpR X (aV op) r)(S:PE X a ta)(j:PE X b tb)(hm:bM op b=yo):PE X (.Compare a [op] [b] pos) (tOp r ta tb):=by
 intro pins s σ H Q I h;exact wpAny_Compare1 (Qwg S j I h λv u z x y H2 J G O q=>U pins z σ H2 x y v u Q J G O q) hm
def Qsm(t:TE):TT:=λσ H Q=>t σ H λx H'=>∃k,x=.bl k/\Q k H'
def Q2k(ho:OpR X (aV op) r)(ha:PE X a ta)(G:PE X b tb)(hm:bM op b=yo):PT X (.Compare a [op] [b] pos) (Qsm (tOp r ta tb)):=by
 intro pins s σ H Q I h;refine wpAny_isTrue_Compare1 (thn (ha pins s σ H _ I h) λv s1 ⟨x,H1,S,r1,q1⟩=>thn (G pins s1 σ H1 _ S q1) λu O ⟨y,H2,Y,q,Z⟩=>
  thn (ho pins O σ H2 x y v u _ Y r1 q Z) λc s3 ⟨z,J,j,U,k,e,q3⟩=>?_) hm
 subst e;cases U;exact bE ⟨J,j,q3⟩
def Qbe(r r':R2)(ta tb tc:TE):TE:=λσ H Q=>ta σ H λx H1=>tb σ H1 λy H2=>r x y H2 λz H3=>∃k,z=.bl k/\
 (if k=zb then tc σ H3 λw' H4=>r' y w' H4 Q else Q (.bl yo) H3)
def Qjn(ho:OpR X (aV op) r)(q:OpR X (aV j) S)(ha:PE X a ta)(hb:PE X b tb)(hc:PE X c tc)(hm:lastMarks [op,j] [b,c]=yo:=by with_unfolding_all rfl):PE X (.Compare a [op,j] [b,c] pos) (Qbe r S ta tb tc):=by
 intro pins s σ H Q I h;refine Compare_chain (thn (ha pins s σ H _ I h) λv s1 ⟨x,H1,I1,Z,q1⟩=>chain_link (thn (hb pins s1 σ H1 _ I1 q1) λu Y ⟨y,H2,I2,G,q2⟩=>
  thn (ho pins Y σ H2 x y v u _ I2 Z G q2) λd s3 ⟨z,O,J,r3,k,e,U⟩=>?_)) hm
 subst e;cases r3;refine bE ?_;cases k with
|false=>exact ite_ff ⟨.bl yo,O,J,rfl,U⟩
|true=>exact ite_tt (chain_last (thn (hc pins s3 σ O _ J U) λw' s4 ⟨z',H4,I4,r4,q4⟩=>q pins s4 σ H4 y z' u w' Q I4 G r4 q4))
def Qj0(ho:OpR X (aV op) r)(q:OpR X (aV j) S)(ha:PE X a ta)(hb:PE X b tb)(hc:PE X c tc)(hm:lastMarks [op,j] [b,c]=yo:=by with_unfolding_all rfl):PT X (.Compare a [op,j] [b,c] pos) (Qsm (Qbe r S ta tb tc)):=by
 intro pins s σ H Q I h;refine isTrue_chain (thn (ha pins s σ H _ I h) λv s1 ⟨x,H1,I1,r1,q1⟩=>test_link (thn (hb pins s1 σ H1 _ I1 q1) λu Z ⟨y,H2,I2,G,q2⟩=>
  thn (ho pins Z σ H2 x y v u _ I2 r1 G q2) λd s3 ⟨z,O,J,r3,k,e,U⟩=>?_)) hm
 subst e;cases r3;refine bE ?_;cases k with
|false=>
  obtain⟨k',e',q'⟩:=U;cases e';exact ite_ff ⟨O,J,q'⟩
|true=>
  refine ite_tt (test_last (thn (hc pins s3 σ O _ J U) λw' s4 ⟨z',H4,I4,r4,q4⟩=>thn (q pins s4 σ H4 y z' u w' _ I4 G r4 q4) λd' s5 ⟨z2,H5,I5,r5,k2,e2,Y⟩=>?_))
  subst e2;cases r5;exact bE ⟨H5,I5,Y⟩
def Q1d:(sizeLine:Nat)<2^63:=by rw[sizeLine_eq];decide
def Qc0:OpR X (aZ .Add) (λx y H Q=>∃i j,x=.str i/\y=.str j/\i.length+j.length<=sizeLine/\Q (.str (i++j)) H):=by
 intro pins s σ H x y v u Q I z G h;obtain⟨i,j,rfl,rfl,hz,q⟩:=h;obtain⟨t,rfl⟩:=z;obtain⟨t',rfl⟩:=G;exact add_str (λt' tk=>⟨.str (i++j),H,I.tok _,⟨_,rfl⟩,q⟩) hz
def Uy(r:Vals [x] j):∃u,j=[u]/\RelV x u:=by
 cases r with
|cons q z=>cases z;exact⟨_,rfl,q⟩
def Qhf(r:Vals [x,y] j):∃u q,j=[u,q]/\RelV x u/\RelV y q:=by
 cases r with
|cons J z=>
  cases z with
  |cons I G=>cases G;exact⟨_,_,rfl,J,I⟩
def Qh1(G:X.calm=zb):W6 X (.builtin "min") (λxs H Q=>∃i j,xs=[.int i,.int j]/\Q (.int (if j<i then j else i)) H):=by
 intro pins s σ H xs J Q I r h;obtain⟨i,j,rfl,q⟩:=h;obtain⟨u,O,rfl,⟨t,rfl⟩,⟨t',rfl⟩⟩:=Qhf r;refine min_two_ints (I.ok.hd G) λh' tk k=>⟨_,H,I.kept k,?_,q⟩
 by_cases z:j<i
 ·rw[bU z,bU z];exact⟨_,rfl⟩
 ·rw[bV z,bV z];exact⟨_,rfl⟩
end
structure ObjM(h:Heap)(x dx C:aB)(mA:zAE):Prop where
obj:h.get? x=zo (fJ C dx)
ns:h.Ns1 dx mA
ne:dx≠x
def Qgd{I:zAE}(n:h.Ns1 dx I):∃G,h.get? dx=zo G/\∀name,fM name G=zo (I name):=by
 obtain⟨o,es,ep,U,hd,S,_,hm⟩:=n;refine⟨o,U,λname=>?_⟩;have e:=hm name;unfold nsFind findBy at e;rw[<- Array.find?_toList]at e;unfold fM;rw[hd];dsimp only
 split
 ·rename_i y q;rw[q]at e;exact congrArg zo e
 ·rename_i q;rw[q]at e;have a:es.toList.any (·.refKey)=yo:=by
   rw[dJ];intro y O;obtain⟨z,t,j⟩:=S y (fN.mp O);simp[DictEntry.refKey,j]
  have J:¬es.toList.any (·.refKey)=zb:=by rw[a];exact O9
  rw[bV J];exact congrArg zo e
def ObjM.look{q:zAE}(I:ObjM h x dx C q):∃j,PySem.W.InstAt h x (fJ C dx) C (zo j)/\∀name,fM name j=zo (q name):=
 let ⟨j,G,z⟩:=Qgd I.ns
 ⟨j,⟨I.obj,rfl,rfl,G⟩,z⟩
def RelO.some_of{o:Option aA}(r:RelO (zo v) o):∃u,o=zo u/\RelV v u:=by
 cases o with
|none=>exact(show False from r).elim
|some u=>exact⟨u,rfl,r⟩
variable{C dx:aB}
section
variable{w:aJ}{fs fs':List (Str×V)}
def Qrj(hok:HOk P w H h)(e:H a=zo (.ins C dx fs)):∃j,ObjM h a dx C j/\(∀f,RelO (fs.lookup f) (j f))/\gX j (fs.map (·.1))/\fs.length<=1000/\H dx=zo (.own a):=by
 obtain⟨d,z,ne,ob,j,n,r,q⟩:=(show ObjOk P w H h a (.ins C dx fs)from hok a _ e);exact⟨j,⟨ob,n,ne⟩,r,q,z,d⟩
end
structure Cls(K:bZ)(C:aB):Prop where
pg:gf K C cm=zb
hd:PySem.W.hasDictIn K C=zb
po:PySem.W.plainOver K C=zb
sa:di K (.ref C) "__setattr__"=zo (zo (.builtin "object.__setattr__"))
def Cls.get{K:bZ}{C:aB}(c:Cls K C)(f:Str):gf K C f=zb:=c.pg
variable{A:aO}{Q:zAD}
section
variable{σ:St}{c:aA}{b:Bool}
inductive TyOf(K:bZ)(H:Hp):V->aA->Prop where
|non:TyOf K H .non (.type "NoneType")
|bl (x:Bool):TyOf K H (.bl x) (.type "bool")
|int (i:Int):TyOf K H (.int i) (.type "int")
|str (x:Str):TyOf K H (.str x) (.type "str")
|flt (x:UInt64):TyOf K H (.flt x) (.type "float")
|lst {a:aB} {xs:List V} (e:H a=zo (.lst xs)):TyOf K H (.ref a) (.type "list")
|frz {a:aB} {o:Obj} {xs:List V} (e:H a=zo (.frz o (.lst xs))):TyOf K H (.ref a) (.type "list")
|tup {a:aB} {xs:List V} (e:H a=zo (.tup xs)):TyOf K H (.ref a) (.type "tuple")
|dK {a:aB} {kvs:List (Key×V)} (e:H a=zo (.dK kvs)):TyOf K H (.ref a) (.type "dict")
|dT {a:aB} {kvs:List (HK×V)} (e:H a=zo (.dT kvs)):TyOf K H (.ref a) (.type "dict")
| ins {a C dx:aB} {fs:List (Str × V)} (e:H a=zo (.ins C dx fs)) (cl:Cls K C) (ha:di K (.ref C) "__class__" = zo (zo (.builtin "object.__class__")))
  (hn:gi K (.builtin "object.__class__") "__get__"=zo (zo (.builtin "getset_descriptor.__get__"))) (htk:gj K (.builtin "object.__class__")=zo zb)
  (hm:fO K C (.type "object")=zo zb):TyOf K H (.ref a) (.ref C)
def Qgh{u:aA}(I:Inv X pins σ H s)(j:RelV x u)(ty:TyOf X.K H x t)(e:br X.K t c=zo b)(h:∀tk,Q (.bool b) {s with toks:=tk}):
  aF (aI X.prog X.w) A (call (.builtin "isinstance") [u,c]) Q E s:=by
 cases ty with
|non=>cases (show u=bi from j);exact cG PySem.W.kitx_none I.kIn True.intro e (λz=>nomatch z) h
|bl y=>cases (show u=cK y from j);exact cG PySem.W.kitx_bool I.kIn True.intro e (λz=>nomatch z) h
|int i=>obtain⟨t,q⟩:=(show ∃t,u=df i t from j);cases q;exact cG PySem.W.kitx_int I.kIn True.intro e (λz=>nomatch z) h
|str y=>obtain⟨t,q⟩:=(show ∃t,u=eC y t from j);cases q;exact cG PySem.W.kitx_str I.kIn True.intro e (λz=>nomatch z) h
|flt y=>obtain⟨t,q⟩:=(show ∃t,u=gW y t from j);cases q;exact cG PySem.W.kitx_float I.kIn True.intro e (λz=>nomatch z) h
| @lst a xs G=>
  cases (show u=bc a from j);obtain⟨_,_,n,_,h1⟩:=(show ObjOk X.prog X.w H s.heap a (.lst xs)from I.hok a _ G);exact cG gk I.kIn ⟨_,h1,rfl⟩ e (λz=>nomatch z) h
| @frz a ob xs G=>
  cases (show u=bc a from j);obtain⟨_,_,_,n,_,h1⟩:=(show ObjOk X.prog X.w H s.heap a (.frz ob (.lst xs))from I.hok a _ G);exact cG gk I.kIn ⟨_,h1,rfl⟩ e (λz=>nomatch z) h
| @tup a xs G=>
  cases (show u=bc a from j);obtain⟨_,_,_,p⟩:=(show ObjOk X.prog X.w H s.heap a (.tup xs)from I.hok a _ G);obtain⟨o,h1,h2,_⟩:=p;exact cG PySem.W.kitx_tuple I.kIn ⟨o,h1,h2⟩ e (λz=>nomatch z) h
| @dK a S G=>
  cases (show u=bc a from j);obtain⟨_,_,vs,_,p⟩:=(show ObjOk X.prog X.w H s.heap a (.dK S)from I.hok a _ G);obtain⟨o,es,ep,h1,h2,_⟩:=p;exact cG gm I.kIn ⟨o,h1,h2.1⟩ e (λz=>nomatch z) h
| @dT a S G=>
  cases (show u=bc a from j);obtain⟨_,_,xs,_,o,es,ep,h1,h2,_⟩:=(show ObjOk X.prog X.w H s.heap a (.dT S)from I.hok a _ G);exact cG gm I.kIn ⟨o,h1,h2.1⟩ e (λz=>nomatch z) h
| @ins a C dx fs G cl Y Z U hm=>
  cases (show u=bc a from j);obtain⟨mA,O,_⟩:=Qrj I.hok G;obtain⟨od,J,_⟩:=O.look;exact cG (PySem.W.kitx_own (cl.get _) cl.hd Y Z U hm) I.kIn J e (λz=>nomatch z) h
end
structure Room(k:Nat)(A:aO):Prop where
hd:A.handled=zl
dp:A.depth+3*k+5<recursionLimit
un:A.units+16*k+200<aS
def Room.mono(r:Room k A)(h:j<=k):Room j A:=⟨r.hd,by have:=r.dp;omega,by have:=r.un;omega⟩
def Room.deeper(r:Room (k+1) A)env:Room k (A.deeper env):=
 ⟨r.hd,by have:=r.dp;show A.depth+1+3*k+5<_;omega,by have:=r.un;show A.units+3+16*k+200<_;omega⟩
def Room.depth(r:Room k A):A.depth<recursionLimit:=by have:=r.dp;omega
def Room.units(r:Room k A):A.units+64<aS:=by have:=r.un;omega
def Qxj:TA:=λ_ H Q=>Q [] H
def Qsq(ta:TE)(tr:TA):TA:=λσ H Q=>ta σ H λx H1=>tr σ H1 λxs H2=>Q (x::xs) H2
variable{es:List aH}
section
variable{e:aH}{t:TA}
def Jb:PA X [] Qxj:=λ_ _ _ _ H Q I h=>Calls.spliced_nil ⟨[],H,I,.nil,h⟩
def Qk(S:PE X e te)(j:PA X es t)(hs:aN (e::es) X.env=(yo,aM e X.env)::aN es X.env:=by rfl):PA X (e::es) (Qsq te t):=by
 intro pos pins s σ H Q I h;rw[hs];show aF _ _ (spliced ((yo,aM e X.env)::aY pos (aN es X.env))) _ _ s;refine Calls.spliced_cons (thn (S pins s σ H _ I h) λu s1 ⟨x,H1,z,J,O⟩=>?_)
 exact thn (j pos pins s1 σ H1 _ z O) λZ Y ⟨xs,H2,G,q,U⟩=>⟨x::xs,H2,G,.cons J q,U⟩
def J1f(t:TA):TE:=λσ H Q=>t σ H λxs H1=>xs.length<=sizeLine/\∀p,H1 p=zl->Q (.ref p) (upd H1 p (.tup xs))
def Qxk(t:TA):TE:=λσ H Q=>t σ H λxs H1=>xs.length<=sizeLine/\∀p,H1 p=zl->Q (.ref p) (upd H1 p (.lst xs))
def Quf{x1}(h:PA X es t):PE X (.Tuple es x1 pos) (J1f t):=by
 intro pins s σ H Q I O;refine wpAny_Tuple_spliced (thn (h pos pins s σ H _ I O) λJ s1 ⟨xs,H1,j,r,z,q⟩=>⟨by rw[<- r.length];exact z,?_⟩)
 have G:H1 s1.heap.objs.size=zl:=j.hok.fresh (O6 _);refine⟨.ref s1.heap.objs.size,upd H1 s1.heap.objs.size (.tup xs),j.laid (t':=s1.toks) (λb u e=>O4 _ e) (O6 _) ?_,rfl,q _ G⟩;exact⟨z,J,r,⟨_,D4 _ rfl,rfl,_,rfl⟩⟩
def Qbx(h:PA X es t):PE X (.List es pos) (Qxk t):=by
 intro pins s σ H Q I O;refine wpAny_List_spliced (thn (h pos pins s σ H _ I O) λJ s1 ⟨xs,H1,j,r,z,q⟩=>⟨by rw[<- r.length];exact z,?_⟩)
 have G:H1 s1.heap.objs.size=zl:=j.hok.fresh (O6 _);refine⟨.ref s1.heap.objs.size,upd H1 s1.heap.objs.size (.lst xs),j.laid (t':=s1.toks) (λb u e=>O4 _ e) (O6 _) ?_,rfl,q _ G⟩;exact⟨z,J,0,r,D4 _ rfl⟩
end
abbrev Sp:=List V->Hp->VK->XK->Prop
abbrev CXT:=List Env->Hp->aC->XK->aA->aC->Prop
structure Env0(P:aK)(w:aJ)(K:bZ)(mg:zAE)(base:Heap)(A:aO)(outer:List Env)(s:aC)(H:Hp):Prop where
frames:A.frames=zo outer
mod:Mod K mg base
bs:∀b o,base.get? b=zo o->s.heap.get? b=zo o/\H b=zl
bsz:base.objs.size<=s.heap.objs.size
funs:s.heap.FunFrames base outer
frf:∀b∈frs outer,H b=zl
hok:HOk P w H s.heap
bare:AllBare s.gens
def CE(outer:List Env)(P:aK)(w:aJ)(H:Hp)(s:aC)(Q:VK)(u:aA)(s':aC):Prop:=
 ∃v H',s'.os=s.os/\AllBare s'.gens/\Un (frs outer) [] H H' s.heap s'.heap/\HOk P w H' s'.heap/\RelV v u/\Q v H'
def CR(CX:CXT)(outer:List Env)(P:aK)(w:aJ)(H:Hp)(s:aC)(Q:VK)(E:XK)(r:Result)(s':aC):Prop:=
 match r with
|.ok (.ret u)=>CE outer P w H s Q u s'
|.ok _=>False
|.error e=>CX outer H s E e s'
structure FnOk(P:aK)(w:aJ)(K:bZ)(mg:zAE)(base:Heap)(CX:CXT)(k:Nat)(f:aB)(fd:aP)(ps:List Str)(sp:Sp):Prop where
len:∀vs H Q E,sp vs H Q E->vs.length=ps.length
run:∀(A:aO)(outer:List Env)(s:aC)(H:Hp)(args:Args)(us:List aA)(vs:List V)(Q:VK)(E:XK),Room k A->Env0 P w K mg base A outer s H->BindsTo s fd args (ps.zip us)->Vals vs us->sp vs H Q E->
 codeAny (aI P w) A (.call (.ref f) args) (CR CX outer P w H s Q E) s
def FnOk.imp {P:aK} {w:aJ} {K:bZ} {mg:zAE} {base:Heap} {CX:CXT} {k:Nat} {f:aB} {fd:aP} {ps:List Str} {sp j:Sp} (F:FnOk P w K mg base CX k f fd ps sp)
  (h:∀vs H Q E,j vs H Q E->sp vs H Q E):FnOk P w K mg base CX k f fd ps j:=
 ⟨λvs H Q E q=>F.len vs H Q E (h _ _ _ _ q),λA outer s H args J vs Q E z O G I hs=>F.run A outer s H args J vs Q E z O G I (h _ _ _ _ hs)⟩
variable{s':aC}
section
variable{σ:St}
def Inv.env0(I:Inv X pins σ H s):Env0 X.prog X.w X.K X.mg X.base X.A X.stack s H:=
 ⟨I.ok.frames,I.ok.mod,I.bs,E8 I.ok.bsz I.sz,I.stack,I.stkFree,I.hok,I.bare⟩
def Inv.after{Q:VK}{u:aA}(I:Inv X pins σ H s)(h:CE X.stack X.prog X.w H s Q u s'):EP X pins σ Q u s':=by
 obtain⟨v,H',os,bare,un,hok,r,q⟩:=h;obtain⟨G,g,d,t,j⟩:=s';obtain rfl:j=s.os:=os;exact⟨v,H',I.call (h':=G) (g':=g) (d':=d) (t':=t) (ch:=[]) un hok bare (λb z=>absurd z (by simp)),r,q⟩
end
def Qxq(sp:Sp)(dvs:List V)(E:XK)(t:TA):TE:=λσ H Q=>t σ H λvs H1=>sp (vs++dvs) H1 Q E
def Binds(K:bZ)(fd:aP)(ps:List Str)(ds:List aA):Prop:=
 ∀(s:aC)(us:List aA),K.In s.heap->(us++ds).length=ps.length->BindsTo s fd ⟨us,[]⟩ (ps.zip (us++ds))
def Binds.all{K:bZ}{fd:aP}{ps:List Str}(h:∀j:List aA,j.length=ps.length->bindArgs fd ⟨j,[]⟩=pure (ps.zip j)):Binds K fd ps []:=λs j _ q=>by
 rw[G9]at q ⊢;exact .of_eq (h j q)
def Q55(CX:CXT)(X:Cx)(E:XK):Prop:=∀(pins:zAA)(σ:St)(H:Hp)(s:aC)(e:aA)(s':aC),Inv X pins σ H s->CX X.stack H s E e s'->X.xe e s'
variable{CX:CXT}{k:Nat}{f:aB}{fd:aP}{ps:List Str}{sp:Sp}{dvs:List V}{ds:List aA}{m:Str}{p apos:Pos}
section
variable{E:XK}{x:Str}{e o:aH}{t:TA}
def Qu3{σ:St}{Q:VK}(F:FnOk X.prog X.w X.K X.mg X.base CX k f fd ps sp)(G:Room k X.A)(J:Binds X.K fd ps ds)(hd:Vals dvs ds)(O:Q55 CX X E)(I:Inv X pins σ H s)(r:Vals vs j)(h:sp (vs++dvs) H Q E):aF (aI X.prog X.w) X.A (call (.ref f) j) (EP X pins σ Q) X.xe s:=by
 have z:Vals (vs++dvs) (j++ds):=r.append hd;have S:(j++ds).length=ps.length:=by rw[<- z.length];exact F.len _ _ _ _ h
 refine wpAny_call (bN (F.run X.A X.stack s H ⟨j,[]⟩ (j++ds) (vs++dvs) Q E G I.env0 (J s j I.kIn S) z h) λr s' q=>?_)
 cases r with
|error e=>exact O pins σ H s e s' I q
|ok fl=>
  cases fl with
  |ret u=>exact I.after q
  |next=>exact False.elim q
  |brk=>exact False.elim q
  |cont=>exact False.elim q
def Qdu (F:FnOk X.prog X.w X.K X.mg X.base CX k f fd ps sp) (J:Room k X.A) (O:Gl X x) (hm:X.mg x=zo (.ref f)) (hk:cL X.K (.ref f)=zb) (S:Binds X.K fd ps ds) (hd:Vals dvs ds) (U:Q55 CX X E)
  (Z:PA X (e::es) t) (j:(x==("__debug__":Str))=yo:=by decide) (Y:aN (e::es) X.env=(yo,aM e X.env)::aN es X.env:=by rfl) (z:(aY pos (aN es X.env)).any (·.1)=yo:=by rfl):
  PE X (.Call (.Name x p) (e::es) [] pos) (Qxq sp dvs E t):=by
 intro pins s σ H Q I h;refine wpAny_Call_Name_kw (Q0e I O hm ?_ j);refine gq (h₀:=X.base) I.ok.mod.kin hk (thn (Z pos pins s σ H _ I h) λus s1 ⟨vs,H1,G,r,q⟩=>⟨G.kIn,?_⟩) Y z
 exact Qu3 F J S hd U G r q
end
structure FnScope(N P:List Str)(sc:Scope):Prop where
kind:sc.kind=.function
co:sc.isCoroutine=yo
gen:sc.isGenerator=yo
nd:N.Nodup
pre:N.take P.length=P
par:∀x∈P,sc.names.lookup x=zo .local\/sc.names.lookup x=zo .cell
nofree:∀y∈sc.names,y.2≠.free
def Q6q{kindOf:Str->Option aw}{x:Str}:∀{binds:List (Str×aA)}{m:zAE},(∀v,(x,v)∉binds)->bindL kindOf binds m x=m x
|[],_,_=>rfl
|(n,v)::r,m,h=>by
  unfold bindL;rw[Q6q λw j=>h w (O3 _ j)]
  split
  ·have:x≠n:=by rintro rfl;exact h v E7
   simp[this]
  ·rfl
def Q6s{kindOf:Str->Option aw}{x:Str}:∀{binds:List (Str×aA)}{m:zAE},(∀v,(x,v)∉binds)->bindC kindOf binds m x=m x
|[],_,_=>rfl
|(n,v)::r,m,h=>by
  unfold bindC;rw[Q6s λw j=>h w (O3 _ j)]
  split
  ·rfl
  ·have:x≠n:=by rintro rfl;exact h v E7
   simp[this]
def Q6r{kindOf:Str->Option aw}:∀{P:List Str}{vs:List aA}{i:Nat}{m:zAE},P.Nodup->P[i]?=zo x->vs[i]?=zo v->kindOf x=zo .local->
  bindL kindOf (P.zip vs) m x=zo v
|[],_,_,_,_,h,_,_=>by simp at h
|_::_,[],_,_,_,_,h,_=>by simp at h
|p::P,w::vs,0,m,nd,h1,h2,j=>by
  simp at h1 h2;subst h1;subst h2;show bindL kindOf ((p,w)::P.zip vs) m p=_;unfold bindL;rw[Q6q λv q=>(cp.mp nd).1 (fP q).1,bU j]
  simp
|p::P,w::vs,i+1,m,nd,h1,h2,j=>by
  show bindL kindOf ((p,w)::P.zip vs) m x=_;unfold bindL;exact Q6r (i:=i) (cp.mp nd).2 (by simpa using h1) (by simpa using h2) j
def Q6t{kindOf:Str->Option aw}:∀{P:List Str}{vs:List aA}{i:Nat}{m:zAE},P.Nodup->P[i]?=zo x->vs[i]?=zo v->kindOf x≠zo .local->
  bindC kindOf (P.zip vs) m x=zo v
|[],_,_,_,_,h,_,_=>by simp at h
|_::_,[],_,_,_,_,h,_=>by simp at h
|p::P,w::vs,0,m,nd,h1,h2,j=>by
  simp at h1 h2;subst h1;subst h2;show bindC kindOf ((p,w)::P.zip vs) m p=_;unfold bindC;rw[Q6s λv q=>(cp.mp nd).1 (fP q).1,bV j]
  simp
|p::P,w::vs,i+1,m,nd,h1,h2,j=>by
  show bindC kindOf ((p,w)::P.zip vs) m x=_;unfold bindC;exact Q6t (i:=i) (cp.mp nd).2 (by simpa using h1) (by simpa using h2) j
def start(N:List Str)(vs:List V):St:=vs.map zo++bh (N.length-vs.length) zl
def Qgv(CX:CXT)(P:aK)(w:aJ)(K:bZ)(mg:zAE)(base:Heap)(N:List Str)(qual:Str)(scope:Scope)(f:aB)(cd:aA)(A:aO)(outer:List Env)(s:aC)(H:Hp)(E:XK):Cx where
 prog:=P
 w:=w
 K:=K
 mg:=mg
 base:=base
 A:=A.deeper (envOfC qual scope s.heap.objs.size f cd)
 N:=N
 s₀:=s
 H₀:=H
 env:=envOfC qual scope s.heap.objs.size f cd
 outer:=outer
 stack:=envOfC qual scope s.heap.objs.size f cd::outer
 ex:=[]
 calm:=zb
 fn:=λ_=>zb
 pn:=[]
 xe:=λe s'=>aF (aI P w) (A.deeper (envOfC qual scope s.heap.objs.size f cd)) (leaving (envOfC qual scope s.heap.objs.size f cd) e) (λ_ s''=>CX outer H s E e s'') (λe' s''=>CX outer H s E e' s'') s'
def Qb0{sc:Scope}(h:sc.names.lookup x=zo .cell):∃c,(aq n sc.names []).lookup x=zo c:=by
 have q:=fQ sc.names n [] (.inl h);exact eH.mp q
def Qgj {CX:CXT} {P:aK} {w:aJ} {K:bZ} {mg:zAE} {base:Heap} {N ps:List Str} {qual:Str} {scope:Scope} {f:aB} {cd:aA} {A:aO} {outer:List Env} {s s1:aC} {H:Hp} {E:XK} {U:List aA} {vs:List V}
  (S:FnScope N ps scope) (hd:A.handled=zl) (j:Env0 P w K mg base A outer s H) (hl:vs.length=ps.length) (r:Vals vs U)
  (x:InCallC s s.heap.objs.size (bindL (envOfC qual scope s.heap.objs.size f cd).kindOf (ps.zip U) λ_=>zl) (aq (s.heap.objs.size+1) scope.names []) (bindC (envOfC qual scope s.heap.objs.size f cd).kindOf (ps.zip U) λ_=>zl) s1):
  Inv (Qgv CX P w K mg base N qual scope f cd A outer s H E) [] (start N vs) H s1:=by
 have a1:ps.length<=N.length:=by have:=congrArg dL S.pre;rw[cN]at this;omega
 obtain⟨h1,tk,rfl,Z⟩:=x.done;have G:∀b:aB,b∉(Qgv CX P w K mg base N qual scope f cd A outer s H E).ex:=λb z=>absurd (show b∈([]:List aB)from z) (by simp)
 refine⟨⟨j.mod,S.kind,rfl,rfl,O6 _,λy z c h1 h2=>?_,λy I=>?_,λy c _ h=>?_,λ_=>hd,Around.frames_deeper j.frames,.inr ⟨rfl,rfl⟩,λb z=>absurd z (G b),j.bs,j.bsz,λb _ _=>G b,λb z=>absurd z (G b),j.funs,j.frf⟩,
  rfl,j.bare,Un.kept Z,⟨_,x.toInCall.ns,λi y v h1 h2 h3=>?_⟩,λy c h=>⟨_,x.cell y c h⟩,j.hok.fresh (O6 _),λy c h=>?_,λp O=>absurd (show p∈([]:zAA)from O) (by simp),j.hok.kept Z,?_⟩
 ·exact name_of_addr x.apart (cX h1) (cX h2)
 ·have I:scope.names.lookup y=zo .cell\/scope.names.lookup y=zo .free:=I;rcases I with I|I
  ·exact Qb0 I
  ·exact absurd rfl (S.nofree _ (cX I))
 ·exact dH (x.above y c (cX h))
 ·have hi:i<vs.length:=by
   unfold start at h2
   by_cases hi:i<vs.length
   ·exact hi
   ·rw[E4 (by simpa using hi)]at h2;rw[fS]at h2
    split at h2<;>cases h2
  have ha:vs[i]?=zo v:=by
   unfold start at h2;rw[O7 (by simpa using hi),D8]at h2;cases e:vs[i]? with
   |none=>rw[e]at h2;cases h2
   |some a=>rw[e]at h2;cases h2;rfl
  obtain⟨u,Y,rv⟩:=r.get ha;have O:ps[i]?=zo y:=by
   rw[<- S.pre,List.getElem?_take_of_lt ()];exact h1
  have J:ps.Nodup:=by rw[<- S.pre];exact S.nd.sublist (gr _ _)
  refine⟨u,rv,?_⟩;rcases S.par y (E6 O)with k|k
  ·exact .inl ⟨k,Q6r J O Y k⟩
  ·obtain⟨c,e⟩:=Qb0 (n:=s.heap.objs.size+1) k;refine .inr ⟨.inl k,c,e,?_⟩;have q:=x.cell y c e;rw[Q6t J O Y (by show scope.names.lookup y≠_;rw[k];decide)]at q;exact q
 ·exact j.hok.fresh (dH (x.above y c (cX h)))
 ·unfold start;show _=N.length;rw[O5,O1,fT];omega
def Qzw{K:bZ}{kV:aA}(lk:K.lookup f=zo ⟨oc,od,.func (cB name qual z body scope dV kV Z pm an j ct),a2⟩)(a1:cv K j qual=zb)(S:FnScope N ps scope)(len:∀vs H Q E,sp vs H Q E->vs.length=ps.length)(U:∀(A:aO)outer(s:aC)H vs(Q:VK)E,Room k (A.deeper (envOfC qual scope s.heap.objs.size f j))->sp vs H Q E->
   ∃t,PSs (Qgv CX P w K mg base N qual scope f j A outer s H E) body t/\t {nx:=λ_ H'=>Q .non H',rt:=Q} (start N vs) H):
  FnOk P w K mg base CX (k+1) f (cB name qual z body scope dV kV Z pm an j ct) ps sp:=by
 refine⟨len,λA outer s H args us vs Q E hr e0 hb r Y=>?_⟩;have hl:=len _ _ _ _ Y;have KX:K.In s.heap:=e0.mod.kin.keeps λb o e=>(e0.bs b o e).1
 have lim:s.heap.NoLimit:=e0.mod.nolimit.keeps λb o e=>(e0.bs b o e).1
 have O:∀y∈ps.zip us,scope.names.lookup y.1=zo .local\/(scope.names.lookup y.1=zo .cell/\((aq (s.heap.objs.size+1) scope.names []).lookup y.1).isSome=zb):=λ⟨n,v⟩ hy=>by
  rcases S.par n (fP hy).1 with q|q
  ·exact .inl q
  ·exact .inr ⟨q,fQ _ _ _ (.inl q)⟩
 refine codeAny_call_function hr.depth (KX _ _ lk) rfl S.co S.gen rfl (PySem.W.codeRec_of KX a1) (hb _ _ _ _ ?_);refine wpAny_newFunctionEnv_cells S.kind O λenv he s1 x=>?_
 subst he;refine⟨lim.keeps x.toInCall.keep,codeAny_func ?_⟩;obtain⟨t,ht,hq⟩:=U A outer s H vs Q E (hr.deeper _) Y;have I:Inv (Qgv CX P w K mg base N qual scope f j A outer s H E) [] (start N vs) H s1:=Qgj S hr.hd e0 hl r x;refine ak (ht [] s1 (start N vs) H _ I hq) (λfl s' hs=>?_) λe s' hs=>hs
 have fin:∀{G:St}{H':Hp}{v:V}{u:aA},Inv (Qgv CX P w K mg base N qual scope f j A outer s H E) [] G H' s'->RelV v u->Q v H'->CE outer P w H s Q u s':=
  λ{G H' v u} J rv q=>⟨v,H',J.os,J.bare,J.base,J.hok,rv,q⟩
 cases fl with
|ret u=>
  obtain⟨v,G,H',J,rv,q⟩:=hs;exact fin J rv q
|next=>
  obtain⟨G,H',J,q⟩:=hs;exact fin (v:=V.non) (u:=bi) J rfl q
|brk=>
  obtain⟨_,_,_,q⟩:=hs;exact False.elim q
|cont=>
  obtain⟨_,_,_,q⟩:=hs;exact False.elim q
variable{T:String}{r:List V->Hp->VK->Prop}
section
variable{x:Str}{e:aH}{t:TA}{id:String}
def tCB(r:List V->Hp->VK->Prop)(t:TA):TE:=λσ H Q=>t σ H λvs H1=>r vs H1 Q
def Jd (G:W6 X (.builtin id) r) (z:Gl X x) (hm:X.mg x=zl) (J:aX x=zo (.builtin id)) (ha:PA X (e::es) t) (hn:x≠"__name__":=by decide) (j:(x==("__debug__":Str))=yo:=by decide)
  (Y:aN (e::es) X.env=(yo,aM e X.env)::aN es X.env:=by rfl) (q:(aY pos (aN es X.env)).any (·.1)=yo:=by rfl):PE X (.Call (.Name x p) (e::es) [] pos) (tCB r t):=by
 intro pins s σ H Q I h;refine wpAny_Call_Name_kw (xb I z hm J ?_ hn j);exact kE (thn (ha pos pins s σ H _ I h) λO s1 ⟨vs,H1,S,U,Z⟩=>G pins s1 σ H1 vs O Q S U Z) Y q
def zc (G:W6 X (.type T) r) (z:Gl X x) (hm:X.mg x=zl) (J:aX x=zo (.type T)) (ha:PA X (e::es) t) (hn:x≠"__name__":=by decide) (j:(x==("__debug__":Str))=yo:=by decide)
  (Y:aN (e::es) X.env=(yo,aM e X.env)::aN es X.env:=by rfl) (q:(aY pos (aN es X.env)).any (·.1)=yo:=by rfl):PE X (.Call (.Name x p) (e::es) [] pos) (tCB r t):=by
 intro pins s σ H Q I h;refine wpAny_Call_Name_kw (xb I z hm J ?_ hn j);exact dg (thn (ha pos pins s σ H _ I h) λO s1 ⟨vs,H1,S,U,Z⟩=>G pins s1 σ H1 vs O Q S U Z) Y q
end
end L2
namespace HT
open PySem PyProof.Rows
def lexLt:List Int->List Int->Bool
|[],[]=>yo
|[],_::_=>zb
|_::_,[]=>yo
|x::xs,y::ys=>if x=y then lexLt xs ys else decide (x<y)
def Qcd x y xs ys:lexLt (x::xs) (y::ys)=if x=y then lexLt xs ys else decide (x<y):=rfl
def Q5e:lexLt [] []=yo:=rfl
def Q4d y ys:lexLt [] (y::ys)=zb:=rfl
def Q4e x xs:lexLt (x::xs) []=yo:=rfl
def Qmn A s a t c u:∃e,SeqAt.EqAt A s (.int a t) (.int c u) e/\(e=zb<->a=c):=
 ⟨(a==c),SeqAt.EqAt.int_int a t c u,by simp⟩
def Qim A s a t c u prog w(E:aA->aC->Prop)(Q:aA->aC->Prop)(h:Q (.bool (decide (a<c))) s):
  aF (aI prog w) A (richCompare .Lt (.int a t) (.int c u)) Q E s:=
 (kF h:aF (aI prog w) A (aV .Lt (.int a t) (.int c u)) Q E s)
section
open PySem.SeqAt
open PySem.AutoSeq1 (wpAny_loadPart')
open PySem.MeetsSeq PySem.MeetsSeq2 PySem.MeetsSeq3
def Q59 l b(z j:Array aA)n n2 dd a5 sl a7 ns ms(hi:IntsAre z.toList ns)(hj:IntsAre j.toList ms):
  Meets (Builtin.«tuple.__lt__» ⟨[.ref l,.ref b],[]⟩)
   (λ_ R s=>s.heap.get? l=zo {cls:=.type "tuple",dict:=dd,data:=.seq z n,slots:=sl}/\s.heap.get? b=zo {cls:=.type "tuple",dict:=a5,data:=.seq j n2,slots:=a7}/\
    R (.ok (.ret (.bool (lexLt ns ms)))) s):=
 .of_wp λprog w A R s h=>by
  obtain⟨hp,g,d,tk,os⟩:=s;obtain⟨hl,hb,h⟩:=h;have f2:=AutoSeq1.sub_tuple_tuple;have z1:z.size=ns.length:=by rw[<- hi.length];simp
  have z2:j.size=ms.length:=by rw[<- hj.length];simp
  wp_walk using wpAny_loadPart' hl,wpAny_loadPart' hb,wpAny_forIn_list _ (λrest b s'=>b.1=zl/\s'=⟨hp,g,d,tk,os⟩/\∃(vs ws:List aA)(I J:List Int),rest=vs.zip ws/\
   IntsAre vs I/\IntsAre ws J/\I.length+j.size=J.length+z.size/\R (.ok (.ret (.bool (lexLt I J)))) ⟨hp,g,d,tk,os⟩) _
  case turn=>
   rintro ⟨y,x⟩ rest b s' ⟨a1,rfl,vs,ws,I,J,hz,Y,O,G,U⟩;cases Y with
   |nil=>rw[List.zip_nil_left]at hz;cases hz
   |cons a t a3=>
    cases O with
    |nil=>rw[List.zip_nil_right]at hz;cases hz
    |cons c u a2=>
     rw[eI]at hz;injection hz with a4 Z
     injection a4 with hy hx
     subst hy hx;rw[Qcd]at U;simp only[D6]at G;obtain⟨e,he,S⟩:=Qmn A.in1 ⟨hp,g,d,tk,os⟩ a t c u;refine aD (he prog w _ _ ?_);cases e with
     |true=>
      rw[bU (S.mp rfl)]at U
      wp_walk
      exact⟨rfl,rfl,_,_,_,_,Z,a3,a2,by omega,U⟩
     |false=>
      rw[bV (λq=>absurd (S.mpr q) O9)]at U
      have a6:=Qim A.in1 ⟨hp,g,d,tk,os⟩ a t c u prog w
      wp_walk using a6
      exact⟨_,rfl,by simpa using U⟩
  case fin=>
   rintro ⟨b1,b2⟩ s' ⟨a1,rfl,vs,ws,I,J,hz,Y,O,G,U⟩;simp only at a1;subst a1;have hv:lexLt I J=decide (z.size<j.size):=by
    cases Y with
    |nil=>
     cases O with
     |nil=>
      simp only[cO]at G;rw[Q5e];exact(bW ()).symm
     |cons c u hw=>
      simp only[cO,D6]at G;rw[Q4d];exact(bY ()).symm
    |cons a t hv=>
     cases O with
     |nil=>
      simp only[cO,D6]at G;rw[Q4e];exact(bW ()).symm
     |cons c u hw=>
      rw[eI]at hz;cases hz
   rw[hv]at U
   wp_walk
   exact⟨_,rfl,by simpa[Builtin.Tuple.tupleCompareSizes]using U⟩
  case h=>
   exact⟨rfl,rfl,z.toList,j.toList,ns,ms,rfl,hi,hj,by omega,h⟩
end
variable{prog:aK}{A:aO}{E:aA->aC->Prop}{s:aC}
section
variable{w:aJ}
def lt_tupInts{q j:Array aA}{Q:aA->aC->Prop}(S:IsTup s.heap l q)(J:IsTup s.heap b j)(hi:IntsAre q.toList ns)(Y:IntsAre j.toList ms)(U:A.units<aS)(h:Q (.bool (lexLt ns ms)) s):aF (aI prog w) A (aV .Lt (.ref l) (.ref b)) Q E s:=by
 obtain⟨⟨cls,dd,data,O⟩,ho,hc,n,hd⟩:=id S;obtain⟨⟨I,z,data2,G⟩,ho2,hc2,n2,hd2⟩:=id J;simp only at hc hd hc2 hd2;subst hc hd hc2 hd2;exact richCompare_meets_room (op:=.Lt) ⟨_,ho,rfl⟩ ⟨_,ho2,rfl⟩ PySem.F.slot_tuple_lt PySem.F.entry_tuple_lt (PySem.F.args_tuple_lt_2 _ _) (Q59 l b q j n n2 dd z O G ns ms hi Y)
  ⟨ho,ho2,show cK (lexLt ns ms)≠gu/\Q (.bool (lexLt ns ms)) s from⟨(λx=>nomatch x),h⟩⟩ U
def cat_tup{vs ws:List aA}{Q:aA->aC->Prop}(O:IsTup s.heap t vs.toArray)(S:IsTup s.heap b ws.toArray)(G:vs≠[])(h1:ws=[]->Q (.ref t) s)(h2:ws≠[]->Q (.ref s.heap.objs.size) {s with heap:=s.heap.push {cls:=.type "tuple",data:=.seq (vs++ws).toArray}})(hsz:vs.length+ws.length<=sizeLine):aF (aI prog w) A (aZ .Add (.ref t) (.ref b)) Q E s:=by
 obtain⟨⟨cls,dd,data,I⟩,ho,hc,n,hd⟩:=id O;obtain⟨⟨J,j,data2,q⟩,ho2,hc2,n2,hd2⟩:=id S;simp only at hc hd hc2 hd2;subst hc hd hc2 hd2;have e:vs.toArray++ws.toArray=(vs++ws).toArray:=by simp
 by_cases z:ws=[]
 ·exact concat_meets ⟨_,ho,rfl⟩ ⟨_,ho2,rfl⟩ noFill_tuple_add seq_tuple_add fU fV (fW _ _)
   (tuple_addW1 t b vs.toArray ws.toArray n n2 dd j I q (by simpa using G) (by simp[z])) ⟨ho,ho2,h1 z⟩
 ·refine concat_meets ⟨_,ho,rfl⟩ ⟨_,ho2,rfl⟩ noFill_tuple_add seq_tuple_add fU fV (fW _ _)
   (tuple_addW2 t b vs.toArray ws.toArray n n2 dd j I q (by simpa using G) (by simpa using z) (by rw[O8,O8];exact hsz)) ⟨ho,ho2,?_⟩
  rw[e];exact h2 z
def sIx(n d:Nat):Option Int->Nat
|none=>d
|some v=>if v<0 then(v+(n:Int)).toNat else min v.toNat n
def sIx_none n d:sIx n d zl=d:=rfl
def sIx_nat(n d k:Nat):sIx n d (zo (k:Int))=min k n:=by
 show(if(k:Int)<0 then((k:Int)+(n:Int)).toNat else min (k:Int).toNat n)=min k n;rw[bV (),bw]
def Qu2 n d(hd:d<=n)o:sIx n d o<=n:=by
 cases o with
|none=>exact hd
|some v=>
  show(if v<0 then(v+(n:Int)).toNat else min v.toNat n)<=n
  by_cases j:v<0
  ·rw[bU j];omega
  ·rw[bV j];exact fY _ _
def min_cast(k n:Nat):min (k:Int) n=((min k n:Nat):Int):=by
 rcases fZ k n with q|q
 ·rw[eJ q,gv (gy.mpr q)]
 ·rw[fb q,Int.min_eq_right (gy.mpr q)]
def Qeq(v:Int)(n d:Nat):(if v<0 then max (v+(n:Int)) 0 else min v (n:Int))=((sIx n d (zo v):Nat):Int):=by
 show(if v<0 then max (v+(n:Int)) 0 else min v (n:Int))=(((if v<0 then(v+(n:Int)).toNat else min v.toNat n):Nat):Int)
 by_cases j:v<0
 ·rw[bU j,bU j,gz]
 ·obtain⟨k,rfl⟩:=hJ (hU.mp j);rw[bV j,bV j,bw,min_cast]
def Qd7(lo hi:Option Int)(n:Nat):Builtin.Slice.sliceAdjust lo hi 1 (n:Int)=(((sIx n 0 lo:Nat):Int),((sIx n n hi:Nat):Int)):=by
 have h1:¬((1:Int)<0):=by omega
 unfold Builtin.Slice.sliceAdjust;simp only[h1,if_false];refine cw ?_ ?_
 ·cases lo with
  |none=>rfl
  |some v=>exact Qeq v n 0
 ·cases hi with
  |none=>rfl
  |some v=>exact Qeq v n n
def Qbu(i j:Nat):Builtin.Slice.slicePlaces (i:Int) (j:Int) 1=j-i:=by
 unfold Builtin.Slice.slicePlaces;have h1:(1:Int)>0:=by omega
 simp only[h1,if_true,Int.ediv_one]
 split<;>omega
def Q38{Q:Option Int->aC->Prop}(p:IsPart v o)(h:Q o s):aF (aI prog w) A (Builtin.Slice.slicePartIndex v) Q E s:=by
 cases p with
|none=>exact slicePart_none h
|int i t=>exact slicePart_int h
def Kg {I:aB} {z G:aA} {lo hi:Option Int} {n:Nat} {Q:Int×Int×Nat->aC->Prop} (hs:s.heap.IsSliceOf I z G .none) (S:IsPart z lo) (J:IsPart G hi)
  (h:Q (((sIx n 0 lo:Nat):Int),1,sIx n n hi-sIx n 0 lo) s):aF (aI prog w) A (Builtin.Slice.sliceApplied (.ref I) (pure (n:Int))) Q E s:=by
 obtain⟨os,q,O,j⟩:=id hs;unfold Builtin.Slice.sliceApplied Builtin.Slice.sliceFields;refine aD (aD (ar q j (x:=z) rfl (aD (ar q j (x:=G) rfl (aD (ar q j (x:=.none) rfl (wpAny_pure ?_)))))));refine aD (slicePart_none ?_);show aF _ _ (if((1:Int)==0)=zb then _ else _) _ _ s;rw[bV (by decide)];refine aD (Q38 S (aD (Q38 J (aD (wpAny_pure ?_)))));show aF _ _ (match Builtin.Slice.sliceAdjust lo hi 1 (n:Int)with|(lo,hi)=>pure (lo,(1:Int),Builtin.Slice.slicePlaces lo hi 1)) _ _ s
 rw[Qd7 lo hi n];show aF _ _ (pure (((sIx n 0 lo:Nat):Int),(1:Int),Builtin.Slice.slicePlaces ((sIx n 0 lo:Nat):Int) ((sIx n n hi:Nat):Int) 1)) _ _ s;rw[Qbu];exact wpAny_pure h
def Qjb(xs:Array aA)(i k:Nat):((ba k).filterMap λ(m:Nat)=>xs[((i:Int)+(m:Int)*1).toNat]?).toArray=((xs.toList.drop i).take k).toArray:=by
 have e:(λ(m:Nat)=>xs[((i:Int)+(m:Int)*1).toNat]?)=λm=>xs[i+m]?:=by
  funext m;have:((i:Int)+(m:Int)*1).toNat=i+m:=by omega
  rw[this]
 rw[e];have:=pick_run xs i k;rw[hW]at this;have j:((λx=>xs[x]?)∘λx=>i+x)=λm=>xs[i+m]?:=rfl
 rw[j]at this;rw[this]
def getItem_tuple_cut {t O:aB} {j:Array aA} {Y Z:aA} {lo hi:Option Int} {Q:aA->aC->Prop} (G:IsTup s.heap t j) (hs:s.heap.IsSliceOf O Y Z .none) (pl:IsPart Y lo) (pu:IsPart Z hi)
  (hw:¬(sIx j.size 0 lo=0/\sIx j.size j.size hi=j.size))
  (h:Q (.ref s.heap.objs.size) {s with heap:=s.heap.push {cls:=.type "tuple",data:=.seq ((j.toList.drop (sIx j.size 0 lo)).take (sIx j.size j.size hi-sIx j.size 0 lo)).toArray}})
  (hsz:j.size<=sizeLine):aF (aI prog w) A (getItem (.ref t) (.ref O)) Q E s:=by
 have z:sizeOk (.seq ((j.toList.drop (sIx j.size 0 lo)).take (sIx j.size j.size hi-sIx j.size 0 lo)).toArray):=by
  show((j.toList.drop (sIx j.size 0 lo)).take (sIx j.size j.size hi-sIx j.size 0 lo)).toArray.size<=sizeLine;rw[O8,cN,cx,bj];exact E8 (fY _ _) (E8 (hZ _ _) hsz)
 have hj:sIx j.size j.size hi<=j.size:=Qu2 _ _ (O6 _) hi;obtain⟨os,S,I,a1⟩:=id hs;have U:s.TypeIs (.ref O) "slice":=⟨os,S,I⟩;unfold getItem
 try with_reducible refine ae ?_
 first|refine aD (wpAny_pure ?_)|skip
 refine aD (wpAny_sequenceKey G.typeIs (by decide) ?_);refine aD (wpAny_callSpecial?_slot (name:=cY "__getitem__") G.typeIs eK
  (af eK G.typeIs entry_tuple_getitem ?_ (args_tuple_getitem _ _)))
 show aF _ _ (Builtin.Tuple.tupleItemsOf (.ref t)>>=_) _ _ s;refine aD (tupleItemsOf_ G ?_);refine aD (bG U ?_);rw[bU (by decide)];refine aD (Kg hs pl pu ?_);have J:¬((((sIx j.size 0 lo:Nat):Int)==0&&(1:Int)==1&&(sIx j.size j.size hi-sIx j.size 0 lo)==j.size)=zb):=by
  intro q;rw[F3,F3]at q;have q1:((sIx j.size 0 lo:Nat):Int)=0:=eq_of_beq q.1.1;have q2:sIx j.size j.size hi-sIx j.size 0 lo=j.size:=eq_of_beq q.2;exact hw ⟨by omega,by omega⟩
 show aF _ _ (if(((sIx j.size 0 lo:Nat):Int)==0&&(1:Int)==1&&(sIx j.size j.size hi-sIx j.size 0 lo)==j.size)=zb then _ else _) _ _ s;rw[bV J,Qjb]
 first
  |exact aD (m:=Builtin.Tuple.tupleExact _) (au (wpAny_pure ⟨_,rfl,wpAny_pure h⟩) z)
  |exact aD (m:=Builtin.Tuple.tupleExact _) (au (aD (wpAny_pure (wpAny_pure ⟨_,rfl,wpAny_pure h⟩))) z)
  |exact aD (aD (m:=Builtin.Tuple.tupleExact _) (au (wpAny_pure (wpAny_pure ⟨_,rfl,wpAny_pure h⟩)) z))
  |exact aD (aD (m:=Builtin.Tuple.tupleExact _) (au (wpAny_pure ⟨_,rfl,wpAny_pure h⟩) z))
end
end HT
namespace L2
open PySem PySem.Spec PyProof.Rows
abbrev TO:=St->Hp->(Option Int->Hp->Prop)->Prop
def PO(X:Cx)(e:Option aH)(t:TO):Prop:=
 ∀(pins:zAA)(s:aC)(σ:St)(H:Hp)(Q:Option Int->Hp->Prop),Inv X pins σ H s->t σ H Q->
  aF (aI X.prog X.w) X.A (evalPart e X.env) (λu s'=>∃o H',Inv X pins σ H' s'/\IsPart u o/\Q o H') X.xe s
def Qnt:TO:=λ_ H Q=>Q zl H
def Qxh(t:TE):TO:=λσ H Q=>t σ H λx H1=>∃i,x=.int i/\Q (zo i) H1
def Q4k{ns:List Int}:∀{j:List aA},Vals (ns.map V.int) j->IntsAre j ns:=by
 induction ns with
|nil=>intro j r;rw[fc]at r;cases r;exact .nil
|cons n ns G=>
  intro j r;rw[D3]at r;cases r with
  |cons q z=>
   obtain⟨t,e⟩:=q;subst e;exact .cons n t (G z)
variable{X:Cx}{e:aH}{te:TE}{lo hi:Option aH}{tl th:TO}{pos p2:Pos}
def Qq2:PO X zl Qnt:=by
 intro pins s σ H Q I h;rw[evalPart_none];exact wpAny_pure ⟨zl,H,I,.none,h⟩
def Qq1(h:PE X e te):PO X (zo e) (Qxh te):=by
 intro pins s σ H Q I j;rw[evalPart_some];refine thn (h pins s σ H _ I j) λu s1 ⟨x,H1,z,G,J⟩=>?_
 obtain⟨i,rfl,q⟩:=J;obtain⟨t,rfl⟩:=G;exact⟨zo i,H1,z,.int i t,q⟩
def SlR(X:Cx)(r:V->Option Int->Option Int->Hp->VK->Prop):Prop:=
 ∀(pins:zAA)(s:aC)(σ:St)(H:Hp)(x:V)(v vl vu:aA)(lo hi:Option Int)(sl:aB)(Q:VK),Inv X pins σ H s->RelV x v->s.heap.IsSliceOf sl vl vu .none->IsPart vl lo->IsPart vu hi->r x lo hi H Q->
  ∃T id,typeLookup (.type T) "__getitem__"=pure (zo (.builtin id))/\s.TypeIs v T/\aF (aI X.prog X.w) X.A (getItem v (.ref sl)) (EP X pins σ Q) X.xe s
def SlR.or{r z:V->Option Int->Option Int->Hp->VK->Prop}(h:SlR X r)(h':SlR X z):SlR X (λx lo hi H Q=>r x lo hi H Q\/z x lo hi H Q):=by
 intro pins s σ H x v O S lo hi J Q I G hs U j q;rcases q with q|q
 ·exact h pins s σ H x v O S lo hi J Q I G hs U j q
 ·exact h' pins s σ H x v O S lo hi J Q I G hs U j q
def tSl(r:V->Option Int->Option Int->Hp->VK->Prop)(te:TE)(tl th:TO):TE:=λσ H Q=>te σ H λx H1=>tl σ H1 λl H2=>th σ H2 λu H3=>r x l u H3 Q
def Qjg(hr:SlR X r)(he:PE X e te)(hl:PO X lo tl)(hu:PO X hi th):PE X (.Subscript e (.Slice lo hi zl p2) pos) (tSl r te tl th):=by
 intro pins s σ H Q I h;refine Subscript_ (thn (he pins s σ H _ I h) λv s1 ⟨x,H1,I1,U,q1⟩=>?_)
 refine wpAny_Slice (thn (hl pins s1 σ H1 _ I1 q1) λz S ⟨l,H2,I2,Z,Y⟩=>thn (hu pins S σ H2 _ I2 Y) λG j ⟨u,J,I3,pu,q3⟩=>?_)
 rw[evalPart_none];refine wpAny_pure ?_;have I4:Inv X pins σ J {j with heap:=j.heap.push {cls:=.type "slice",data:=.fields #[z,G,.none]}}:=I3.kept (t':=j.toks) λb ob q=>O4 _ q
 obtain⟨T,id,hT,O,hg⟩:=hr pins {j with heap:=j.heap.push {cls:=.type "slice",data:=.fields #[z,G,.none]}} σ J x v z G l u j.heap.objs.size Q I4 U (Heap.IsSliceOf.new ..) Z pu q3;show aF (aI X.prog X.w) X.A (subscriptTail e (.Slice lo hi zl p2) v (.ref j.heap.objs.size)) (EP X pins σ Q) X.xe {j with heap:=j.heap.push {cls:=.type "slice",data:=.fields #[z,G,.none]}};exact tail_any (ops:=[.ref j.heap.objs.size,v]) O hT hg (by with_unfolding_all rfl)
def Qau(xs:List V)(lo hi:Option Int):List V:=(xs.drop (HT.sIx xs.length 0 lo)).take (HT.sIx xs.length xs.length hi-HT.sIx xs.length 0 lo)
def Q21(xs:List V)lo hi:(Qau xs lo hi).length<=xs.length:=by
 unfold Qau;rw[cN,cx];exact E8 (fY _ _) (hZ _ _)
def J1q(K:bZ):V->Option Int->Option Int->Hp->VK->Prop:=λx lo hi H Q=>∃a xs,x=.ref a/\SqT K H a xs/\
 ¬(HT.sIx xs.length 0 lo=0/\HT.sIx xs.length xs.length hi=xs.length)/\∀p,H p=zl->Q (.ref p) (upd H p (.tup (Qau xs lo hi)))
def sl_tup:SlR X (J1q X.K):=by
 intro pins s σ H x v Z vu lo hi Y Q I S hs U J h;obtain⟨a,xs,rfl,O,G,q⟩:=h;cases S;obtain⟨its,r,z,hz⟩:=I.tuple O;have j:its.toArray.size=xs.length:=by rw[O8];exact r.length.symm
 refine⟨"tuple",_,PyProof.Rows.slot_tuple_getitem.lookup,z.typeIs,?_⟩;refine HT.getItem_tuple_cut z hs U J (by rw[j];exact G) ?_ (by rw[j];exact hz);rw[j];refine⟨.ref s.heap.objs.size,_,I.laid (t':=s.toks) (o:=.tup (Qau xs lo hi)) (λb ob q=>O4 _ q) (O6 _) ?_,rfl,q _ (I.hok.fresh (O6 _))⟩;exact⟨E8 (Q21 xs lo hi) hz,_,(r.drop (HT.sIx xs.length 0 lo)).take (HT.sIx xs.length xs.length hi-HT.sIx xs.length 0 lo),IsTup.new _ _⟩
def J1u(K:bZ):R2:=λx y H Q=>∃a b ns ms,x=.ref a/\y=.ref b/\SqT K H a (ns.map V.int)/\SqT K H b (ms.map V.int)/\Q (.bl (HT.lexLt ns ms)) H
def Quz(hu:X.A.units<aS):OpR X (aV .Lt) (J1u X.K):=by
 intro pins s σ H x y v u Q I O Y h;obtain⟨a,b,ns,ms,rfl,rfl,Z,J,q⟩:=h;cases O;cases Y;obtain⟨its,U,p1,_⟩:=I.tuple Z;obtain⟨j,G,p2,_⟩:=I.tuple J;have S:IntsAre its.toArray.toList ns:=Q4k U;have z:IntsAre j.toArray.toList ms:=Q4k G;exact HT.lt_tupInts p1 p2 S z hu ⟨.bl (HT.lexLt ns ms),H,I,rfl,q⟩
def Qsu(K:bZ):R2:=λx y H Q=>∃a b xs ys,x=.ref a/\y=.ref b/\SqT K H a xs/\SqT K H b ys/\xs≠[]/\xs.length+ys.length<=sizeLine/\
 (ys=[]->Q (.ref a) H)/\(ys≠[]->∀p,H p=zl->Q (.ref p) (upd H p (.tup (xs++ys))))
def Vals.nil_iff(r:Vals xs j):j=[]<->xs=[]:=by
 cases r with
|nil=>simp
|cons _ _=>simp
def op_catT:OpR X (aZ .Add) (Qsu X.K):=by
 intro pins s σ H x y v u Q I U Z h;obtain⟨a,b,xs,ys,rfl,rfl,ha,O,S,hz,q1,Y⟩:=h;cases U;cases Z;obtain⟨its,G,p1,_⟩:=I.tuple ha;obtain⟨J,j,p2,_⟩:=I.tuple O;refine HT.cat_tup p1 p2 (λz=>S (G.nil_iff.mp z)) (λz=>⟨.ref a,H,I,rfl,q1 (j.nil_iff.mp z)⟩) (λz=>?_) (by rw[<- G.length,<- j.length];exact hz)
 refine⟨.ref s.heap.objs.size,_,I.laid (t':=s.toks) (o:=.tup (xs++ys)) (λb ob q=>O4 _ q) (O6 _) ?_,rfl,Y (λw=>z (j.nil_iff.mpr w)) _ (I.hok.fresh (O6 _))⟩;exact⟨by rw[O5];exact hz,_,G.append j,IsTup.new _ _⟩
def ixN(n:Nat)(i:Int):Option Nat:=if 0<=i then(if i<n then zo i.toNat else zl)else if -(n:Int)<=i then zo (i+n).toNat else zl
def atI{α:Type}(xs:List α)(i:Int):Option α:=(ixN xs.length i).bind λj=>xs[j]?
def Q83(h:ixN n i=zo j):seqIndex? i n=zo j/\j<n/\-(n:Int)<=i/\i<n:=by
 unfold ixN at h
 by_cases h0:0<=i
 ·rw[bU h0]at h
  by_cases h1:i<n
  ·rw[bU h1]at h;have e:i.toNat=j:=bt h;exact⟨by rw[seqIndex_of h0 h1,e],by omega,by omega,h1⟩
  ·rw[bV h1]at h;cases h
 ·rw[bV h0]at h
  by_cases h1:-(n:Int)<=i
  ·rw[bU h1]at h;have e:(i+n).toNat=j:=bt h;exact⟨by rw[seqIndex_neg () h1,e],by omega,h1,by omega⟩
  ·rw[bV h1]at h;cases h
def atI_get{α:Type}{xs:List α}{i:Int}{v:α}(h:atI xs i=zo v):∃j,seqIndex? i xs.length=zo j/\xs[j]?=zo v/\j<xs.length/\-(xs.length:Int)<=i/\i<xs.length:=by
 unfold atI at h;cases e:ixN xs.length i with
|none=>rw[e]at h;cases h
|some j=>
  rw[e]at h;obtain⟨h1,h2,z,q⟩:=Q83 e;exact⟨j,h1,h,h2,z,q⟩
def Qev{α:Type}{xs:List α}{j:Nat}{v:α}(h:xs[j]?=zo v):atI xs (j:Int)=zo v:=by
 have q:j<xs.length:=(O0.mp h).1;have e:ixN xs.length (j:Int)=zo j:=by
  unfold ixN;rw[bU (),bU ()];simp
 unfold atI;rw[e];exact h
def Q2w(b:aH):Prop:=∀o i,subscripted b yo o i=operate [o,i] (getItem o i)
def IxR(X:Cx)(r:R2):Prop:=
 ∀(value slice:aH)(pins:zAA)(s:aC)(σ:St)(H:Hp)(x y:V)(v u:aA)(Q:VK),Inv X pins σ H s->RelV x v->RelV y u->r x y H Q->
  subscripted slice yo v u=operate [v,u] (getItem v u)->aF (aI X.prog X.w) X.A (subscriptTail value slice v u) (EP X pins σ Q) X.xe s
def MtR(X:Cx)(id:String)(r:V->List V->Hp->VK->Prop):Prop:=
 ∀(pins:zAA)(s:aC)(σ:St)(H:Hp)(x:V)(xs:List V)(v:aA)(us:List aA)(Q:VK),Inv X pins σ H s->RelV x v->Vals xs us->r x xs H Q->
  aF (aI X.prog X.w) X.A (call (.builtin id) (v::us)) (EP X pins σ Q) X.xe s
section
variable{X:Cx}{a b:aH}{ta tb:TE}{pos:Pos}
def IxR.or{r z:R2}(h:IxR X r)(h':IxR X z):IxR X (λx y H Q=>r x y H Q\/z x y H Q):=by
 intro value j pins s σ H x y v u Q I G J q hs;rcases q with q|q
 ·exact h value j pins s σ H x y v u Q I G J q hs
 ·exact h' value j pins s σ H x y v u Q I G J q hs
def Qji(j:IxR X r)(U:PE X a ta)(z:PE X b tb)(hs:Q2w b):PE X (.Subscript a b pos) (tOp r ta tb):=by
 intro pins s σ H Q I h;exact Subscript_ (Qwg U z I h λv u G x y H2 O J S q=>j a b pins G σ H2 x y v u Q O J S q (hs _ _))
def Qy4(K:bZ):R2:=λx y H Q=>∃p xs i v,x=.ref p/\y=.int i/\SqL K H p xs/\atI xs i=zo v/\Q v H
def Qy2(K:bZ):R2:=λx y H Q=>∃p xs i v,x=.ref p/\y=.int i/\SqT K H p xs/\atI xs i=zo v/\Q v H
def Qy3:R2:=λx y H Q=>∃z i c,x=.str z/\y=.int i/\z.length<=sizeLine/\atI z.cps.toList i=zo c/\Q (.str ⟨#[c]⟩) H
def ix_list:IxR X (Qy4 X.K):=by
 intro value O pins s σ H x y v u Q I Y ry h hs;obtain⟨p,xs,i,z,rfl,rfl,hq,he,q⟩:=h;cases Y;obtain⟨t,rfl⟩:=ry;obtain⟨its,r,G,hz⟩:=I.list hq;obtain⟨j,h1,h2,h3,h4,h5⟩:=atI_get he;obtain⟨w,U,J⟩:=r.get h2;have Z:=r.length;have hn:=Q1d;have fin:EP X pins σ Q w s:=⟨z,H,I,J,q⟩
 by_cases h0:0<=i
 ·have S:i.toNat=j:=by
   rw[seqIndex_of h0 h5]at h1;exact bt h1
  exact item_listR G.isList h0 () (by rw[S];simpa using U) fin hs
 ·have S:(i+(its.toArray.size:Int)).toNat=j:=by
   rw[seqIndex_neg () h4]at h1;rw[O8,<- Z];exact bt h1
  exact subscriptTail_builtinR (x:=w) G.isList.typeIs slot_list_getitem.lookup
   (wpAny_getItem_list_neg (Q:=λr s'=>r=w/\EP X pins σ Q r s') G.isList () (by rw[O8]<;>omega) () (by rw[S];simpa using U) ⟨rfl,fin⟩) hs
def ix_tup:IxR X (Qy2 X.K):=by
 intro value J pins s σ H x y v u Q I S ry h hs;obtain⟨p,xs,i,z,rfl,rfl,Z,he,q⟩:=h;cases S;obtain⟨t,rfl⟩:=ry;obtain⟨its,r,O,hz⟩:=I.tuple Z;obtain⟨j,h1,h2,h3,h4,h5⟩:=atI_get he;obtain⟨w,U,G⟩:=r.get h2;have Y:=r.length;have hn:=Q1d;have fin:EP X pins σ Q w s:=⟨z,H,I,G,q⟩;exact subscriptTail_builtinR (x:=w) O.typeIs slot_tuple_getitem.lookup
  (getItem_tuple (j:=j) (Q:=λr s'=>r=w/\EP X pins σ Q r s') O () () (by rw[O8,<- Y];exact h1) (by simpa using U) ⟨rfl,fin⟩) hs
def Qvv:IxR X Qy3:=by
 intro value G pins s σ H x y v u Q I S Y h hs;obtain⟨z,i,c,rfl,rfl,hz,Z,q⟩:=h;obtain⟨t,rfl⟩:=S;obtain⟨t',rfl⟩:=Y;obtain⟨j,h1,h2,h3,h4,h5⟩:=atI_get Z;have U:z.cps.toList.length=z.length:=by simp[Str.length]
 rw[U]at h1 h4 h5;have hn:=Q1d;exact tail_any (typeIs_str s z t) slot_str_getitem.lookup (getItem_str (c:=c) (by
  have J:decide (i < -(2^63:Int))=yo:=bW ();have O:decide (i>=2^63)=yo:=bW ();rw[J,O,dM]) (by rw[h1];simpa using h2) ⟨.str ⟨#[c]⟩,H,I.tok _,⟨_,rfl⟩,q⟩) hs
def rIx(K:bZ):R2:=λx y H Q=>Qy4 K x y H Q\/Qy2 K x y H Q\/Qy3 x y H Q
def Qku:IxR X (rIx X.K):=ix_list.or (ix_tup.or Qvv)
def Qc9(its:List aA)n j u:bx (·.setIfInBounds j u) {cls:=.type "list",data:=.seq its.toArray n}={cls:=.type "list",data:=.seq (its.set j u).toArray n}:=by
 simp[bx]
def Inv.lst{H:Hp}{s:aC}{xs:List V}(I:Inv X pins σ H s)(h:H p=zo (.lst xs)):
  ∃(its:List aA)(n:Nat),Vals xs its/\s.heap.get? p=zo {cls:=.type "list",data:=.seq its.toArray n}/\xs.length<=sizeLine:=by
 obtain⟨z,its,n,r,e⟩:=I.hok p _ h;exact⟨its,n,r,e,z⟩
def Inv.lstUpd{H:Hp}{s:aC}{ys:List V}{its its':List aA}{f:Obj->Obj}(I:Inv X pins σ H s)(h:H p=zo (.lst xs))(J:s.heap.get? p=zo {cls:=.type "list",data:=.seq its.toArray n})(z:f {cls:=.type "list",data:=.seq its.toArray n}={cls:=.type "list",data:=.seq its'.toArray j})(r:Vals ys its')(hz:ys.length<=sizeLine)t:
  Inv X pins σ (upd H p (.lst ys)) {s with heap:=s.heap.update p f,toks:=t}:=by
 have e:(s.heap.update p f).get? p=zo {cls:=.type "list",data:=.seq its'.toArray j}:=by
  rw[G7 f J (by rw[z]<;>rfl),z]
 refine I.write (x:=p) (e:=p) (by rw[h];trivial) (.inl rfl) (λb u G q=>(F6 _ _ (Ne.symm G)).trans q) ⟨_,e⟩ ?_
 exact⟨hz,its',j,r,e⟩
def Qy0:V->V->V->Hp->(Hp->Prop)->Prop:=λo i v H Q=>∃p xs k j,o=.ref p/\i=.int k/\H p=zo (.lst xs)/\ixN xs.length k=zo j/\Q (upd H p (.lst (xs.set j v)))
def Qi4:J0a X Qy0:=by
 intro pins s σ H o i v ov iv u Q I Z ri rv h;obtain⟨p,xs,k,j,rfl,rfl,U,hj,q⟩:=h;cases Z;obtain⟨t,rfl⟩:=ri;obtain⟨its,n,r,G,hz⟩:=I.lst U;obtain⟨h1,h2,Y,S⟩:=Q83 hj;have z:=r.length;have hn:=Q1d;have O:Inv X pins σ (upd H p (.lst (xs.set j v))) {s with heap:=s.heap.update p (bx (·.setIfInBounds j u))}:=
  I.lstUpd U G (Qc9 its n j u) (r.set rv j) (by rw[L9];exact hz) s.toks
 by_cases h0:0<=k
 ·have J:k.toNat=j:=by
   rw[seqIndex_of h0 S]at h1;exact bt h1
  exact PySem.W.ki_setAt G h0 () (by rw[O8,<- z];exact S) (by rw[J];exact⟨_,O,q⟩)
 ·have J:(k+(its.toArray.size:Int)).toNat=j:=by
   rw[seqIndex_neg () Y]at h1;rw[O8,<- z];exact bt h1
  exact PySem.W.ki_setBack G () (by rw[O8,<- z];exact Y) () (by rw[J];exact⟨_,O,q⟩)
def Q71 lo hi n:(bT lo hi zl n).1=((HT.sIx n 0 lo:Nat):Int)/\(bT lo hi zl n).2.1=((HT.sIx n n hi:Nat):Int)/\(bT lo hi zl n).2.2=1:=by
 have c:∀(i:Int)(d:Nat),max 0 (min (if i<0 then i+n else i) (n:Int))=((HT.sIx n d (zo i):Nat):Int):=λi d=>by
  show _=(((if i<0 then(i+(n:Int)).toNat else min i.toNat n):Nat):Int)
  by_cases h:i<0
  ·rw[bU h,bU h,gv (),Int.max_comm,gz]
  ·obtain⟨k,rfl⟩:=hJ (hU.mp h);rw[bV h,bV h,bw,HT.min_cast];exact Int.max_eq_right (Int.natCast_nonneg _)
 refine⟨?_,?_,rfl⟩
 ·cases lo with
  |none=>rfl
  |some i=>exact c i 0
 ·cases hi with
  |none=>rfl
  |some i=>exact c i n
def Q5a(its:List aA)lo hi:slicePick its.toArray lo hi zl=((its.drop (HT.sIx its.length 0 lo)).take (HT.sIx its.length its.length hi-HT.sIx its.length 0 lo)).toArray:=by
 obtain⟨h1,h2,j⟩:=Q71 lo hi its.toArray.size;unfold slicePick;rw[h1,h2,j];simp only[sliceRange_one,pick_run,O8]<;>rfl
def J1r(K:bZ):V->Option Int->Option Int->Hp->VK->Prop:=λx lo hi H Q=>∃a xs,x=.ref a/\SqL K H a xs/\∀p,H p=zl->Q (.ref p) (upd H p (.lst (Qau xs lo hi)))
def Qp8:SlR X (J1r X.K):=by
 intro pins s σ H x v Y Z lo hi U Q I O hs S G h;obtain⟨a,xs,rfl,J,q⟩:=h;cases O;obtain⟨its,r,z,hz⟩:=I.list J;have j:=r.length;refine⟨"list",_,slot_list_getitem.lookup,z.isList.typeIs,?_⟩;refine wpAny_getItem_list_slice z.isList hs S G .none (by simp) ?_ (by rw[O8]<;>omega);rw[Q5a,<- j];refine⟨.ref s.heap.objs.size,_,I.laid (t':=s.toks) (o:=.lst (Qau xs lo hi)) (λb ob q=>O4 _ q) (O6 _) ?_,rfl,q _ (I.hok.fresh (O6 _))⟩;exact⟨E8 (Q21 xs lo hi) hz,_,0,(r.drop (HT.sIx xs.length 0 lo)).take (HT.sIx xs.length xs.length hi-HT.sIx xs.length 0 lo),D4 _ rfl⟩
def jr:V->Bool
|.non=>zb
|.bl _=>zb
|.int _=>zb
|.str _=>zb
|_=>yo
def eqV:V->V->Bool
|.non,.non=>zb
|.bl a,.bl b=>a==b
|.bl a,.int b=>(if a then 1 else 0)==b
|.int a,.bl b=>a==(if b then 1 else 0)
|.int a,.int b=>a==b
|.str a,.str b=>a==b
|_,_=>yo
def Qw2(q:RelV y u)(j:RelV x v)(G:jr y=zb)(z:jr x=zb):SeqAt.EqAt A s u v (eqV y x):=by
 cases y with
|non=>
  cases q;cases x with
  |non=>cases j;exact SeqAt.EqAt.same _
  |bl b=>cases j;exact SeqAt.EqAt.none_bool b
  |int b=>obtain⟨t,rfl⟩:=j;exact SeqAt.EqAt.none_int b t
  |str b=>obtain⟨t,rfl⟩:=j;exact SeqAt.EqAt.none_str b t
  |_=>exact absurd (show yo=zb from z) O9
|bl a=>
  cases q;cases x with
  |non=>cases j;exact SeqAt.EqAt.bool_none a
  |bl b=>cases j;exact SeqAt.EqAt.bool_bool a b
  |int b=>obtain⟨t,rfl⟩:=j;exact SeqAt.EqAt.bool_int a b t
  |str b=>obtain⟨t,rfl⟩:=j;exact SeqAt.EqAt.bool_str a b t
  |_=>exact absurd (show yo=zb from z) O9
|int a=>
  obtain⟨t',rfl⟩:=q;cases x with
  |non=>cases j;exact SeqAt.EqAt.int_none a t'
  |bl b=>cases j;exact SeqAt.EqAt.int_bool a t' b
  |int b=>obtain⟨t,rfl⟩:=j;exact SeqAt.EqAt.int_int a t' b t
  |str b=>obtain⟨t,rfl⟩:=j;exact SeqAt.EqAt.int_str a t' b t
  |_=>exact absurd (show yo=zb from z) O9
|str a=>
  obtain⟨t',rfl⟩:=q;cases x with
  |non=>cases j;exact SeqAt.EqAt.str_none a t'
  |bl b=>cases j;exact SeqAt.EqAt.str_bool a t' b
  |int b=>obtain⟨t,rfl⟩:=j;exact SeqAt.EqAt.str_int a t' b t
  |str b=>obtain⟨t,rfl⟩:=j;exact SeqAt.EqAt.str_str a t' b t
  |_=>exact absurd (show yo=zb from z) O9
|_=>exact absurd (show yo=zb from G) O9
def eqU(x:V)(u:aA):Bool:=match u with
|.none=>eqV .non x
|.bool b=>eqV (.bl b) x
|.int i _=>eqV (.int i) x
|.str z _=>eqV (.str z) x
|_=>yo
def Qmm(r:RelV y u)(f:jr y=zb):eqU x u=eqV y x:=by
 cases y with
|non=>cases r;rfl
|bl b=>cases r;rfl
|int i=>obtain⟨t,rfl⟩:=r;rfl
|str z=>obtain⟨t,rfl⟩:=r;rfl
|_=>exact absurd (show yo=zb from f) O9
def Q0u:∀{xs:List V}{j:List aA},Vals xs j->xs.all jr=zb->j.any (eqU x)=xs.any λy=>eqV y x
|_,_,.nil,_=>rfl
|y::xs,u::j,.cons r t,f=>by
  rw[cP,F3]at f;rw[N3,N3,Qmm r f.1,Q0u t f.2]
def jc(z:RelV x v)(G:jr x=zb):∀{xs:List V}{q:List aA},Vals xs q->xs.all jr=zb->∀u∈q,SeqAt.EqAt A s u v (eqU x u)
|_,_,.nil,_=>λu j=>by cases j
|y::xs,u::q,.cons r t,f=>λI j=>by
  rw[cP,F3]at f;rcases D7.mp j with rfl|j
  ·rw[Qmm r f.1];exact Qw2 r z f.1 G
  ·exact jc z G t f.2 I j
def inV(x:V)(xs:List V):Bool:=xs.any λy=>eqV y x
def rIn(K:bZ)(neg:Bool):R2:=λx y H Q=>∃p xs,y=.ref p/\(SqL K H p xs\/SqT K H p xs)/\jr x=zb/\xs.all jr=zb/\Q (.bl (if neg then !inV x xs else inV x xs)) H
def Qfx:OpR X (aV .In) (rIn X.K yo):=by
 intro pins s σ H x y v u Q I J S h;obtain⟨p,xs,rfl,j,O,fs,q⟩:=h;cases S;rcases j with j|j
 ·obtain⟨its,r,G,hz⟩:=I.list j;refine SeqAt.in_listAt (eqU x) G.isList (λw z=>jc J O r fs w (by simpa using z)) ⟨.bl _,H,I,rfl,?_⟩
  rw[show its.toArray.any (eqU x)=its.any (eqU x) by simp,Q0u r fs];exact q
 ·obtain⟨its,r,G,hz⟩:=I.tuple j;refine SeqAt.in_tupleAt (eqU x) G (λw z=>jc J O r fs w (by simpa using z)) ⟨.bl _,H,I,rfl,?_⟩
  rw[show its.toArray.any (eqU x)=its.any (eqU x) by simp,Q0u r fs];exact q
def Q00:OpR X (aV .NotIn) (rIn X.K zb):=by
 intro pins s σ H x y v u Q I J S h;obtain⟨p,xs,rfl,j,O,fs,q⟩:=h;cases S;rcases j with j|j
 ·obtain⟨its,r,G,hz⟩:=I.list j;refine SeqAt.notIn_listAt (eqU x) G.isList (λw z=>jc J O r fs w (by simpa using z)) ⟨.bl _,H,I,rfl,?_⟩
  rw[show its.toArray.any (eqU x)=its.any (eqU x) by simp,Q0u r fs];exact q
 ·obtain⟨its,r,G,hz⟩:=I.tuple j;refine SeqAt.notIn_tupleAt (eqU x) G (λw z=>jc J O r fs w (by simpa using z)) ⟨.bl _,H,I,rfl,?_⟩
  rw[show its.toArray.any (eqU x)=its.any (eqU x) by simp,Q0u r fs];exact q
def Q8j:W6 X (.builtin "len") (λxs H Q=>∃p ys,xs=[.ref p]/\(SqL X.K H p ys\/SqT X.K H p ys)/\Q (.int ys.length) H):=by
 intro pins s σ H xs S Q I r h;obtain⟨p,ys,rfl,z,q⟩:=h;obtain⟨u,rfl,O⟩:=Uy r;cases O;have U:=Q1d;rcases z with z|z
 ·obtain⟨its,G,J,hz⟩:=I.list z;have j:=G.length;exact Calls.call_len_list J.isList (by simp only[O8]<;>omega) ⟨.int ys.length,H,I.tok _,⟨s.toks+1,by rw[O8,j]⟩,q⟩
 ·obtain⟨its,G,J,hz⟩:=I.tuple z;have j:=G.length;exact len_tuple J (by simp only[O8]<;>omega) ⟨.int ys.length,H,I.tok _,⟨s.toks+1,by rw[O8,j]⟩,q⟩
def Q8i:W6 X (.builtin "len") (λxs H Q=>∃z,xs=[.str z]/\z.length<=sizeLine/\Q (.int z.length) H):=by
 intro pins s σ H xs j Q I r h;obtain⟨z,rfl,hz,q⟩:=h;obtain⟨u,rfl,t,rfl⟩:=Uy r;have G:=Q1d;exact len_str () ⟨.int z.length,H,I.tok _,⟨_,rfl⟩,q⟩
def Q8h:W6 X (.type "list") (λxs H Q=>∃p ys,xs=[.ref p]/\(SqL X.K H p ys\/SqT X.K H p ys)/\∀l,H l=zl->Q (.ref l) (upd H l (.lst ys))):=by
 intro pins s σ H xs Z Q I r h;obtain ⟨p,ys,rfl,J,q⟩:=h;obtain ⟨u,rfl,Y⟩:=Uy r;cases Y;have fin:∀(its:List aA),Vals ys its->ys.length<=sizeLine->∀(h':Heap)(z:Nat),(∀b o',s.heap.get? b=zo o'->h'.get? b=zo o')->
   h'.get? s.heap.objs.size=zo {cls:=.type "list",dict:=zl,data:=.seq its.toArray z,slots:=#[]}->EP X pins σ Q (.ref s.heap.objs.size) {s with heap:=h'}:=λits j hz h' z kp e=>
  ⟨.ref s.heap.objs.size,_,I.laid (t':=s.toks) kp (O6 _) (show ObjOk X.prog X.w _ h' _ (.lst ys)from⟨hz,its,z,j,e⟩),rfl,q _ (I.hok.fresh (O6 _))⟩
 rcases J with J|J
 ·obtain⟨its,j,U,hz⟩:=I.list J;have G:=j.length;obtain⟨o,S,O,n,hd⟩:=U.isList;exact call_list_seq p (.inl rfl) S O hd (λh' z kp e=>fin its j hz h' z kp e) (by simp only[O8]<;>omega)
 ·obtain⟨its,j,U,hz⟩:=I.tuple J;have G:=j.length;obtain⟨o,S,O,n,hd⟩:=U;exact call_list_seq p (.inr rfl) S O hd (λh' z kp e=>fin its j hz h' z kp e) (by simp only[O8]<;>omega)
def yj:W6 X (.type "tuple") (λxs H Q=>∃p ys,xs=[.ref p]/\((SqL X.K H p ys/\∀l,H l=zl->Q (.ref l) (upd H l (.tup ys)))\/(SqT X.K H p ys/\Q (.ref p) H))):=by
 intro pins s σ H xs Y Q I r h;obtain⟨p,ys,rfl,h⟩:=h;obtain⟨u,rfl,S⟩:=Uy r;cases S;rcases h with⟨G,q⟩|⟨G,q⟩
 ·obtain⟨its,j,z,hz⟩:=I.list G;have O:=j.length;refine call_tuple_list z.isList (λh' kp=>?_) (by simp only[O8]<;>omega);have J:Inv X pins σ H {s with heap:=h'}:=I.kept (t':=s.toks) kp;have U:Inv X pins σ (upd H h'.objs.size (.tup ys)) {s with heap:=h'.push {cls:=.type "tuple",data:=.seq its.toArray}}:=
   J.laid (t':=s.toks) (λb o e=>O4 _ e) (O6 _) (show ObjOk X.prog X.w _ _ _ (.tup ys)from⟨hz,its,j,IsTup.new _ _⟩)
  exact⟨.ref h'.objs.size,_,U,rfl,q _ (J.hok.fresh (O6 _))⟩
 ·obtain⟨its,j,z,hz⟩:=I.tuple G;exact call_tuple_same z ⟨.ref p,H,I,rfl,q⟩
def tyV(K:bZ)(T:String)(x:V)(H:Hp):Prop:=match x with
 |.str _=>T="str"
 |.int _=>T="int"
 | .ref p=>(T = "list" /\ ∃ xs,SqL K H p xs)\/(T = "tuple" /\ ∃ o,K.lookup p=zo o/\o.cls=.type "tuple" /\ o.dict=zl) \/
   (T="dict"/\((∃kvs,H p=zo (.dK kvs))\/∃kvs,H p=zo (.dT kvs)))\/(T="set"/\∃S n,H p=zo (.set S n))
 |_=>False
def Q6w{s:aC}(I:Inv X pins σ H s)(r:RelV x v)(ty:tyV X.K T x H):
  s.TypeIs v T/\∀a,v=.ref a->∃ob,s.heap.get? a=zo ob/\ob.dict=zl:=by
 cases x with
|str z=>
  obtain⟨t,rfl⟩:=r;cases (show T="str" from ty);exact⟨typeIs_str s z t,λ_ e=>nomatch e⟩
|int i=>
  obtain⟨t,rfl⟩:=r;cases (show T="int" from ty);exact⟨typeIs_int s i t,λ_ e=>nomatch e⟩
|ref p=>
  cases r;rcases ty with⟨rfl,xs,U⟩|⟨rfl,o,j,O,hd⟩|⟨rfl,j⟩|⟨rfl,S,n,j⟩
  ·obtain⟨its,_,J,_⟩:=I.list U;refine⟨J.isList.typeIs,λa e=>?_⟩;cases e;obtain⟨o,n,e,c,hd,_⟩:=J;exact⟨o,e,hd⟩
  ·refine⟨⟨o,I.kIn p o j,O⟩,λa e=>?_⟩
   cases e;exact⟨o,I.kIn _ o j,hd⟩
  ·have z:∃o,s.heap.get? p=zo o/\o.ExactDict:=by
    rcases j with⟨G,j⟩|⟨G,j⟩
    ·obtain⟨_,_,_,_,o,_,_,e,ex,_⟩:=I.hok p _ j;exact⟨o,e,ex⟩
    ·obtain⟨_,_,_,_,o,_,_,e,ex,_⟩:=I.hok p _ j;exact⟨o,e,ex⟩
   obtain⟨o,e,ex⟩:=z;refine⟨⟨o,e,ex.1⟩,λa q=>?_⟩
   cases q;exact⟨o,e,ex.2.1⟩
  ·obtain⟨o,_,_,_,e,ex,_⟩:=I.hok p _ j;refine⟨⟨o,e,ex.1⟩,λa q=>?_⟩
   cases q;exact⟨o,e,ex.2.1⟩
|_=>exact False.elim ty
def J1k(K:bZ)(T:String)(r:V->List V->Hp->VK->Prop)(to:TE):TE:=λσ H Q=>to σ H λx H1=>tyV K T x H1/\r x [] H1 Q
def tBM(K:bZ)(T:String)(r:V->List V->Hp->VK->Prop)(to:TE)(t:TA):TE:=λσ H Q=>to σ H λx H1=>tyV K T x H1/\t σ H1 λxs H2=>r x xs H2 Q
variable{o e:aH}{es:List aH}{to:TE}{t:TA}{name:Str}{apos cpos:Pos}{T id:String}{r:V->List V->Hp->VK->Prop}
def Quj (U:PlainAttrs T) (slot:Slot T name id) (z:typeOf (.builtin id)=pure (.type "method_descriptor")) (hm:MtR X id r) (O:PE X o to)
  (j:bB o name X.env (aM o X.env)=aM o X.env:=by rfl) (q:(apos.endLine==cpos.line)=zb:=by rfl):PE X (.Call (.Attribute o name apos) [] [] cpos) (J1k X.K T r to):=by
 intro pins s σ H Q I h;refine wpAny_Call_method0_late j q (thn (O pins s σ H _ I h) λv s1 ⟨x,H1,G,J,ty,S⟩=>?_)
 obtain⟨h1,h2⟩:=Q6w G J ty;exact⟨T,id,U,slot,z,h1,h2,Calls.callWith_builtin rfl (fe (hm pins s1 σ H1 x [] v [] Q G J .nil S))⟩
def Qdv (pa:PlainAttrs T) (slot:Slot T name id) (J:typeOf (.builtin id)=pure (.type "method_descriptor")) (hm:MtR X id r) (Y:PE X o to) (ha:PA X (e::es) t)
  (q:bB o name X.env (aM o X.env)=aM o X.env:=by rfl)
  (G:((aY cpos (aN (e::es) X.env)).all (λx=>!x.1)&&(backToKw cpos (keywordEach [] X.env)).all (λx=>x.1.isSome)
   &&decide ((e::es).length+([]:List Keyword).length+(if([]:List Keyword).isEmpty then 0 else 1)<30))=zb:=by rfl)
  (z:(apos.endLine==cpos.line)=zb:=by rfl) (hs:aN (e::es) X.env=(yo,aM e X.env)::aN es X.env:=by rfl) (j:(aY cpos (aN es X.env)).any (·.1)=yo:=by rfl):
  PE X (.Call (.Attribute o name apos) (e::es) [] cpos) (tBM X.K T r to t):=by
 intro pins s σ H Q I h;refine wpAny_Call_method_late q G z rfl (thn (Y pins s σ H _ I h) λv s1 ⟨x,H1,S,U,ty,q1⟩=>?_)
 obtain⟨h1,h2⟩:=Q6w S U ty;refine⟨T,id,pa,slot,J,h1,h2,?_⟩;have O:=ha cpos pins s1 σ H1 _ S q1;rw[hs]at O ⊢;refine Calls.callWith_builtin (by show(yo||(aY cpos (aN es X.env)).any (·.1))=yo;rw[j]<;>rfl) (Calls.evalArgs_plain ?_);exact thn O λus s2 ⟨vs,H2,I2,Z,q2⟩=>hm pins s2 σ H2 x vs v us Q I2 U Z q2
end
def MtM(X:Cx)(id:String)(r:V->List V->Hp->VK->Prop):Prop:=
 ∀(pins:zAA)(s:aC)(σ:St)(H:Hp)(x:V)(xs:List V)(v:aA)(us:List aA)(Q:VK),Inv X pins σ H s->RelV x v->Vals xs us->r x xs H Q->
  aF (aI X.prog X.w) X.A (call (.builtin id) (v::us)) (EP X pins σ Q) X.xe s
def Vals.one:∀{x:V}{j:List aA},Vals [x] j->∃u,j=[u]/\RelV x u
|_,_,.cons r .nil=>⟨_,rfl,r⟩
def Vals.zero:∀{j:List aA},Vals [] j->j=[]
|_,.nil=>rfl
def Vals.dropLast{xs:List V}{j:List aA}(h:Vals xs j):Vals xs.dropLast j.dropLast:=by
 induction h with
|nil=>exact .nil
|cons r t z=>
  cases t with
  |nil=>exact .nil
  |cons q t'=>exact .cons r z
def Vals.eraseIdx:∀{xs:List V}{j:List aA}i,Vals xs j->Vals (xs.eraseIdx i) (j.eraseIdx i)
|_,_,_,.nil=>.nil
|_,_,0,.cons _ t=>t
|_,_,i+1,.cons r t=>.cons r (Vals.eraseIdx i t)
def Vals.rep(h:Vals xs j):∀k:Nat,Vals (bh k xs).flatten (bh k j).flatten
|0=>.nil
|k+1=>by
  rw[cy,cy,dN,dN];exact Vals.append h (Vals.rep h k)
def Qcr{α:Type}(l:List α):l.eraseIdx (l.length-1)=l.dropLast:=by
 induction l with
|nil=>rfl
|cons a r j=>
  cases r with
  |nil=>rfl
  |cons b r=>
   rw[show(a::b::r).length-1=((b::r).length-1)+1 from rfl,iA,j]
   all_goals rfl
def Q68{α:Type}:∀(l:List α)i,(l.eraseIdx i).length<=l.length
|[],_=>O6 _
|_::_,0=>cz _
|_::r,i+1=>fg (Q68 r i)
def Q1j(its:List aA):∀k(acc:List aA),
  cQ (λx1 x2=>x1++x2) acc.toArray (bh k its.toArray)=(acc++(bh k its).flatten).toArray
|0,acc=>by simp
|k+1,acc=>by
  have e:acc.toArray++its.toArray=(acc++its).toArray:=by simp
  have j:(acc++its)++(bh k its).flatten=acc++(bh (k+1) its).flatten:=by
   rw[cy,dN,dA]
  rw[<- j,<- Q1j its k (acc++its),<- e,cy,F8]
variable{pins:zAA}{σ:St}{H:Hp}{s:aC}{l b:aB}{xs ys zs:List V}
def Inv.lset{its its':List aA}{f:Array aA->Array aA}(I:Inv X pins σ H s)(G:H l=zo (.lst xs))(e:s.heap.get? l=zo {cls:=.type "list",data:=.seq its.toArray n})(j:f its.toArray=its'.toArray)(J:Vals ys its')(hz:ys.length<=sizeLine):
  Inv X pins σ (upd H l (.lst ys)) {s with heap:=s.heap.update l (bx f),toks:=t'}:=by
 have q:=PySem.IsL.update e f;rw[j]at q;refine I.write (x:=l) (e:=l) (by rw[G];exact trivial) (.inl rfl) (λS u z O=>(F6 s.heap (bx f) (Ne.symm z)).trans O) ⟨_,q⟩ ?_
 exact⟨hz,its',_,J,q⟩
def Inv.lnew{its:List aA}(I:Inv X pins σ H s)(j:Vals ys its)(hz:ys.length<=sizeLine):
  Inv X pins σ (upd H s.heap.objs.size (.lst ys)) {s with heap:=s.heap.push {cls:=.type "list",data:=.seq its.toArray},toks:=t'}:=
 I.laid (λ_ _ q=>O4 _ q) (O6 _) ⟨hz,its,0,j,D4 _ rfl⟩
def Inv.fresh(I:Inv X pins σ H s):H s.heap.objs.size=zl:=I.hok.fresh (O6 _)
def Inv.lstM(I:Inv X pins σ H s)(j:H l=zo (.lst xs)):xs.length<=sizeLine/\∃(its:List aA)(n:Nat),Vals xs its/\xs.length=its.length/\s.heap.get? l=zo {cls:=.type "list",data:=.seq its.toArray n}:=by
 obtain⟨z,its,n,r,e⟩:=I.hok l _ j;exact⟨z,its,n,r,r.length,e⟩
def Qjz(h:n<=sizeLine):Builtin.List.listTooLong n=yo:=by
 unfold Builtin.List.listTooLong;exact bW ()
def Qps:V->List V->Hp->VK->Prop:=λx vs H Q=>∃l xs y,x=.ref l/\vs=[y]/\H l=zo (.lst xs)/\xs.length<sizeLine/\Q .non (upd H l (.lst (xs++[y])))
def Qg5:MtM X "list.append" Qps:=by
 intro pins s σ H x vs v O Q I G J h;obtain⟨l,xs,y,rfl,rfl,j,hz,q⟩:=h;cases G;obtain⟨u,rfl,ru⟩:=J.one;obtain⟨z,its,n,r,S,e⟩:=I.lstM j;refine ay F.slot_list_append ⟨_,e,rfl⟩ F.entry_list_append (F.args_list_append_2 _ _) (iB l its.toArray n u (by rw[O8];omega)) ⟨e,?_⟩;refine⟨.non,_,I.lset (its':=its++[u]) j e (by simp) (r.append (.cons ru .nil)) ?_,rfl,q⟩;rw[O5,M0];omega
def J1t:V->List V->Hp->VK->Prop:=λx vs H Q=>∃l xs y,x=.ref l/\vs=[]/\H l=zo (.lst xs)/\xs[xs.length-1]?=zo y/\Q y (upd H l (.lst xs.dropLast))
def Qv6:MtM X "list.pop" J1t:=by
 intro pins s σ H x vs v us Q I S Z h;obtain⟨l,xs,y,rfl,rfl,J,O,q⟩:=h;cases S;have G:=Z.zero;subst G;obtain⟨z,its,n,r,U,e⟩:=I.lstM J;obtain⟨u,Y,ru⟩:=r.get O;have j:its.toArray[its.toArray.size-1]?=zo u:=by
  show its.toArray[its.length-1]?=zo u;rw[<- bn,<- U];exact Y
 refine ay F.slot_list_pop ⟨_,e,rfl⟩ F.entry_list_pop (F.args_list_pop_1 _) (MeetsSeq.list_pop_last l its.toArray n u j (by rw[O8];omega)) ⟨e,?_⟩;refine⟨y,_,I.lset (its':=its.dropLast) J e ?_ r.dropLast ?_,ru,q⟩
 ·show its.toArray.eraseIdxIfInBounds (its.toArray.size-1)=its.dropLast.toArray;rw[O8,iC,Qcr]
 ·rw[List.length_dropLast];omega
def Qu6:V->List V->Hp->VK->Prop:=λx vs H Q=>∃l xs i k y,x=.ref l/\vs=[.int i]/\H l=zo (.lst xs)/\-(2^63)<=i/\i<2^63/\seqIndex? i xs.length=zo k/\xs[k]?=zo y/\Q y (upd H l (.lst (xs.eraseIdx k)))
def Qk1:MtM X "list.pop" Qu6:=by
 intro pins s σ H x vs v us Q I S Y h;obtain⟨l,xs,i,k,y,rfl,rfl,G,h1,h2,Z,O,q⟩:=h;cases S;obtain⟨u,rfl,ru⟩:=Y.one;obtain⟨t,rfl⟩:=ru;obtain⟨z,its,n,r,U,e⟩:=I.lstM G;obtain⟨w,J,j⟩:=r.get O;refine ay F.slot_list_pop ⟨_,e,rfl⟩ F.entry_list_pop (F.args_list_pop_2 _ _)
  (MeetsSeq.list_pop_at l its.toArray n i t k w (fitsIndex_both h1 h2) (by rw[O8,<- U];exact Z) (by rw[<- bn];exact J) (by rw[O8];omega)) ⟨e,?_⟩
 refine⟨y,_,I.lset (its':=its.eraseIdx k) G e ?_ (r.eraseIdx k) ?_,j,q⟩
 ·show its.toArray.eraseIdxIfInBounds k=(its.eraseIdx k).toArray;rw[iC]
 ·have:=Q68 xs k;omega
def Qu7:V->List V->Hp->VK->Prop:=λx vs H Q=>∃l xs,x=.ref l/\vs=[]/\H l=zo (.lst xs)/\Q .non (upd H l (.lst []))
def Qk2:MtM X "list.clear" Qu7:=by
 intro pins s σ H x vs v S Q I J O h;obtain⟨l,xs,rfl,rfl,G,q⟩:=h;cases J;have j:=O.zero;subst j;obtain⟨z,its,n,r,U,e⟩:=I.lstM G;refine ay F.slot_list_clear ⟨_,e,rfl⟩ F.entry_list_clear (F.args_list_clear_1 _) (AutoSeq1.list_clear_list_0 l its.toArray n (by rw[O8];omega)) ⟨e,?_⟩;exact⟨.non,_,I.lset (its':=[]) (ys:=[]) G e rfl .nil (G8 _),rfl,q⟩
def J1v:R2:=λx y H Q=>∃l b xs zs,x=.ref l/\y=.ref b/\H l=zo (.lst xs)/\H b=zo (.lst zs)/\xs.length+zs.length<=sizeLine/\∀p,H p=zl->Q (.ref p) (upd H p (.lst (xs++zs)))
def yt:OpR X (aZ .Add) J1v:=by
 intro pins s σ H x y v u Q I U Y h;obtain⟨l,b,xs,zs,rfl,rfl,J,hB,hz,q⟩:=h;cases U;cases Y;obtain⟨z,its,n,r,hl,e⟩:=I.lstM J;obtain⟨z2,j,n2,G,O,S⟩:=I.lstM hB;refine PySem.P.add_list e S ?_ (by rw[O8,O8];omega);have Z:its.toArray++j.toArray=(its++j).toArray:=by simp
 rw[Z];exact⟨.ref _,_,I.lnew (t':=s.toks) (r.append G) (by rw[O5];omega),rfl,q _ I.fresh⟩
def J1s:R2:=λx y H Q=>∃l k xs,x=.ref l/\y=.int k/\H l=zo (.lst xs)/\-(2^63)<=k/\k<2^63/\xs.length*k.toNat<=sizeLine/\
 ∀p,H p=zl->Q (.ref p) (upd H p (.lst (bh k.toNat xs).flatten))
def Q81{α:Type}(xs:List α)k:(bh k xs).flatten.length=k*xs.length:=by
 induction k with
|zero=>simp
|succ k j=>rw[cy,dN,O5,j,Nat.succ_mul,Nat.add_comm]
def Quv:OpR X (aZ .Mult) J1s:=by
 intro pins s σ H x y v u Q I rx ry h;obtain⟨l,k,xs,rfl,rfl,Y,h1,h2,hz,q⟩:=h;cases rx;obtain⟨t,rfl⟩:=ry;obtain⟨z,its,n,r,hl,e⟩:=I.lstM Y;have O:its.toArray.size*k.toNat<=sizeLine:=by rw[O8,<- hl];exact hz
 have J:¬its.toArray.size*k.toNat>(2^63-1)/8:=by
  have:(sizeLine:Nat)<=(2^63-1)/8:=by decide
  omega
 have G:¬(!Builtin.List.listFitsIndex k)=zb:=by
  rw[fitsIndex_both h1 h2];exact O9
 have j:¬Builtin.List.listTooLong (its.toArray.size*k.toNat)=zb:=by
  rw[Qjz O];exact O9
 have S:cQ (λx1 x2=>x1++x2) #[] (bh (if its.toArray.isEmpty=zb then 0 else k.toNat) its.toArray)=(bh k.toNat its).flatten.toArray:=by
  have Z:∀m:Nat,cQ (λx1 x2=>x1++x2) #[] (bh m its.toArray)=(bh m its).flatten.toArray:=λm=>by
   have:=Q1j its m [];rw[eL]at this;exact this
  rw[Z];cases its with
  |nil=>simp
  |cons a r'=>rw[bV (by simp)]
 refine wpAny_binaryOp_repeat_ref (T:="list") (U:="int") (by decide) ⟨_,e,rfl⟩ (λs'=>typeIs_int s' k t) noFill_list_mul F.fills_int_mul F.slot_int_rmul repeat_list F.slot_int_index.lookup
  (ay F.slot_int_rmul (typeIs_int s k t) F.entry_int_rmul (F.args_int_rmul_2 _ _) (int___rmul___int_list k t l its.toArray n)
   ⟨e,rfl,⟨_,e,rfl⟩,ay F.slot_list_mul ⟨_,e,rfl⟩ F.entry_list_mul (F.args_list_mul_2 _ _) (AutoListH.list___mul___list_int_3 l its.toArray n k t G J j) ⟨e,?_⟩⟩)
 rw[S];exact⟨.ref _,_,I.lnew (t':=s.toks) (r.rep k.toNat) (by rw[Q81,eM];exact hz),rfl,q _ I.fresh⟩
end L2
namespace Att
open PySem PySem.W PySem.Calls PyProof.Rows
def Q2b:∀(ns:List Int)vs,WellAll P h vs (ns.map WData.int)->IntsAre vs ns:=by
 intro ns
 induction ns with
|nil=>
  intro vs w;rw[fc]at w;cases w;exact .nil
|cons n ns j=>
  intro vs w;rw[D3]at w;cases w with
  |cons a b=>
   cases a;exact .cons _ _ (j _ b)
def Qfi{l:OpenLaw}(hn:l.most=zo n){h:Heap}(j:l.row.toRowW.claim.pre args=zb)(S:WellAll P h z args):
  ∃a vs ns,z=[bc a]/\args=[WData.list (ns.map WData.int)]/\h.get? a=zo {cls:=.type "list",data:=.seq vs.toArray}/\IntsAre vs ns/\ns.length<=n:=by
 have U:WShape.hasAll [] args [.list .int]=zb:=(pre_splitW j).1;have Y:l.pre.holds [] {args:=args}=zb:=(pre_splitW j).2;obtain⟨d,r,rfl,h1,h2⟩:=hasAllW_cons U;obtain rfl:=hasAllW_nil h2;obtain⟨xs,rfl,h3⟩:=hasW_list h1;obtain⟨ns,rfl⟩:=items_int h3;have I:ns.length<=n:=by
  unfold OpenLaw.pre at Y;have J:(WTm.not (.lt (.lit (.int (n:Int))) (.len (.arg 0)))).holds [] {args:=[.list (ns.map .int)]}=zb:=by
   have J:=(holds_andW Y).1;rw[hn]at J;exact J
  have O:=condW_of J (w_not (w_lt w_lit (w_len_list (w_arg rfl))));rw[O1]at O;refine Nat.le_of_not_lt λq=>?_
  have Z:(n:Int)<((ns.length:Nat):Int):=by omega
  first
   |(rw[bY Z]at O;exact absurd O (by decide))
   |(simp at O;omega)
 cases S with
|cons w1 w2=>
  cases w2;cases w1 with
  |list ho G=>exact⟨_,_,ns,rfl,rfl,ho,Q2b ns _ G,I⟩
def Qfq(l:OpenLaw)args:l.row.toRowW.claim.post args (.bool zb) args=zb:=
 postW_of (r:=l.row.toRowW) (X:=(zb==zb))
  (show WShape.has [] (.bool zb) .bool=zb by first|rfl|decide|simp[WShape.has,WShape.arms,WShape.armsAll])
  (show(WTm.eq .res (.lit (.bool zb))).value [] {args:=args,res:=zo (.bool zb),after:=args}=zo (.bool (zb==zb))from w_eq_bool (w_res rfl) w_lit) rfl
def attach_call{l:OpenLaw}{YP:aJ->Heap->Prop}{d:DefRec}(hn:l.most=zo n)(a4:d.params.defaults=[])(call:∀w(s₀ j:aC)(mg mb:Str->Option aA)O(o:Obj)pm cd J a(vs:List aA)(ns:List Int),
   Ground q z [] XP w s₀ mg mb j.heap->YP w j.heap->
   j.heap.get? O=zo o->o.data=.func (docDef d.name d.params d.body d.scope pm cd J)->j.heap.CodeRec cd d.name->mg d.name=zo (.ref O)->
   j.heap.get? a=zo {cls:=.type "list",data:=.seq vs.toArray}->IntsAre vs ns->ns.length<=n->j.gens=#[]->
   codeAny (aI l.prog w) callerA (.call (.ref O) ⟨[.ref a],[]⟩) (λr s'=>r=.ok (.ret (.bool zb))/\OldK j.heap s'.heap/\s'.os=j.os/\AllBare s'.gens) j):
  WalkO q z XP YP l.row.toRowW d [] (λf vs=>fh f vs):=by
 intro w s₀ j mg mb G Y O o pm cd J dV kV ho hd a1 hD a2 hg args a6 as S a5 a7 a3 a8;obtain rfl:dV=.none:=Dflts.none hD a4;obtain rfl:kV=.none:=Dflts.noKw hD;obtain⟨a,vs,ns,rfl,rfl,U,I,Z⟩:=Qfi hn S a3;refine enter_call (bN (call w s₀ j mg mb O o pm cd J a vs ns G Y ho (fd_plain hd) a1 a2 U I Z hg) λr s' hq=>?_)
 obtain⟨rfl,h2,h3,h4⟩:=hq;exact⟨.inl ⟨.bool zb,.bool zb,[],rfl,λ_=>rfl,.bool zb,Qfq l _,λ_=>⟨fi,λ_ hm=>(nomatch hm)⟩⟩,h2,h3,h4⟩
end Att
namespace L2
open PySem PySem.Spec PyProof.Rows
def Q5n:∀{vs:List aA}{ns:List Int},IntsAre vs ns->Vals (ns.map V.int) vs
|_,_,.nil=>.nil
|_,_,.cons n t h=>.cons ⟨t,rfl⟩ (Q5n h)
def Qwn(H:Hp):Prop:=∀b,H b=zl\/∃o xs,H b=zo (.frz o (.lst xs))
def Qkk{K:bZ}{mb:zAE}{CX:CXT}{sp:Sp}{j:aC}{vs:List aA}{ns:List Int}(KX:K.In j.heap)(Z:j.heap.Ns aQ mg)(I:j.heap.Ns builtinsNs mb)(a6:∀x:Str,x≠"__name__"->mb x=aX x)(Y:j.heap.NoLimit)(hg:j.gens=#[])(ha:j.heap.get? a=zo {cls:=.type "list",data:=.seq vs.toArray})(hi:IntsAre vs ns)(hl:ns.length<=sizeLine)(hr:Room k callerA)(F:∀base:Heap,K.In base->base.Ns aQ mg->FnOk P w K mg base CX k fa fd [x] sp)(S:∀s u,BindsTo s fd ⟨[u],[]⟩ [(x,u)])(a4:∀H:Hp,Qwn H->SqL K H a (ns.map V.int)->sp [.ref a] H (λv _=>v=.bl zb) λ_ _ _=>False)(a5:∀H e s',CX [] H j (λ_ _ _=>False) e s'->False):
  codeAny (aI P w) callerA (.call (.ref fa) ⟨[.ref a],[]⟩) (λr s'=>r=.ok (.ret (.bool zb))/\OldK j.heap s'.heap/\s'.os=j.os/\AllBare s'.gens) j:=by
 have rv:=Q5n hi;have a1:=hi.length;have O:∀H:Hp,Qwn H->SqL K H a (ns.map V.int)->HOk P w H j.heap->(∀b,H b≠zl->b=a)->(H a≠zl->K.lookup a=zl)->
   codeAny (aI P w) callerA (.call (.ref fa) ⟨[.ref a],[]⟩) (λr s'=>r=.ok (.ret (.bool zb))/\OldK j.heap s'.heap/\s'.os=j.os/\AllBare s'.gens) j:=by
  intro H hO hS hok hA hK;have G:∀{b:aB}{o:Obj},j.heap.get? b=zo o->H b=zl->(Q88 j.heap H).get? b=zo o:=λe n=>Qm7 e n
  have a3:∀{b:aB}{o:Obj}{es:Array DictEntry}{ep:Nat},j.heap.get? b=zo o->o.data=.dict es ep->H b=zl:=λ{b o es ep} e d=>by
   cases q:H b with
   |none=>rfl
   |some u=>
    have e':b=a:=hA b (by rw[q];simp);subst e';rw[ha]at e;cases e;have d':Data.seq vs.toArray _=Data.dict es ep:=d;cases d'
  have J:∀{b:aB}{m:zAE},j.heap.Ns b m->(Q88 j.heap H).Ns b m:=λ{b m} ⟨o,es,ep,e,d,r⟩=>⟨o,es,ep,G e (a3 e d),d,r⟩
  have U:K.In (Q88 j.heap H):=λb o e=>G (KX b o e) (by
   cases q:H b with
   |none=>rfl
   |some u=>
    have e':b=a:=hA b (by rw[q];simp);subst e';rw[hK (by rw[q];simp)]at e;cases e)
  have hM:Mod K mg (Q88 j.heap H):=⟨U,J Z,⟨mb,J I,a6⟩,let ⟨mc,h1,h2⟩:=Y;⟨mc,J h1,h2⟩⟩;have e0:Env0 P w K mg (Q88 j.heap H) callerA [] j H:=⟨rfl,hM,λb o e=>Qqm e,eN (Qgm _ _),trivial,λb I=>absurd (show b∈([]:List aB)from I) (by simp),hok,.of_eq hg⟩;refine bN ((F _ U (J Z)).run callerA [] j H ⟨[.ref a],[]⟩ [.ref a] [.ref a] _ _ hr e0 (S j (.ref a)) (.cons rfl .nil) (a4 H hO hS)) λr s' h=>?_
  cases r with
  |error e=>exact(a5 H e s' h).elim
  |ok fl=>
   cases fl with
   |next=>exact False.elim h
   |brk=>exact False.elim h
   |cont=>exact False.elim h
   |ret u=>
    obtain⟨v,H',os,bare,un,a2,r',q⟩:=h;have q':v=.bl zb:=q;subst q';obtain rfl:u=cK zb:=r';refine⟨rfl,OldK.of_keep λb o e=>?_,os,bare⟩;cases q:H b with
    |none=>exact un.keep b o e q (by intro z;exact absurd (show b∈([]:List aB)from z) (by simp)) (by simp)
    |some u=>
     rcases hO b with z|⟨ob,xs,z⟩
     ·rw[q]at z;cases z
     ·have z2:=un.frzs b ob _ z;obtain⟨e1,_⟩:=hok b _ z;obtain⟨e2,_⟩:=a2 b _ z2;rw[e]at e1;cases e1;exact e2
 cases hk:K.lookup a with
|some o=>
  have e:=KX a o hk;rw[ha]at e;cases e;refine O (λ_=>zl) (λ_=>.inl rfl) (.inr ⟨_,vs.toArray,_,hk,rfl,rfl,rfl,by rw[O8,a1];exact hl,by simpa using rv⟩) (λb u z=>by have z':(zl:Option HO)=zo u:=z;cases z') (λb z=>absurd rfl z) λz=>absurd rfl z
|none=>
  refine O (λb=>if b=a then zo (.frz {cls:=.type "list",data:=.seq vs.toArray} (.lst (ns.map V.int)))else zl) (λb=>?_) (.inl (.inr ⟨{cls:=.type "list",data:=.seq vs.toArray},bU rfl⟩)) (λb u z=>?_) (λb z=>?_) λ_=>hk
  ·by_cases I:b=a
   ·exact .inr ⟨_,_,bU I⟩
   ·exact .inl (bV I)
  ·by_cases I:b=a
   ·have z':=(bU I).symm.trans z;cases z';subst I;exact⟨ha,by rw[O1];exact hl,vs,_,rv,ha⟩
   ·have z':=(bV I).symm.trans z;cases z'
  ·by_cases I:b=a
   ·exact I
   ·exact absurd (bV I) z
def walk_of{l:fj}{YP:aJ->Heap->Prop}{d:DefRec}{K:Params->bZ}{CX:aJ->CXT}{sp:aJ->Sp}(hn:l.most=zo n)(a3:n<=sizeLine)(a2:d.params.defaults=[])(hr:Room k callerA)(hY:∀(w:aJ)h,YP w h->(K w.params).In h)(F:∀(w:aJ)(mg:zAE)S(h:Heap),(K w.params).In h->h.Ns aQ mg->mg d.name=zo (.ref S)->
   ∃fd:aP,(∀s u,BindsTo s fd ⟨[u],[]⟩ [(x,u)])/\
    ∀base:Heap,(K w.params).In base->base.Ns aQ mg->FnOk l.prog w (K w.params) mg base (CX w) k S fd [x] (sp w))(U:∀(w:aJ)H a(ns:List Int),ns.length<=n->Qwn H->SqL (K w.params) H a (ns.map V.int)->sp w [.ref a] H (λv _=>v=.bl zb) λ_ _ _=>False)(a1:∀w H s e s',CX w [] H s (λ_ _ _=>False) e s'->False):
  iD q I XP YP l.row.toRowW d [] (λf vs=>fh f vs):=by
 refine Att.attach_call hn a2 λw s₀ J mg mb S o pm cd a5 a vs ns G Y ho hd a4 Z O z j hg=>?_
 have KX:=hY w _ Y;obtain⟨fd,hb,hF⟩:=F w mg S _ KX G.T.g Z;exact Qkk KX G.T.g G.T.b G.T.builtins G.T.nolimit hg O z (E8 j a3) hr hF hb (λH hO hS=>U w H a ns j hO hS) λH e s'=>a1 w H J e s'
def Yt(s:aL):Arguments:=match s with
|.FunctionDef _ a _ _ _ _ _ _ _ _=>a
|_=>{posonlyargs:=[],args:=[],vararg:=zl,kwonlyargs:=[],kw_defaults:=[],kwarg:=zl,defaults:=[]}
def Z7(s:aL):List aL:=match s with
|.FunctionDef _ _ b _ _ _ _ _ _ _=>b
|_=>[]
def Q9(s:aL):Scope:=match s with
|.FunctionDef _ _ _ _ _ _ sc _ _ _=>sc
|_=>{kind:=.function,names:=[],isGenerator:=yo,isCoroutine:=yo}
abbrev E0:XK:=λ_ _ _=>False
structure Fun(K:bZ)(x qual:Str)(st:aL)(f:aB)(fd:aP):Prop where
ex:∃(oc:aA)(od:Option aB)(kV doc pm:aA)(an:Option aB)(cdv ct:aA)(osl:Array (Option aA)),
 fd=cB x qual (Yt st) (Z7 st) (Q9 st) .none kV doc pm an cdv ct/\K.lookup f=zo ⟨oc,od,.func fd,osl⟩/\cv K cdv qual=zb
kp:cL K (.ref f)=zb
variable{P:aK}{K:bZ}{mg:zAE}{base:Heap}
section
variable{w:aJ}
def Fun.binds {x qual:Str} {st:aL} {f:aB} {fd:aP} {ps:List Str} (F:Fun K x qual st f fd)
  (h:∀(kV q I:aA)(z:Option aB)(j ct:aA)(G:List aA),G.length=ps.length->bindArgs (cB x qual (Yt st) (Z7 st) (Q9 st) .none kV q I z j ct) ⟨G,[]⟩=pure (ps.zip G)):Binds K fd ps []:=by
 obtain⟨U,S,kV,q,I,z,j,ct,J,rfl,Y,O⟩:=F.ex;exact .all (h kV q I z j ct)
def Qmd {x qual:Str} {st:aL} {f:aB} {O:aA} {J G:Option aB} {z:Array (Option aA)} {kV q I j ct:aA} (l:K.lookup f=zo ⟨O,J,.func (cB x qual (Yt st) (Z7 st) (Q9 st) .none kV q I G j ct),z⟩)
  (c:cv K j qual=zb) (k:cL K (.ref f)=zb):Fun K x qual st f (cB x qual (Yt st) (Z7 st) (Q9 st) .none kV q I G j ct):=⟨⟨O,J,kV,q,I,G,j,ct,z,rfl,l,c⟩,k⟩
end
variable{X:Cx}
def pv i(z:X.N[i]?=zo x:=by rfl)(q:Vis X.env.scope x:=by first|exact .inl rfl|exact .inr (.inl rfl)|exact .inr (.inr rfl))(hd:(x==("__debug__":Str))=yo:=by decide)(j:(x==("__classdict__":Str))=yo:=by decide):PE X (.Name x pos) (Qxd i):=Qjf z q hd j
def Qvw{A B:Prop}(h:B):if yo=zb then A else B:=by
 rw[bV O9];exact h
def J24{A B:Prop}(h:A):if zb=zb then A else B:=by
 rw[bU rfl];exact h
def Same(H H':Hp):Prop:=∀b o,H b=zo o->H' b=zo o
def Same.refl H:Same H H:=λ_ _ h=>h
def Qcv {scope:Scope} {env:Env} (h:∀x∈scope.names,x.2=.free->∃c,env.cells.lookup x.1=zo c):
  ∃cl,closureFor scope env=pure cl/\(∀x c,cl.lookup x=zo c->env.cells.lookup x=zo c)/\(∀x∈scope.names,x.2=.free->∃c,cl.lookup x.1=zo c):=by
 have a2:∀(l:List (Str×aw))(acc:List (Str×aB)),(∀x∈l,x.2=.free->∃c,env.cells.lookup x.1=zo c)->(∀x c,acc.lookup x=zo c->env.cells.lookup x=zo c)->
   ∃cl,(forIn l acc λ(x:Str×aw) (r:List (Str×aB))=>(match x with
    |(name,kind)=>if(kind==NameKind.free)=zb then(do let c<-cellOf env name;pure (ForInStep.yield ((name,c)::r)))else(do pure PUnit.unit;pure (ForInStep.yield r)):Sem (ForInStep (List (Str×aB)))))=pure cl/\
    (∀x c,cl.lookup x=zo c->env.cells.lookup x=zo c)/\(∀x∈l,x.2=.free->∃c,cl.lookup x.1=zo c)/\(∀x c,acc.lookup x=zo c->∃q,cl.lookup x=zo q):=by
  intro l
  induction l with
  |nil=>intro acc _ Z;exact⟨acc,rfl,Z,λx Y=>(by simp at Y),λx c e=>⟨c,e⟩⟩
  |cons x r ih=>
   intro acc hl Z;obtain⟨n,k⟩:=x
   by_cases hk:k=.free
   ·subst hk;obtain⟨c,hc⟩:=hl (n,.free) E7 rfl;have a1:∀x q,((n,c)::acc).lookup x=zo q->env.cells.lookup x=zo q:=λx q e=>by
     rw[cS]at e
     by_cases Y:x=n
     ·subst Y;simp at e;rw[<- e];exact hc
     ·have:(x==n)=yo:=by simpa using Y
      rw[this]at e;exact Z x q e
    obtain⟨cl,S,I,J,O⟩:=ih ((n,c)::acc) (λy j=>hl y (O3 _ j)) a1
    refine⟨cl,?_,I,λy j U=>?_,λy q e=>?_⟩
    ·rw[fk];have G:cellOf env n=pure c:=by unfold cellOf;rw[hc]
     simp only[beq_self_eq_true,if_true,G];exact S
    ·rcases D7.mp j with e|j
     ·subst e;exact O n c (by simp)
     ·exact J y j U
    ·by_cases j:y=n
     ·subst j;exact O y c (by simp)
     ·have:(y==n)=yo:=by simpa using j
      exact O y q (by rw[cS,this];exact e)
   ·obtain⟨cl,S,I,J,O⟩:=ih acc (λy j=>hl y (O3 _ j)) Z
    refine⟨cl,?_,I,λy j U=>?_,O⟩
    ·rw[fk];have:(k==NameKind.free)=yo:=by simpa using hk
     simp only[this,F5,if_false];exact S
    ·rcases D7.mp j with e|j
     ·subst e;exact absurd U hk
     ·exact J y j U
 obtain⟨cl,S,I,J,_⟩:=a2 scope.names [] h (λx c e=>by simp at e);refine⟨cl,?_,I,J⟩;unfold closureFor;exact(congrArg (λz=>z>>=pure) S).trans rfl
def Q0d(f:Str->aw->aw)x:∀l:List (Str×aw),(l.map λy=>(y.1,f y.1 y.2)).lookup x=(l.lookup x).map (f x)
|[]=>rfl
|(n,k)::r=>by
  have q:=Q0d f x r;rw[D3,cS,cS]
  by_cases j:x=n
  ·subst j;simp
  ·have z:(x==n)=yo:=by simpa using j
   rw[z];exact q
def j7{scope:Scope}{env:Env}:(relabel scope env).names.lookup x=
  (scope.names.lookup x).map λk=>if(k==.free&&env.scope.kind==.function&&env.kindOf x==zo .cell)then .cell else k:=by
 rw[<- Q0d (λn k=>if(k==.free&&env.scope.kind==.function&&env.kindOf n==zo .cell)then .cell else k)]
 unfold relabel;refine congrArg (List.lookup x) (M9 λy _=>?_);obtain⟨n,k⟩:=y;show(if(k==NameKind.free&&env.scope.kind==.function&&env.kindOf n==zo .cell)=zb then(n,NameKind.cell)else(n,k))=_
 split<;>rfl
def Q0q(cap:zAC)(σ:St):St:=cap.map λc=>c.bind λj=>(σ[j]?).join
def HOk.same{H:Hp}(ok:HOk P w H h)(z:H a=zl)(hs:Heap.SameBut a h h'):HOk P w H h':=λb ob e=>by
 refine(ok b ob e).stay (λc G j q=>(hs.2 c ?_).trans q) (λ_ q=>q) λ_ _ q=>q
 rintro rfl;rcases j with rfl|j
 ·rw[z]at e;cases e
 ·rw[z]at j;cases j
def HasItems(t:Bool)(h:Heap)(a:aB)(items:Array aA):Prop:=if t=zb then h.IsTuple a items else h.IsList a items
def IterAt(t:Bool)(h:Heap)(it a:aB)(i:Nat):Prop:=if t=zb then h.IsTupleIter it a i else h.IsListIter it a i
def HasItems.at{h h':Heap}(x:HasItems t h a j)(k:∀o,h.get? a=zo o->h'.get? a=zo o):HasItems t h' a j:=by
 cases t
 ·exact Heap.IsList.at x k
 ·obtain⟨o,e,r⟩:=x;exact⟨o,k o e,r⟩
def HasItems.there{h:Heap}(x:HasItems t h a j):∃o,h.get? a=zo o:=by
 cases t
 ·obtain⟨o,e,_⟩:=x;exact⟨o,e⟩
 ·obtain⟨o,e,_⟩:=x;exact⟨o,e⟩
def IterAt.at{h h':Heap}(x:IterAt t h it a i)(k:∀o,h.get? it=zo o->h'.get? it=zo o):IterAt t h' it a i:=by
 cases t
 ·exact Heap.IsListIter.at x k
 ·obtain⟨o,e,r⟩:=x;exact⟨o,k o e,r⟩
def IterAt.there{h:Heap}(x:IterAt t h it a i):∃o,h.get? it=zo o/\∀v,o.data≠.cell v:=by
 cases t
 ·obtain⟨o,e,_,d⟩:=x;exact⟨o,e,λv z=>by rw[d]at z;cases z⟩
 ·obtain⟨o,e,_,d⟩:=x;exact⟨o,e,λv z=>by rw[d]at z;cases z⟩
variable{prog:aK}{A:aO}{E:zAD}{s:aC}
section
variable{w:aJ}
def Q06{items}{Q:zAD}(j:s.heap.IsTupleIter it l i)(O:s.heap.IsTuple l items)(J:items[i]?=zo x)(S:∀h',h'.IsTupleIter it l (i+1)->Heap.SameBut it s.heap h'->Q x {s with heap:=h'}):
  aF (aI prog w) A (Builtin.SmallTypes.nextOf (.ref it)) Q E s:=by
 obtain⟨o,q,I,hd⟩:=id j;obtain⟨U,G,_,nl,z⟩:=O;unfold Builtin.SmallTypes.nextOf;refine aD (wpAny_callSpecial?_slot (name:=cY "__next__") j.typeIs F.slot_tuple_iterator_next
  (af F.slot_tuple_iterator_next j.typeIs F.entry_tuple_iterator_next ?_ (F.args_tuple_iterator_next_1 _)))
 show aF _ _ (field (.ref it) 0>>=_) _ _ s;refine aD (ar q hd (x:=.ref l) rfl ?_);show aF _ _ (if(bc l==bi)=zb then _ else _) _ _ s;rw[bV (show ¬((bc l==bi)=zb)from O9)];show aF _ _ (field (.ref it) 1>>=_) _ _ s;refine aD (ar q hd (x:=.int i 0) rfl ?_);show aF _ _ (seqItems? (.ref l)>>=_) _ _ s;refine aD (bD G z ?_);simp only[bw,J];refine aD (wpAny_setField q hd (by simp) (wpAny_pure ⟨x,rfl,wpAny_pure (S _ ?_ (Heap.SameBut.update ..))⟩));exact⟨_,G7 _ q (dj (cZ hd _)),(fm ..).trans I,by
  rw[cZ hd];simp[aU]⟩
def Q18{items}(I:A.handled=zl)(j:s.heap.IsTupleIter it l i)(S:s.heap.IsTuple l items)(O:items[i]?=zl)(J:∀h' e,Heap.ExtBut it s.heap h'->(∃o,h'.get? e=zo o/\o.cls=.type "StopIteration")->E (.ref e) {s with heap:=h'}):
  aF (aI prog w) A (Builtin.SmallTypes.nextOf (.ref it)) Q E s:=by
 obtain⟨o,G,Y,hd⟩:=id j;obtain⟨U,z,_,nl,q⟩:=S;unfold Builtin.SmallTypes.nextOf;refine aD (wpAny_callSpecial?_slot (name:=cY "__next__") j.typeIs F.slot_tuple_iterator_next
  (af F.slot_tuple_iterator_next j.typeIs F.entry_tuple_iterator_next ?_ (F.args_tuple_iterator_next_1 _)))
 show aF _ _ (field (.ref it) 0>>=_) _ _ s;refine aD (ar G hd (x:=.ref l) rfl ?_);show aF _ _ (if(bc l==bi)=zb then _ else _) _ _ s;rw[bV (show ¬((bc l==bi)=zb)from O9)];show aF _ _ (field (.ref it) 1>>=_) _ _ s;refine aD (ar G hd (x:=.int i 0) rfl ?_);show aF _ _ (seqItems? (.ref l)>>=_) _ _ s;refine aD (bD z q ?_);simp only[bw,O];refine aD (bQ (aD (wpAny_setField G hd (by simp) ?_)));show aF _ _ (newExc (.type "StopIteration") []>>=_) _ _ _;refine aD ?_;simp only[newExc,newTuple];refine aD (au ?_ (by size_fits));refine aD (m:=firstArgMember _ _) (wpAny_of_eq (a:=bi) (by first|rfl|(simp only[firstArgMember];rfl)) ?_);refine au ?_ (by size_fits);simp only[bS]
 refine aD (wpAny_handled ?_)
 first|rw[show A.in1.handled=zl from I]|rw[I]
 refine aD (wpAny_pure (wpAny_throw ?_));exact J _ _ (((Heap.SameBut.update ..).extBut.push _).push _) ⟨_,D4 _ rfl,rfl⟩
def Q9x{Q:zAD}(q:IterAt t s.heap it l i)(G:HasItems t s.heap l j)(z:j[i]?=zo x)(I:∀h',IterAt t h' it l (i+1)->Heap.SameBut it s.heap h'->Q x {s with heap:=h'}):
  aF (aI prog w) A (Builtin.SmallTypes.nextOf (.ref it)) Q E s:=by
 cases t
 ·exact wpAny_nextOf_list_item q G z I
 ·exact Q06 q G z I
def Q43(J:A.handled=zl)(q:IterAt t s.heap it l i)(I:HasItems t s.heap l j)(G:j[i]?=zl)(z:∀h' e,Heap.ExtBut it s.heap h'->(∃o,h'.get? e=zo o/\o.cls=.type "StopIteration")->E (.ref e) {s with heap:=h'}):
  aF (aI prog w) A (Builtin.SmallTypes.nextOf (.ref it)) Q E s:=by
 cases t
 ·exact wpAny_nextOf_list_end J q I G z
 ·exact Q18 J q I G z
def zk(t:Bool)(l:aB):Obj:=if t=zb then {cls:=.type "tuple_iterator",data:=.fields #[.ref l,.int 0 0]}else {cls:=.type "list_iterator",data:=.fields #[.ref l,.int 0 0]}
def Q3h{Q:zAD}(z:HasItems t s.heap l j)(q:Q (.ref s.heap.objs.size) {s with heap:=s.heap.push (zk t l)}):aF (aI prog w) A (pyIter (.ref l)) Q E s:=by
 cases t
 ·exact wpAny_pyIter_list z q
 ·exact bL z q
def Qch{h:Heap}(e:h.get? it=zo (zk t l)):IterAt t h it l 0:=by
 cases t
 ·exact⟨_,e,rfl,rfl⟩
 ·exact⟨_,e,rfl,rfl⟩
def Q85 t l:(zk t l).isFreed=yo:=by cases t<;>rfl
end
def SqK(K:bZ)(t:Bool)(H:Hp)(a:aB)(xs:List V):Prop:=if t=zb then SqT K H a xs else SqL K H a xs
variable{pins:zAA}{σ:St}{H:Hp}
def Inv.seqK{xs:List V}(I:Inv X pins σ H s)(h:SqK X.K t H a xs):∃its:List aA,Vals xs its/\HasItems t s.heap a its.toArray/\xs.length<=sizeLine:=by
 cases t
 ·obtain⟨its,r,p,z⟩:=I.list h;exact⟨its,r,p.isList,z⟩
 ·obtain⟨its,r,p,z⟩:=I.tuple h;exact⟨its,r,p,z⟩
def Inv.seqK_inj(I:Inv X pins σ H s)(h:SqK X.K t H a xs)(h':SqK X.K t H a ys):xs=ys:=by
 cases t
 ·exact I.list_inj h h'
 ·exact I.tuple_inj h h'
def Inv.turnedL{t':Nat}{its:List aB}{h':Heap}(I:Inv X pins σ H s)(k:∀b o,b∉its->s.heap.get? b=zo o->h'.get? b=zo o)(J:∀b∈its,Q57 X pins H b):Inv X pins σ H {s with heap:=h',toks:=t'}:=by
 have G:∀b u,H b=zo u->b∉its:=λb u e z=>by rw[(J b z).1]at e;cases e
 refine I.step (g':=s.gens) (d':=s.drawn) (ch:=its) (λb S=>?_) (λb o _ _ j e _=>k b o j e) (λb o _ _ j e _=>⟨o.slots,k b o j e⟩) (λ_ _ _ _ n=>n)
  (λb o j e=>⟨o,k b o j e⟩) (λ_ _ e=>e) (λ_ _ _ e=>e) (λb ps e=>⟨#[],by rw[e];simp⟩) (λm hm=>?_) (λb u e=>?_) I.bare
 ·obtain⟨f0,U,f2,Y,f4,O⟩:=J b S;exact⟨Y,U,f4,O⟩
 ·obtain⟨o,es,ep,Z,r⟩:=hm;exact⟨o,es,ep,k _ o (λz=>(J _ z).2.1 rfl) Z,r⟩
 ·refine(I.hok b u e).stay (λc v j q=>k c v ?_ q) (λ_ q=>q) λ_ _ q=>q
  rcases j with z|z
  ·rw[z];exact G b u e
  ·exact G c _ z
def Qhd(G:A.handled=zl)t I q(z:q≠I)(j:Array aA):
  Walks prog w A I [I,q] [I] j.size (λi v=>j[i]?=zo v) (λi h=>IterAt t h I q i/\HasItems t h q j):=by
 cases t
 ·exact Walks.list G I q z j
 ·exact Walks.tuple G I q z j
def Qef{α:Type}(l:List α)d(h:n<l.length):l.getD n d=l[n]:=by simp[dO,h]
def Inv.movedNew(I:Inv X pins σ H s)(m:Moved [s.heap.objs.size] (λa b=>b=a) {s with heap:=s.heap.push o} s'):Inv X pins σ H s':=by
 obtain⟨m1,m2,m3,m4,m5⟩:=m;obtain⟨h',g',d',t',o'⟩:=s';have G:g'=s.gens:=m2;have j:d'=s.drawn:=m3;have q:o'=s.os:=m4;subst G j q;refine I.kept (t':=t') λb u e=>m1 b u (λz=>?_) (O4 _ e)
 have:b=s.heap.objs.size:=by simpa using z
 exact absurd (D0 e) (by rw[this];exact N1 _)
def Qai{ns:List Int}{its:List aA}(r:Vals (ns.map V.int) its):∀i v,its.toArray[i]?=zo v->∃t,v=df (ns.getD i 0) t:=λi v e=>by
 have j:its[i]?=zo v:=by simpa using e
 have hi:i<its.length:=(O0.mp j).1;have z:=r.length;rw[O1]at z;have G:(ns.map V.int)[i]?=zo (V.int (ns.getD i 0)):=by
  have:i<ns.length:=by omega
  simp[dO,this]
 obtain⟨u,q,t,ru⟩:=r.get G;rw[j]at q;cases q;exact⟨t,ru⟩
def Qh7{bs:List Bool}{its:List aA}(r:Vals (bs.map V.bl) its):∀i v,its.toArray[i]?=zo v->v=cK (bs.getD i yo):=λi v e=>by
 have j:its[i]?=zo v:=by simpa using e
 have hi:i<its.length:=(O0.mp j).1;have z:=r.length;rw[O1]at z;have G:(bs.map V.bl)[i]?=zo (V.bl (bs.getD i yo)):=by
  have:i<bs.length:=by omega
  simp[dO,this]
 obtain⟨u,q,ru⟩:=r.get G;rw[j]at q;cases q;exact ru
def Q0g(G:HasItems t s.heap l j):l≠s.heap.objs.size/\
  (IterAt t (s.heap.push (zk t l)) s.heap.objs.size l 0/\HasItems t (s.heap.push (zk t l)) l j)/\∀b∈[s.heap.objs.size,l],b<(s.heap.push (zk t l)).objs.size:=by
 obtain⟨o,e⟩:=G.there;have q:=D0 e;refine⟨F0 q,⟨Qch (D4 _ (Q85 _ _)),G.at λo e=>O4 _ e⟩,λb z=>?_⟩
 rw[L6];simp at z;rcases z with rfl|rfl
 ·exact dP _
 ·exact dB q
def Qfk(bs:List Bool):(ba bs.length).all (λi=>bs.getD i yo)=bs.all id:=by
 induction bs with
|nil=>rfl
|cons b r j=>
  rw[D6,fo,cP,cH,cP,<- j];rfl
def Qmy t(J:X.calm=zb):W6 X (.builtin "all") (λxs H Q=>∃(a:aB)(bs:List Bool),xs=[.ref a]/\SqK X.K t H a (bs.map V.bl)/\Q (.bl (bs.all id)) H):=by
 intro pins s σ H xs us Q I r h;obtain⟨a,bs,rfl,Z,q⟩:=h;obtain⟨u,rfl,Y⟩:=Uy r;cases Y;obtain⟨its,G,p,_⟩:=I.seqK Z;obtain⟨S,w2,w3⟩:=Q0g p;have z:=G.length;rw[O1]at z;refine call_all_walkS (Q3h p ⟨_,_,_,_,_,_,_,λj=>bs.getD j yo,rfl,(Qhd (A:=X.A.in1) (I.ok.hd J) t _ a S its.toArray).toS,w2,λi v s' Q' E' O U=>?_,λs' m=>?_⟩)
 ·rw[Qh7 G i v O];exact bE U
 ·refine⟨.bl (bs.all id),H,I.movedNew m,?_,q⟩;show cK _=_;rw[O8,<- z,Qfk]
def Qh0 t(hc:X.calm=zb):W6 X (.builtin "min") (λxs H Q=>∃(a:aB)(ns:List Int),xs=[.ref a]/\SqK X.K t H a (ns.map V.int)/\ns≠[]/\∀m,m∈ns->(∀k,k∈ns->m<=k)->Q (.int m) H):=by
 intro pins s σ H xs us Q I r h;obtain⟨a,ns,rfl,hq,z,q⟩:=h;obtain⟨u,rfl,Y⟩:=Uy r;cases Y;obtain⟨its,G,p,_⟩:=I.seqK hq;obtain⟨U,w2,Z⟩:=Q0g p;have hl:=G.length;rw[O1]at hl;have S:0<ns.length:=iE.mpr z;refine call_min_walkS (Q3h p ⟨_,_,_,_,_,_,_,_,rfl,(Qhd (A:=X.A.in1) (I.ok.hd hc) t _ a U its.toArray).toS,w2,Z,by rw[O8];omega,CmpOf.ints_lt (λj=>ns.getD j 0) (λi v J=>Qai G i v J),λv s' J m=>?_⟩);obtain⟨t',rfl⟩:=Qai G _ _ J;obtain⟨h1,h2⟩:=argBest_lt (λj=>ns.getD j 0) (its.toArray.size-1);have O:argBest (λi j=>decide (ns.getD i 0<ns.getD j 0)) (its.toArray.size-1)<ns.length:=by
  have e':its.toArray.size=ns.length:=by rw[O8];omega
  rw[e']at h1 ⊢;exact Nat.lt_of_le_of_lt h1 ()
 refine⟨.int (ns.getD (argBest (λi j=>decide (ns.getD i 0<ns.getD j 0)) (its.toArray.size-1)) 0),H,I.movedNew m,⟨t',rfl⟩,q _ ?_ λk hk=>?_⟩
 ·rw[Qef _ _ O];exact L5 O
 ·obtain⟨j,hj,rfl⟩:=List.mem_iff_getElem.mp hk;have:=h2 j (by rw[O8];omega);rw[Qef _ _ hj]at this;exact this
def Qw4(S:A.handled=zl)t it l(G:l≠it)(j:Array aA):
  Draws prog w A it [it,l] j.size (λi v=>j[i]?=zo v) (λi h=>IterAt t h it l i/\HasItems t h l j) where
 live:=λ_ _ st=>let ⟨o,e,_⟩:=st.1.there;⟨o,e⟩
 frame:=λ_ _ _ st I=>⟨st.1.at λo e=>I it (by simp) o e,st.2.at λo e=>I l (by simp) o e⟩
 item:=λi s Q E hi st O=>by
  refine Q9x st.1 st.2 (x:=j[i]) (by simp[hi]) λh' q z=>?_
  exact O _ h' s.toks (by simp[hi]) ⟨q,st.2.at λo e=>z.extBut _ _ G e⟩ z
 done:=λs Q E st J=>Q43 S st.1 st.2 (by simp) J
def Qa6 l j n G J:
  Meets (Builtin.«enumerate.__new__» ⟨[.type "enumerate",.ref l],[]⟩) (λ_ R s=>s.heap.get? l=zo {cls:=.type "tuple",dict:=G,data:=.seq j n,slots:=J}/\
   R (.ok (.ret (.ref (s.heap.push {cls:=.type "tuple_iterator",data:=.fields #[.ref l,.int 0 0]}).objs.size)))
    {s with heap:=(s.heap.push {cls:=.type "tuple_iterator",data:=.fields #[.ref l,.int 0 0]}).push {cls:=.type "enumerate",data:=.fields #[.none,.bool yo,.ref s.heap.objs.size,aU 0,.none,.none]}}):=
 .of_wp λprog w A R s h=>by
  obtain⟨O,g,d,tk,os⟩:=s;obtain⟨q,h⟩:=h;have I:=sub_enumerate;have z:Heap.IsTuple (Shared.heap ⟨O,g,d,tk,os⟩) l j:=⟨_,q,rfl,n,rfl⟩
  wp_walk using AutoSeq1.wpAny_loadPart' q
  refine wpAny_stack_any λst=>wpAny_pure ?_
  split
  ·rename_i c _ _ _ _ _;cases (c==bu "enumerate")
   ·wp_walk using AutoSeq1.wpAny_loadPart' q,bL z
    exact⟨_,rfl,h⟩
   ·wp_walk using AutoSeq1.wpAny_loadPart' q,bL z
    exact⟨_,rfl,h⟩
  ·wp_walk using AutoSeq1.wpAny_loadPart' q,bL z
   exact⟨_,rfl,h⟩
section
variable{w:aJ}
def Qcz{Q:zAD}(I:s.heap.IsTuple l j)(h:∀h',IsEnum h' (s.heap.objs.size+1) s.heap.objs.size 0 .none->h'.IsTupleIter s.heap.objs.size l 0->h'.objs.size=s.heap.objs.size+2->
   (∀b o,s.heap.get? b=zo o->h'.get? b=zo o)->Q (.ref (s.heap.objs.size+1)) {s with heap:=h'}):
  aF (aI prog w) A (call (.type "enumerate") [.ref l]) Q E s:=by
 obtain⟨⟨c,q,G,J⟩,hl,hc,n,hd⟩:=I;replace hc:c=.type "tuple":=hc;replace hd:G=.seq j n:=hd;subst hc hd;refine callType_new F.called_enumerate (by decide) (F.typeCall_enumerate_1 _) (F.newCall_enumerate_1 _) (λobj=>F.args_object_init_2 obj _) F.entry_enumerate_new
  (Qa6 l j n q J) ⟨hl,?_⟩
 have hz:(s.heap.push { cls:=.type "tuple_iterator",data:=.fields #[.ref l,.int 0 0] }).objs.size=s.heap.objs.size + 1:=L6 ..;show _/\_;rw [hz];have z:IsEnum ((s.heap.push { cls:=.type "tuple_iterator",data:=.fields #[.ref l,.int 0 0] }).push
   {cls:=.type "enumerate",data:=.fields #[.none,.bool yo,.ref s.heap.objs.size,aU 0,.none,.none]}) (s.heap.objs.size+1) s.heap.objs.size 0 .none:=by
  have:=D4 (s.heap.push {cls:=.type "tuple_iterator",data:=.fields #[.ref l,.int 0 0]})
   (o:={cls:=.type "enumerate",data:=.fields #[.none,.bool yo,.ref s.heap.objs.size,aU 0,.none,.none]}) rfl
  rw[hz]at this;exact this
 refine⟨⟨_,z,rfl⟩,h _ z ⟨_,O4 _ (D4 _ rfl),rfl,rfl⟩ (by rw[L6,hz]) λb o x=>O4 _ (O4 _ x)⟩
def Qd0{Q:zAD}(q:HasItems t s.heap l j)(h:∀h',IsEnum h' (s.heap.objs.size+1) s.heap.objs.size 0 .none->IterAt t h' s.heap.objs.size l 0->h'.objs.size=s.heap.objs.size+2->
   (∀b o,s.heap.get? b=zo o->h'.get? b=zo o)->Q (.ref (s.heap.objs.size+1)) {s with heap:=h'}):
  aF (aI prog w) A (call (.type "enumerate") [.ref l]) Q E s:=by
 cases t
 ·exact call_enumerate_list q h
 ·exact Qcz q h
end
def Ite(K:bZ)(t:Bool)(a:aB):It:=
 ⟨λi H=>∃xs x,SqK K t H a xs/\xs[i]?=zo x,
  λi H v H'=>∃p x,H p=zl/\v=.ref p/\H'=upd H p (.tup [.int i,x])/\∀xs,SqK K t H a xs->xs[i]?=zo x,
  λi H=>∃xs,SqK K t H a xs/\xs.length<=i⟩
def Inv.tracks{s1:aC}{xs:List V}{its:List aA}(I:Inv X pins σ H s)(j:Inv X pins σ H s1)(S:s.heap.objs.size<=p)(J:H p=zl)(rv:Vals xs its)(hz:xs.length<=sizeLine)(Z:IsTup s1.heap p its.toArray):Inv X pins σ (upd H p (.tup xs)) s1:=by
 refine⟨j.ok,j.os,j.bare,?_,j.loc,j.cell,?_,?_,?_,?_,j.len⟩
 ·have u0:=j.base;have old:∀c o,X.s₀.heap.get? c=zo o->c≠p:=λc o e=>F0 (D5 (D0 e) (E8 I.sz S))
  exact⟨u0.keep,u0.slot,λc o e n hx=>by rw[Q7 (old c o e)];exact u0.free c o e n hx,u0.there,
   λc O e=>by have:=u0.tups c O e;rw[Q7 (Qc this J)];exact this,
   λc o O e=>by have:=u0.frzs c o O e;rw[Q7 (Qc this J)];exact this,
   λc ps e=>by obtain⟨more,q⟩:=u0.tbls c ps e;exact⟨more,by rw[Q7 (Qc q J)];exact q⟩⟩
 ·rw[Q7 (F0 (D5 I.lt S))];exact I.free
 ·intro U c e;obtain⟨v',q⟩:=I.cell U c e;rw[Q7 (F0 (D5 q.lt S))];exact I.freeC U c e
 ·intro p' z;obtain⟨e,n,ne,nf,d⟩:=j.pin p' z;have Y:=(I.pin p' z).1;exact⟨e,by rw[Q7 (F0 (D5 (D0 Y) S))];exact n,ne,nf,d⟩
 ·intro c o q
  by_cases G:c=p
  ·subst G;rw[Qj]at q;cases q;exact⟨hz,its,rv,Z⟩
  ·rw[Q7 G]at q;exact(j.hok c o q).stay (λ_ _ _ r=>r) (λc' r=>by rw[Q7 (Qc r J)];exact r) λc' O r=>by rw[Q7 (Qc r J)];exact r
def Qw3(t:Bool)(e it a:aB)(i:Nat)(h:Heap):Prop:=(∃old,IsEnum h e it i old)/\IterAt t h it a i
def Qf7 {P:aK} {w:aJ} {K:bZ} {elts:List aH} {k:Nat} {pos:Pos} {t:Bool} {e it a:aB} (Y:e≠it) (a6:a≠e) (a7:a≠it):
  Turn P w K (.Tuple elts k pos) (Ite K t a) [e,it] e (Qw3 t e it a) where
 mem:=by simp
 obj:=λi h st c hc=>by
  obtain⟨⟨old,J⟩,h1⟩:=st;simp at hc;rcases hc with rfl|rfl
  ·exact⟨_,J,λv q=>by cases q⟩
  ·exact h1.there
 keep:=λi h h' st kk=>by
  obtain⟨⟨old,J⟩,h1⟩:=st;exact⟨⟨old,kk e (by simp) _ J⟩,h1.at λo q=>kk it (by simp) o q⟩
 item:=by
  intro X hP hw hK hc i pins s σ H E I hf st hg;subst hP hw hK;obtain⟨xs,x,O,hx⟩:=hg;obtain⟨⟨old,J⟩,h1⟩:=st;obtain⟨its,rv,p,_⟩:=I.seqK O;obtain⟨ux,a4,a5⟩:=rv.get hx;have a8:i<its.toArray.size:=by rw[O8];exact(O0.mp a4).1
  refine wpAny_pyNext_enum_itemD (Qw4 (A:=X.A.in1) (I.ok.hd hc) t it a a7 its.toArray) J ⟨h1,p⟩ a8 Y (by simp;exact⟨Y,λz=>a6 z.symm⟩) λx' h' tk Z ho a9 hT hsz hk=>⟨_,rfl,?_⟩
  have:x'=ux:=by
   have e1:its[i]?=zo x':=by simpa using Z
   rw[a4]at e1;exact(bt e1).symm
  subst this;refine wpAny_letOwnedTupleGo_enum (s:={s with heap:=h',toks:=tk+1}) ho λa3 U G=>?_
  have elt:e<s.heap.objs.size:=D0 J;have b2:it<s.heap.objs.size:=by obtain⟨o,q,_⟩:=h1.there;exact D0 q
  have a2:H s.heap.objs.size=zl:=I.fresh;have I1:Inv X pins σ H {s with heap:=a3,toks:=tk+1}:=I.turnedL (its:=[e,it]) (λc o j q=>(G.2 c (λz=>j (by simp[z]))).trans (hk c o (λz=>j (by simp[z])) (λz=>j (by simp[z])) q)) λc j=>hf c j
  have a1:a3.get? s.heap.objs.size=zo {cls:=.type "tuple",data:=.seq #[.int i tk,x']}:=(G.2 _ (cC elt)).trans hT;have I2:=I.tracks (xs:=[.int i,x]) (its:=[.int i tk,x']) I1 (O6 _) a2 (.cons ⟨tk,rfl⟩ (.cons a5 .nil)) (by simp only[D6,cO];rw[sizeLine_eq];decide) ⟨_,a1,rfl,0,rfl⟩;refine⟨.ref s.heap.objs.size,_,I2,rfl,⟨s.heap.objs.size,x,a2,rfl,rfl,λb3 q1=>?_⟩,?_,λc j=>?_⟩
  ·rw[I.seqK_inj q1 O];exact hx
  ·exact⟨⟨x',by simpa using U⟩,a9.1.at λo q=>G.extBut _ _ (Ne.symm Y) q⟩
  ·have:=(hf c j).1;have b0:c<s.heap.objs.size:=by simp at j;rcases j with rfl|rfl<;>assumption
   rw[Q7 (F0 b0)];exact this
 done:=by
  intro X hP hw hK hc i pins s σ H E I hf st hg;subst hP hw hK;obtain⟨xs,O,b1⟩:=hg;obtain⟨⟨old,J⟩,h1⟩:=st;obtain⟨its,rv,p,_⟩:=I.seqK O;have hl:=rv.length;have hT:s.TypeIs (.ref e) "enumerate":=⟨_,J,rfl⟩;unfold ao;refine aD (wpAny_attempt (wpAny_callSpecial?_slot (name:=cY "__next__") hT F.slot_enumerate_next
   (af F.slot_enumerate_next hT F.entry_enumerate_next ?_ (F.args_enumerate_next_1 _))))
  show aF _ _ (field (.ref e) 2>>=_) _ _ _;refine aD (ar J rfl (x:=.ref it) rfl ?_);refine aD (Q43 (I.ok.hd hc) h1 p (by simp;omega) λh' x U Z=>?_)
  obtain⟨o,ho,j⟩:=Z;refine aD (bK (T:="StopIteration") (b:=zb) ⟨o,ho,j⟩ isSubtype_stop ?_);exact wpAny_pure ⟨rfl,I.turnedL (t':=s.toks) (its:=[it]) (λc o S q=>U c o (λz=>S (by simp[z])) q) λc S=>hf c (by simp at S;simp[S])⟩
 self:=λ_ _ _ _ _ st h=>by
  obtain⟨⟨old,J⟩,_⟩:=st;exact wpAny_pyIter_enum J h
def Qzg(K:bZ)(t:Bool)(ta:TA):TI:=λσ H R=>ta σ H λvs H1=>∃a xs,vs=[.ref a]/\SqK K t H1 a xs/\R (Ite K t a) H1
def Q50:aX "enumerate"=zo (.type "enumerate"):=by decide +kernel
def Qq5 (t:Bool) {a:aH} {ta:TA} {p pos:Pos} {elts:List aH} {k:Nat} {tp:Pos} (hg:Gl X "enumerate") (hm:X.mg "enumerate"=zl) (ha:PA X [a] ta) (hs:aN [a] X.env=[(yo,aM a X.env)]:=by rfl):
  PI X (.Tuple elts k tp) (.Call (.Name "enumerate" p) [a] [] pos) (Qzg X.K t ta):=by
 intro pins s σ H R I h;refine Call_ (xb I hg hm Q50 (dg (thn (ha pos pins s σ H _ I h) λus s1 ⟨vs,H1,G,U,J⟩=>?_) hs rfl))
 obtain⟨S,xs,e,J,q⟩:=J;subst e;obtain⟨u,rfl,r⟩:=Uy U;cases r;obtain⟨its,rv,p1,_⟩:=G.seqK J;refine Qd0 p1 λh' O z2 z3 Y=>?_
 refine wpAny_pyIter_enum (s:={s1 with heap:=h'}) O ?_;have z:S<s1.heap.objs.size:=by obtain⟨o,e⟩:=p1.there;exact D0 e
 refine⟨_,[s1.heap.objs.size+1,s1.heap.objs.size],_,_,H1,rfl,G.kept (t':=s1.toks) Y,Qf7 (t:=t) (cC (dP _)) (F0 (dB z)) (F0 z),⟨⟨_,O⟩,z2⟩,λc Z=>?_,q⟩
 have j:s1.heap.objs.size<=c:=by simp at Z;unfold aB at*;omega
 exact G.fpOk j (G.hok.fresh j)
def Qie(h:H a=zl):Same H (upd H a o):=λb u e=>by rw[Q7 (Qc e h)];exact e
variable{te:TE}{H1:Hp}{Q:VK}
section
variable{cap:zAC}
abbrev g2(K:bZ):TG:=Qzk K 2 (Qmb (Q6g 0) (Qmb (Q6g 1) Qzm))
end
def Qwb:V->Option aA
|.ty n=>zo (.type n)
|.ref a=>zo (.ref a)
|_=>zl
def Qaz(e:Qwb c=zo j)(r:RelV c u):u=j:=by
 cases c with
|ty n=>cases e;exact r
|ref a=>cases e;exact r
|_=>cases e
def Qb1:W6 X (.builtin "isinstance") (λxs H Q=>∃x c j t b,xs=[x,c]/\Qwb c=zo j/\TyOf X.K H x t/\br X.K t j=zo b/\Q (.bl b) H):=by
 intro pins s σ H xs O Q I r h;obtain⟨x,c,j,t,b,rfl,G,ty,e,q⟩:=h;obtain⟨u,S,rfl,J,z⟩:=Qhf r;rw[Qaz G z];exact Qgh I J ty e λtk=>⟨.bl b,H,I.tok tk,rfl,q⟩
def Qm:aX "isinstance"=zo (.builtin "isinstance"):=by decide +kernel
def Qn6:aX "all"=zo (.builtin "all"):=by decide +kernel
def Qn4:aX "min"=zo (.builtin "min"):=by decide +kernel
def xi:aX "tuple"=zo (.type "tuple"):=by decide +kernel
def zx:aX "list"=zo (.type "list"):=by decide +kernel
def Qn5:aX "int"=zo (.type "int"):=by decide +kernel
def Qh6:aX "bool"=zo (.type "bool"):=by decide +kernel
def Qn2:aX "str"=zo (.type "str"):=by decide +kernel
end L2
namespace L2
open PySem PySem.Spec PyProof.Rows PySem.W PySem.Builtin.Getset_descriptor
structure XCls(K:Frag)(C:aB):Prop where
cls:(clsIn K C).isSome=zb
ga:findIn K (.ref C) "__getattribute__"=zo (zo (.builtin "BaseException.__getattribute__"))
gt:findIn K (.ref C) "__getattr__"=zo zl
cl:findIn K (.ref C) "__class__"=zo (zo (.builtin "object.__class__"))
gs:specialIn K (.builtin "object.__class__") "__get__"=zo (zo (.builtin "getset_descriptor.__get__"))
tk:takesIn K (.builtin "object.__class__")=zo zb
ob:mroIn K C (.type "object")=zo zb
be:mroIn K C (.type "BaseException")=zo zb
def IsX(x C:aB)(h:Heap):Prop:=∃ox,h.get? x=zo ox/\ox.cls=.ref C
def IsX.type(I:IsX x C h):Looks M h (typeOf (.ref x)) (.ref C):=by
 obtain⟨j,h1,h2⟩:=I;exact h2▸(Looks.ld h1).andThen .now
def Qnk{K:Frag}(X:K.In h)(F:XCls K C):Looks M h (Builtin.ObjectAttr.find (.ref x) (.ref C) "__class__") (.bind (.builtin "getset_descriptor.__get__") (.builtin "object.__class__")):=by
 have z:=looks_findIn (M:=M) X F.cl;have j:Looks M h (Builtin.ObjectAttr.getOf (zo (.builtin "object.__class__"))) (zo (.builtin "getset_descriptor.__get__")):=looks_specialIn X F.gs;have q:Looks M h (Builtin.ObjectAttr.dataDescriptor? (zo (.builtin "object.__class__")) (zo (.builtin "getset_descriptor.__get__"))) (zo (.builtin "getset_descriptor.__get__",.builtin "object.__class__")):=(looks_takesIn X F.tk).andThen .now;exact z.andThen (j.andThen (q.andThen (Looks.tag .now)))
variable{prog:aK}{A:aO}{E:zAD}{h:Heap}{g:Array GenState}{os:OsState}{K:Frag}{C:aB}
section
variable{w:aJ}{d:Drawn}{t:Nat}{x:aB}
def Qtc{R:Result->aC->Prop}(X:K.In h)(F:XCls K C)(I:IsX x C h)(j:R (.ok (.ret (.ref C))) ⟨h,g,d,t,os⟩):codeAny (aI prog w) A (.call (.builtin "getset_descriptor.__get__") ⟨[.builtin "object.__class__",.ref x,tp],[]⟩) R ⟨h,g,d,t,os⟩:=by
 have q:=I.type (M:=aI prog w);have z:=looks_mroIn (M:=aI prog w) X F.ob;refine codeAny_call_builtin KF.slot_gs.plain KF.entry_gs (KF.slot_gs.check _ _ _ _ _ _ _ _ KF.type_class (KF.args_gs _ _ _) ?_);unfold Builtin.«getset_descriptor.__get__» descrGet;rw[dga_obj];refine aD (wpAny_pure ?_);unfold descrGetter descrCheckInstance descrNameAndClass isInstance;simp only[KF.owner_class]
 repeat lk
 refine⟨Code.quiet_builtin _ (by decide +kernel),bA KF.entry_class ?_⟩;unfold Builtin.«object.__class__» shownTypeOf
 repeat lk
 exact j
def Qhb{Q:Fin->aC->Prop}(X:K.In h)(F:XCls K C)(I:IsX x C h)(z:Q (.done (.ret (.ref C))) ⟨h,g,d,t,os⟩):
  aF (aI prog w) A (Builtin.«object.__getattribute__» ⟨[.ref x,.str "__class__" tk],[]⟩) Q E ⟨h,g,d,t,os⟩:=by
 have j:=I.type (M:=aI prog w);have q:=Qnk (M:=aI prog w) (x:=x) X F;unfold Builtin.«object.__getattribute__»;refine aD (wpAny_pure ?_);refine aD (wpAny_pure ?_);refine aD (j.at (aD (q.at ?_)));show aF _ _ (Builtin.ObjectAttr.bindTo (.builtin "getset_descriptor.__get__") (.builtin "object.__class__") (.ref x) (.ref C)) _ _ _;unfold Builtin.ObjectAttr.bindTo;refine aD (ae (wpAny_call (Qtc X F I ?_)));exact wpAny_pure z
def Qhc{Q:Unit->aC->Prop}(X:K.In h)(F:XCls K C)(I:IsX x C h)(O:Q PUnit.unit ⟨h,g,d,t,os⟩):aF M A (checkBuiltinCall "BaseException.__getattribute__" ⟨[.ref x,j],[]⟩) Q E ⟨h,g,d,t,os⟩:=by
 have G:builtinKind "BaseException.__getattribute__"=zo .slot:=by decide +kernel
 have q:splitId "BaseException.__getattribute__"=zo ("BaseException","__getattribute__"):=by decide +kernel
 have z:Looks M h (isInstance (.ref x) (.type "BaseException")) zb:=(I.type).andThen (looks_mroIn X F.be);have J:=PySem.F.args_bexc_ga (.ref x) j;simp only[checkBuiltinCall,G,q];refine aD (z.at ?_);simp only[cW,F5,if_false];exact wpAny_of_eq J O
def Qnm{R:Result->aC->Prop}(X:K.In h)(F:XCls K C)(I:IsX x C h)(j:R (.ok (.ret (.ref C))) ⟨h,g,d,t,os⟩):
  codeAny (aI prog w) A (.call (.builtin "BaseException.__getattribute__") ⟨[.ref x,.str "__class__" tk],[]⟩) R ⟨h,g,d,t,os⟩:=
 codeAny_call_builtin PySem.F.attr_ValueError.ga.plain PySem.F.entry_bexc_ga (Qhc X F I (Qhb X F I j))
def Qx9{Q:zAD}(X:K.In h)(F:XCls K C)(I:IsX x C h)(S:Q (.ref C) ⟨h,g,d,t,os⟩):aF (aI prog w) A (getAttrBy (.ref x) (.str "__class__" tk) yo) Q E ⟨h,g,d,t,os⟩:=by
 have z:=I.type (M:=aI prog w);have G:=looks_findIn (M:=aI prog w) X F.ga;have J:=looks_findIn (M:=aI prog w) X F.gt;have j:(cg "BaseException.__getattribute__"==cg "object.__getattribute__")=yo:=by decide +kernel
 have q:(onTheHeap (bc C)&&cg "BaseException.__getattribute__"==cg "object.__getattribute__")=yo:=by rw[j];rfl
 have O:=PySem.F.attr_ValueError.ga.bind (.ref x);unfold getAttrBy;refine ae (aD (z.at (aD (G.at ?_))))
 repeat (any_goals (first|assumption|with_reducible refine J.at ?_|wp_step))
 refine Qnm X F I ?_
 repeat (any_goals (first|assumption|wp_step))
def Qnn{Q:Option aA->aC->Prop}(X:K.In h)(F:XCls K C)(I:IsX x C h)(j:Q (zo (.ref C)) ⟨h,g,d,t+1,os⟩):aF (aI prog w) A (getAttr? (.ref x) "__class__") Q E ⟨h,g,d,t,os⟩:=by
 unfold getAttr? getAttrBy?
 repeat (any_goals (first|assumption|with_reducible apply Qx9 X F I|wp_step))
end
def Qkm{K:Frag}{x C:aB}(F:XCls K C):KitX K (.ref x) (.ref C) (IsX x C) where
 ty:=λ_ _ _ I=>I.type
 it:=λ_ _ X _=>by
  obtain⟨G,j⟩:=eH.mp F.cls;unfold clsIn at j
  split at j
  ·rename_i Y d' O J U;intro A' Q' E' s' k q;unfold isType loadHead;exact aD (wpAny_loadPart (k _ _ (X _ _ U)) (wpAny_pure q))
  ·cases j
 ne:=λh tp dd its n Z X S=>by
  obtain⟨G,j⟩:=eH.mp F.cls;refine Bool.eq_false_iff.mpr λq=>?_
  have e:C=tp:=Value.ref.inj (beq_iff_eq.mp q);subst e;unfold clsIn at j
  split at j
  ·rename_i Y d' O J U;have z:=(X _ _ U).symm.trans S;cases z
  ·cases j
 ca:=λ{prog w A E Q s} X I k=>by
  obtain⟨h,g,d,t,os⟩:=s;exact Qnn X F I k
end L2
namespace L2
open PySem PySem.Spec PyProof.Rows
def ObjOk.there{h:Heap}(x:ObjOk P w H h a o):∃u,h.get? a=zo u:=by
 cases o with
|lst xs=>obtain⟨_,_,_,_,e⟩:=x;exact⟨_,e⟩
|tup xs=>obtain⟨_,_,_,o,e,_⟩:=x;exact⟨o,e⟩
|dK j=>obtain⟨_,_,_,_,o,_,_,e,_⟩:=x;exact⟨o,e⟩
|dT j=>obtain⟨_,_,_,_,o,_,_,e,_⟩:=x;exact⟨o,e⟩
|set S n=>obtain⟨o,_,_,_,e,_⟩:=x;exact⟨o,e⟩
|ins C dx fs=>obtain⟨_,_,_,e,_⟩:=x;exact⟨_,e⟩
|own y=>exact x
|xd fs=>obtain⟨_,⟨o,_,_,e,_⟩,_⟩:=x;exact⟨o,e⟩
|rng lo hi=>obtain⟨_,_,_,e⟩:=x;exact⟨_,e⟩
|frz ob u=>obtain⟨e,_⟩:=x;exact⟨_,e⟩
|tbl ps=>exact⟨_,x⟩
|met f y=>exact⟨_,x⟩
|ext q=>exact x.2.1
def HOk.none_of{H:Hp}{h:Heap}(x:HOk P w H h)(e:h.get? a=zl):H a=zl:=by
 cases q:H a with
|none=>rfl
|some o=>
  obtain⟨u,z⟩:=(x a o q).there;rw[e]at z;cases z
structure Fly(P:aK)(w:aJ)(outer:List Env)(H H':Hp)(s s':aC)(a:aB)(cls a0:aA)(B:Heap):Prop where
os:s'.os=s.os
bare:AllBare s'.gens
fl:Heap.FlyingW B outer a cls a0 s'.heap
hokB:HOk P w H' B
keep:∀b o,s.heap.get? b=zo o->H b=zl->b∉frs outer->B.get? b=zo o
there:∀b o,s.heap.get? b=zo o->b∉frs outer->∃o',B.get? b=zo o'
slot:∀b o,s.heap.get? b=zo o->b∈frs outer->∃sl,s'.heap.get? b=zo {o with slots:=sl}
free:∀b o,s.heap.get? b=zo o->H b=zl->H' b=zl
tups:∀b xs,H b=zo (.tup xs)->H' b=zo (.tup xs)
frzs:∀b o u,H b=zo (.frz o u)->H' b=zo (.frz o u)
tbls:∀b ps,H b=zo (.tbl ps)->∃more,H' b=zo (.tbl (ps++more))
@[inline,reducible]def Q51:List aA:=[.type "ValueError",.type "Exception",.type "BaseException",.type "object"]
def Qqb{K:bZ}{mg:zAE}(X:K.In h)(m:mg x=zo (.ref C))(q:cF K C z j=zb):OwnCls x C z j mg h:=by
 refine⟨m,?_⟩;unfold cF at q
 split at q
 ·rename_i dd cd I S
  split at q
  ·rename_i U bm k0 k1 k2 k3 n k5 hm hs;simp only[F3,beq_iff_eq,Bool.not_eq_true']at q;obtain⟨⟨⟨⟨⟨rfl,rfl⟩,hdel⟩,ht⟩,hok⟩,hni⟩:=q;obtain⟨nm,bs,O,ns,qn,hd,sn,sub,ab,col,J⟩:=cd;dsimp only at hm hdel hok hni;subst hm hdel;have G:I=#[k0,k1,k2,k3,zo (.builtin n),k5]:=by
    obtain⟨l⟩:=I;simp only at hs;rw[hs]
   subst G;exact⟨bm,ns,nm,qn,bs,hd,sn,sub,ab,col,dd,k0,k1,k2,k3,k5,_,X _ _ S,.of_isNs (PySem.W.isNs_of_in X hok),PySem.W.nsMap_none_of_in X hok hni,PySem.W.tail_of_in X ht⟩
  ·cases q
 ·cases q
variable{X:Cx}
def Qtg(C:aB)(E:XK)(t:TA):TS:=λ_ σ H=>t σ H λvs H1=>vs.length<=sizeLine/\E (.ref C) zl H1
def z6(X:Cx)(a:aB):Cx:={X with A:=X.A.mark (zo (.ref a)),calm:=yo,xe:=λ_ _=>False}
variable{pins:zAA}{σ:St}{H H':Hp}{s s':aC}{a C:aB}
def Inv.suite(I:Inv X pins σ H s)a:Inv (z6 X a) pins σ H s:=
 ⟨⟨I.ok.mod,I.ok.kind,I.ok.glob,I.ok.blt,I.ok.above,I.ok.inj,I.ok.has,I.ok.cab,λh=>(by cases h),I.ok.frames,I.ok.stk,I.ok.exf,I.ok.bs,I.ok.bsz,I.ok.noex,I.ok.exfs,I.ok.funs,I.ok.frf⟩,I.os,I.bare,I.base,I.loc,I.cell,I.free,I.freeC,I.pin,I.hok,I.len⟩
def Inv.unsuite(ok:X.Ok)(I:Inv (z6 X a) pins σ H s):Inv X pins σ H s:=⟨ok,I.os,I.bare,I.base,I.loc,I.cell,I.free,I.freeC,I.pin,I.hok,I.len⟩
def Fly.inv{B:Heap}(I:Inv X pins σ H s)(F:Fly X.prog X.w X.stack H H' s s' a cls a0 B)(Y:B.StaysIn J)(sm:s'.heap.UpToSlots J):Inv X pins σ H' {s' with heap:=J}:=by
 have G:∀b o,s.heap.get? b=zo o->b∈frs X.stack->∃G,J.get? b=zo {o with slots:=G}:=λb o q j=>by
  obtain⟨G,z⟩:=F.slot b o q j;obtain⟨_,o',O,U⟩:=I.stack.mem j;rw[q]at O;cases O;obtain⟨S,Z⟩:=sm b _ z U;exact⟨S,Z⟩
 refine I.call' (s':={s' with heap:=J}) (ch:=[]) F.os ⟨λb o q n j _=>Y _ _ (F.keep b o q n j),λb o q n j _=>G b o q j,λb o q n _=>F.free b o q n,λb o q _=>?_,F.tups,F.frzs,F.tbls⟩ (F.hokB.kept Y) F.bare λb z=>absurd z (by simp)
 by_cases j:b∈frs X.stack
 ·obtain⟨G,z⟩:=G b o q j;exact⟨_,z⟩
 ·obtain⟨o',z⟩:=F.there b o q j;exact⟨o',Y _ _ z⟩
def Fly.new(F:Fly X.prog X.w X.stack H H' s s' a cls a0 B):s.heap.get? a=zl/\H' a=zl:=by
 have O:B.get? a=zl:=F.fl.2.1;refine⟨?_,F.hokB.none_of O⟩;cases q:s.heap.get? a with
|none=>rfl
|some o=>
  by_cases I:a∈frs X.stack
  ·obtain⟨_,o',G,j⟩:=F.fl.2.2.1.mem I;obtain⟨S,vs,J,_,hd,_⟩:=F.fl.first;rw[G]at J;cases J;exact absurd hd (j vs)
  ·obtain⟨o',z⟩:=F.there a o q I;rw[O]at z;cases z
def Inv.track{s1:aC}(J:Inv X pins σ H s)(U:∀b,b∉X.ex)(h0:s.heap.get? a=zl)(I:Inv X pins σ H' s1)(G:H' a=zl)(o:ObjOk X.prog X.w (upd H' a (.ext S)) s1.heap a (.ext S)):Inv X pins σ (upd H' a (.ext S)) s1:=by
 have j:∀b u,s.heap.get? b=zo u->b≠a:=λb u e z=>by rw[z,h0]at e;cases e
 have nes:∀b u,X.s₀.heap.get? b=zo u->b≠a:=λb u e=>by
  obtain⟨u',e'⟩:=J.base.there b u e (U b);exact j b u' e'
 refine⟨I.ok,I.os,I.bare,?_,I.loc,I.cell,?_,?_,?_,?_,I.len⟩
 ·have u0:=I.base;exact⟨u0.keep,u0.slot,λc o e n hx=>by rw[Q7 (nes c o e)];exact u0.free c o e n hx,u0.there,
   λc O e=>by have:=u0.tups c O e;rw[Q7 (Qc this G)];exact this,
   λc o O e=>by have:=u0.frzs c o O e;rw[Q7 (Qc this G)];exact this,
   λc ps e=>by obtain⟨more,q⟩:=u0.tbls c ps e;exact⟨more,by rw[Q7 (Qc q G)];exact q⟩⟩
 ·obtain⟨m,⟨o,_,_,e,_⟩,_⟩:=J.loc;rw[Q7 (j _ _ e)];exact I.free
 ·intro x c e;obtain⟨v,o,z,_⟩:=J.cell x c e;rw[Q7 (j _ _ z)];exact I.freeC x c e
 ·intro p Z;obtain⟨e,n,ne,nf,d⟩:=I.pin p Z;exact⟨e,by rw[Q7 (j _ _ (J.pin p Z).1)];exact n,ne,nf,d⟩
 ·intro c u q
  by_cases Y:c=a
  ·subst Y;rw[Qj]at q;cases q;exact o
  ·rw[Q7 Y]at q;exact(I.hok c u q).stay (λ_ _ _ r=>r) (λc' r=>by rw[Q7 (Qc r G)];exact r) λc' O r=>by rw[Q7 (Qc r G)];exact r
def Inv.forget {i:Nat} {n:Str} {m:zAE} {h':Heap} {v:Option aA} {tk:Nat} (I:Inv X pins σ H s) (hN:X.N.Nodup) (hi:X.N[i]?=zo n) (hl:∀(i:Nat)(x:Str)(v:V),X.N[i]?=zo x->σ[i]?=zo (zo v)->Vis X.env.scope x->∃u,RelV v u/\J0b X.env s.heap m x u)
  (Y:h'.Ns X.env.locals (λx=>if x=n then v else m x)) (hs:Heap.SameBut X.env.locals s.heap h'):Inv X pins (σ.set i zl) H {s with heap:=h',toks:=tk}:=by
 have cne:=I.cne;have G:HOk X.prog X.w H h':=I.hok.same I.free hs;have J:∀b o,X.s₀.heap.get? b=zo o->b≠X.env.locals:=λb o e=>F0 (D5 (D0 e) I.ok.above)
 refine⟨I.ok,I.os,I.bare,⟨λb o e n hb S=>(hs.2 b (J b o e)).trans (I.base.keep b o e n hb S),λb o e n hb S=>?_,I.base.free,λb o e S=>?_,I.base.tups,I.base.frzs,I.base.tbls⟩,⟨_,Y,λj y v' U O e3=>?_⟩,λy c e=>?_,I.free,I.freeC,λp hp=>?_,G,by simpa using I.len⟩
 ·obtain⟨sl,z⟩:=I.base.slot b o e n hb S;exact⟨sl,(hs.2 b (J b o e)).trans z⟩
 ·obtain⟨o',z⟩:=I.base.there b o e S;exact⟨o',(hs.2 b (J b o e)).trans z⟩
 ·by_cases Z:j=i
  ·subst Z;rw[hi]at U;cases U;have:j<σ.length:=by have:=(O0.mp O).1;simpa using this
   rw[D9 this]at O;cases O
  ·rw[E2 (Ne.symm Z)]at O;obtain⟨u,r,q⟩:=hl j y v' U O e3;refine⟨u,r,?_⟩;rcases q with⟨k,e⟩|⟨k,c,e,z⟩
   ·refine .inl ⟨k,?_⟩;have:y≠n:=λe=>Z (Q42 hN U (e▸hi))
    simp[this,e]
   ·exact .inr ⟨k,c,e,z.sameBut hs (cne y c e)⟩
 ·obtain⟨w',z⟩:=I.cell y c e;exact⟨w',z.sameBut hs (cne y c e)⟩
 ·obtain⟨e,n,ne,nf,d⟩:=I.pin p hp;exact⟨(hs.2 p.1 ne).trans e,n,ne,nf,d⟩
def Q2z l j n dd z t:
  Meets (Builtin.«tuple.__mul__» ⟨[.ref l,.int 1 t],[]⟩) (λ_ R s=>s.heap.get? l=zo {cls:=.type "tuple",dict:=dd,data:=.seq j n,slots:=z}/\R (.ok (.ret (.ref l))) s):=
 .of_wp λprog w A R s h=>by
  obtain⟨G,g,d,tk,os⟩:=s;obtain⟨q,h⟩:=h
  wp_walk using wpAny_loadPart' q
  exact⟨_,rfl,h⟩
def Q30 l(j:Array aA)n dd G(x:Int)t(h1:¬(decide (x < -(2^63))||decide (x>=2^63))=zb)(h2:¬(j.isEmpty||x==1)=zb)(O:¬(decide (x<=0)||j.isEmpty)=zb)(I:¬(j.size:Int)*x>(2^63-1)/8)(J:¬Builtin.Tuple.tupleTooMany ((j.size:Int)*x)=zb)(z:((bh x.toNat j).foldl (λx1 x2=>x1++x2) #[]).size<=sizeLine):
  Meets (Builtin.«tuple.__mul__» ⟨[.ref l,.int x t],[]⟩) (λ_ R s=>s.heap.get? l=zo {cls:=.type "tuple",dict:=dd,data:=.seq j n,slots:=G}/\
   R (.ok (.ret (bc s.heap.objs.size))) {s with heap:=s.heap.push {cls:=bu "tuple",data:=Data.seq ((bh x.toNat j).foldl (λx1 x2=>x1++x2) #[])}}):=
 .of_wp λprog w A R s h=>by
  obtain⟨S,g,d,tk,os⟩:=s;obtain⟨q,h⟩:=h
  wp_walk using wpAny_loadPart' q
  refine wpAny_ite_false (bW h1) ?_
  wp_walk using wpAny_loadPart' q
  refine wpAny_ite_false (bW I) ?_
  wp_walk using wpAny_loadPart' q
  all_goals first|exact⟨_,rfl,h⟩|(refine wpAny_ite_false (bW J) ?_;wp_walk)|skip
  all_goals first|exact⟨_,rfl,h⟩|(refine wpAny_ite_false (bW (iF.mpr z)) ?_;wp_walk;exact⟨_,rfl,h⟩)
def Q4m a t l j n dd z:
  Meets (Builtin.«int.__rmul__» ⟨[.int a t,.ref l],[]⟩) (λ_ R s=>s.heap.get? l=zo {cls:=.type "tuple",dict:=dd,data:=.seq j n,slots:=z}/\R (.ok (.ret gu)) s):=
 .of_wp λprog w A R s h=>by obtain⟨G,g,d,tk,os⟩:=s;obtain⟨q,h⟩:=h;wp_walk using wpAny_loadPart' q;exact⟨_,rfl,h⟩
def Q17:fillsNumberSlot (.type "tuple") "mul"=pure yo:=
 PySem.fillsNumberSlot_seq (id:="tuple.__mul__") (r:=zo (.builtin "tuple.__rmul__")) F.slot_tuple_mul.lookup (by decide +kernel) F.slot_tuple_rmul.lookup (by decide +kernel)
def Q78:seqRepeat? (.type "tuple")=pure (zo (.builtin "tuple.__mul__")):=by
 unfold seqRepeat?;rw[iG (T:="tuple") (name:="__mul__") (id:="tuple.__mul__") F.slot_tuple_mul.lookup (by decide +kernel),iG (T:="tuple") (name:="__rmul__") (id:="tuple.__rmul__") F.slot_tuple_rmul.lookup (by decide +kernel)];rfl
def Qy1(K:bZ):R2:=λx y H Q=>∃a k xs,x=.ref a/\y=.int k/\SqT K H a xs/\xs≠[]/\1<=k/\xs.length*k.toNat<=4096/\
 (k=1->Q (.ref a) H)/\(k≠1->∀p,H p=zl->Q (.ref p) (upd H p (.tup (bh k.toNat xs).flatten)))
def Qqh:OpR X (aZ .Mult) (Qy1 X.K):=by
 intro pins s σ H x y v u Q I rx ry h;obtain⟨a,k,xs,rfl,rfl,ha,J,hk,hz,q1,q2⟩:=h;cases rx;obtain⟨t,rfl⟩:=ry;obtain⟨its,r,p1,hs⟩:=I.tuple ha;obtain⟨⟨cls,dd,data,O⟩,ho,hc,n,hd⟩:=id p1;simp only at hc hd;subst hc hd;have S:its.length=xs.length:=r.length.symm;have j:0<its.length:=by rw[S];exact iE.mpr J
 have a1:k.toNat<=4096:=by
  have:1*k.toNat<=xs.length*k.toNat:=Nat.mul_le_mul_right _ ();omega
 refine wpAny_binaryOp_repeat_ref (T:="tuple") (U:="int") (by decide) ⟨_,ho,rfl⟩ (λs'=>typeIs_int s' k t) Q17 F.fills_int_mul F.slot_int_rmul Q78 F.slot_int_index.lookup
  (ay F.slot_int_rmul (typeIs_int s k t) F.entry_int_rmul (F.args_int_rmul_2 _ _) (Q4m k t a its.toArray n dd O)
   ⟨ho,rfl,⟨_,ho,rfl⟩,?_⟩)
 by_cases h1:k=1
 ·subst h1;exact ay F.slot_tuple_mul ⟨_,ho,rfl⟩ F.entry_tuple_mul (F.args_tuple_mul_2 _ _) (Q2z a its.toArray n dd O t) ⟨ho,⟨.ref a,H,I,rfl,q1 rfl⟩⟩
 ·have Z:cQ (λx1 x2=>x1++x2) #[] (bh k.toNat its.toArray)=(bh k.toNat its).flatten.toArray:=by
   have:=Q1j its k.toNat [];rw[eL]at this;exact this
  have G:(its.toArray.size:Int)*k=((its.length*k.toNat:Nat):Int):=by
   rw[O8,Int.natCast_mul,fq ()]
  have Y:(bh k.toNat its).flatten.length<=4096:=by rw[Q81,S,eM];exact hz
  have hb:its.length*k.toNat<=4096:=by rw[S];exact hz
  refine ay F.slot_tuple_mul ⟨_,ho,rfl⟩ F.entry_tuple_mul (F.args_tuple_mul_2 _ _) (Q30 a its.toArray n dd O k t ?_ ?_ ?_ ?_ ?_ ?_) ⟨ho,?_⟩
  ·rw[bW (),bW ()];exact O9
  ·intro z;rcases iH.mp z with z|z
   ·rw[iI,iJ]at z;rw[z]at j;simp at j
   ·exact h1 (eq_of_beq z)
  ·intro z;rcases iH.mp z with z|z
   ·have:=of_decide_eq_true z;omega
   ·rw[iI,iJ]at z;rw[z]at j;simp at j
  ·rw[G];omega
  ·rw[G];have:(4096:Int)<=sizeLine:=by decide
   show ¬decide (((its.length*k.toNat:Nat):Int)>(sizeLine:Int))=zb;rw[bW ()];exact O9
  ·rw[Z,O8];exact E8 Y (by decide)
  ·rw[Z];refine⟨.ref s.heap.objs.size,_,I.laid (t':=s.toks) (o:=.tup (bh k.toNat xs).flatten) (λb ob q=>O4 _ q) (O6 _) ?_,rfl,q2 h1 _ (I.hok.fresh (O6 _))⟩;exact⟨by rw[Q81,eM];exact E8 hz (by decide),_,r.rep k.toNat,IsTup.new _ _⟩
open PySem.SeqAt
def Q9s:OpR X (aV .IsNot) (λx y H Q=>∃b c,x=.bl b/\y=.bl c/\Q (.bl (b !=c)) H):=by
 intro pins s σ H x y v u Q I z j h;obtain⟨b,c,rfl,rfl,q⟩:=h;cases z;cases j;exact kG ⟨.bl _,H,I,rfl,q⟩
structure JE(X:Cx)(e:aH)(t:TE):Prop where out:PE X e t
structure JA(X:Cx)(es:List aH)(t:TA):Prop where out:PA X es t
structure JS(X:Cx)(st:aL)(t:TS):Prop where out:PS X st t
structure JSs(X:Cx)(sts:List aL)(t:TS):Prop where out:PSs X sts t
variable{pos:Pos}
def jok{R:TS->Prop}(h:∃t,JSs X j t/\R t):∃t,PSs X j t/\R t:=by
 obtain⟨t,a,b⟩:=h;exact⟨t,a.out,b⟩
def Q4i:JA X [] Qxj:=⟨Jb⟩
def Yb(q:JE X e te)(j:JA X es t)(hs:aN (e::es) X.env=(yo,aM e X.env)::aN es X.env:=by rfl):JA X (e::es) (Qsq te t):=⟨Qk q.out j.out hs⟩
def xf(h:JA X es t):JE X (.List es pos) (Qxk t):=⟨Qbx h.out⟩
def Qvu:JE X (.Constant (.str x) j pos) (tC (.str x)):=⟨Q7f⟩
def Qag{a:aH}(j:OpR X (aZ op) r)(z:JE X a ta)(q:JE X b tb):JE X (.BinOp a op b pos) (tOp r ta tb):=⟨Qjh j z.out q.out⟩
def Qzd{a:aH}(j:IxR X r)(z:JE X a ta)(q:JE X b tb)(hs:Q2w b):JE X (.Subscript a b pos) (tOp r ta tb):=⟨Qji j z.out q.out hs⟩
def Qrg:JSs X [] Qsp:=⟨Q7c⟩
def X8{st:aL}{rest:List aL}{t u:TS}(h1:JS X st t)(h2:JSs X rest u):JSs X (st::rest) (Qxf t u):=⟨j8 h1.out h2.out⟩
def Qee{st:aL}{t:TS}(h1:JS X st t):JSs X [st] t:=⟨xz h1.out⟩
def Qzc{a:List aL}(j:PT X c tc)(z:JSs X a t)(q:JSs X b u):JS X (.If c a b pos) (Qxm tc t u):=⟨Qj2 j z.out q.out⟩
def Qks(j:JE X e te):JS X (.Return (zo e) pos) (Qxg te):=⟨Q7e j.out⟩
def Q1h(G:X.N.Nodup)(hi:X.N[i]?=zo x)(j:Loc X.env.scope x)(q:JE X e te)(hs:swapsWith e (zo (.Name x pos')) pos.line X.env=pure yo:=by rfl)(z:X.fn x=zb\/X.env.scope.names.lookup x=zo .local:=by first|exact .inl rfl|exact .inr rfl|assumption):
  JS X (.Assign [.Name x pos'] e pos) (Qnu te (Q6g i)):=⟨Q7d G hi j q.out hs z⟩
def V5:∀names(h:Heap)(acc:List (Str×aB))x c,(aq h.objs.size names acc).lookup x=zo c->
  acc.lookup x=zo c\/((x,NameKind.cell)∈names/\h.objs.size<=c/\(pushCells h names).IsCell c zl)
|[],_,_,_,_,e=>.inl e
|(name,kind)::r,h,acc,x,c,e=>by
  unfold aq at e;unfold pushCells
  by_cases I:(kind==NameKind.cell)=zb
  ·rw[bU I]at e ⊢;have G:kind=.cell:=by simpa using I
   have S:=V5 r (h.push {cls:=.type "cell",data:=.cell zl}) ((name,h.objs.size)::acc) x c (by rw[L6];exact e);rw[L6]at S;rcases S with z|⟨J,O,q⟩
   ·rw[cS]at z;cases j:x==name with
    |true=>
     rw[j]at z;cases z;exact .inr ⟨by rw[beq_iff_eq.mp j,G];exact E7,O6 _,⟨_,pushCells_keeps _ _ _ _ (D4 _ rfl),rfl⟩⟩
    |false=>rw[j]at z;exact .inl z
   ·exact .inr ⟨O3 _ J,by omega,q⟩
  ·rw[bV I]at e ⊢;rcases V5 r h acc x c e with z|⟨J,O,q⟩
   ·exact .inl z
   ·exact .inr ⟨O3 _ J,O,q⟩
def U4:∀names n(acc:List (Str×aB)),(x,NameKind.cell)∉names->(aq n names acc).lookup x=acc.lookup x
|[],_,_,_=>rfl
|(name,kind)::r,n,acc,h=>by
  unfold aq;have q:(x,NameKind.cell)∉r:=λz=>h (O3 _ z)
  by_cases j:(kind==NameKind.cell)=zb
  ·rw[bU j,U4 r _ _ q,cS];cases G:x==name with
   |true=>exact absurd (by rw[beq_iff_eq.mp G,show kind=.cell by simpa using j];exact E7) h
   |false=>rfl
  ·rw[bV j,U4 r _ _ q]
def K9:∀names n acc,(x,NameKind.cell)∈names->(aq n names acc).lookup x=zo c->n<=c
|[],_,_,h,_=>by cases h
|(name,kind)::r,n,acc,h,e=>by
  unfold aq at e
  by_cases j:(x,NameKind.cell)∈r
  ·by_cases z:(kind==NameKind.cell)=zb
   ·rw[bU z]at e;exact Nat.le_of_succ_le (K9 r _ _ j e)
   ·rw[bV z]at e;exact K9 r _ _ j e
  ·rcases D7.mp h with q|q
   ·cases q;rw[bU (by decide),U4 r _ _ j,cS]at e;simp at e;exact eN e
   ·exact absurd q j
def Ka:∀names n(acc:List (Str×aB)),(∀x c,acc.lookup x=zo c->c<n)->(∀x y c,acc.lookup x=zo c->acc.lookup y=zo c->x=y)->
  ∀x y c,(aq n names acc).lookup x=zo c->(aq n names acc).lookup y=zo c->x=y
|[],_,_,_,h=>h
|(name,kind)::r,n,acc,h1,h2=>by
  unfold aq
  by_cases G:(kind==NameKind.cell)=zb
  ·rw[bU G];refine Ka r (n+1) _ (λx c e=>?_) (λx y c e q=>?_)
   ·rw[cS]at e;cases z:x==name with
    |true=>rw[z]at e;cases e;exact dP _
    |false=>rw[z]at e;exact dB (h1 x c e)
   ·rw[cS]at e q;cases z:x==name with
    |true=>
     rw[z]at e;cases e;cases j:y==name with
     |true=>rw[beq_iff_eq.mp z,beq_iff_eq.mp j]
     |false=>rw[j]at q;exact absurd (h1 y _ q) (N1 _)
    |false=>
     rw[z]at e;cases j:y==name with
     |true=>rw[j]at q;cases q;exact absurd (h1 x _ e) (N1 _)
     |false=>rw[j]at q;exact h2 x y c e q
  ·rw[bV G];exact Ka r n acc h1 h2
def Q58 {M:Model} {A:aO} {E:zAD} {s:aC} {scope:Scope} {q:aB} {cl:List (Str×aB)} {qual:Str} {z:Option aB} {code:aA} {env:Env} {j:aB} {Q:Env->aC->Prop}
  (J:Q (newEnv scope s.heap.objs.size q (aq (s.heap.objs.size+1) scope.names cl) qual z code (zo env) j) {s with heap:=pushCells (s.heap.push {cls:=.type "dict",data:=.dict #[]}) scope.names}):
  aF M A (newFunctionEnv scope q cl [] qual z code (zo env) j) Q E s:=by
 simp only[newFunctionEnv,iK,if_true];refine aD (wpAny_alloc ?_);refine aD (wpAny_layCells _ (λname kind G=>by cases I:kind==NameKind.cell<;>simp[I]) _ _ _ _ ?_);rw[show({s with heap:=s.heap.push {cls:=.type "dict",data:=.dict #[]}}:aC).heap.objs.size=s.heap.objs.size+1 from L6 ..];refine aD ?_;rw[iL];exact wpAny_pure (wpAny_pure J)
def compOkC(N N':List Str)(sc scE:Scope)(cap:zAC):Bool:=
 sc.kind==.function&&sc.names.all (λx=>x.2 !=.cell||sc.names.lookup x.1==zo .cell)&&sc.names.all (λx=>x.2 !=.local||sc.names.lookup x.1==zo .local) &&
 sc.names.all (λx=>x.2 !=.free||scE.names.lookup x.1==zo .cell||scE.names.lookup x.1==zo .free)&&cap.length==N'.length &&
 (ba cap.length).all (λi=>match cap[i]? with
  |some (zo j)=>(match N'[i]?,N[j]? with|some a,zo b=>a==b&&sc.names.lookup a==zo .free|_,_=>yo)
  |_=>zb)
structure CompOkC(N N':List Str)(sc scE:Scope)(cap:zAC):Prop where
kind:sc.kind=.function
cel:∀x∈sc.names,x.2=.cell->sc.names.lookup x.1=zo .cell
loc:∀x∈sc.names,x.2=.local->sc.names.lookup x.1=zo .local
fre:∀x∈sc.names,x.2=.free->scE.names.lookup x.1=zo .cell\/scE.names.lookup x.1=zo .free
len:cap.length=N'.length
at_:∀(i j:Nat),cap[i]?=zo (zo j)->∃x,N'[i]?=zo x/\N[j]?=zo x/\sc.names.lookup x=zo .free
def compOkC.of(h:compOkC N N' sc scE cap=zb):CompOkC N N' sc scE cap:=by
 unfold compOkC at h;simp only[F3,F4,beq_iff_eq,Bool.or_eq_true,bne_iff_ne]at h;obtain⟨⟨⟨⟨⟨h1,h2⟩,h3⟩,h4⟩,h5⟩,h6⟩:=h;refine⟨h1,λx q e=>?_,λx q e=>?_,λx q e=>?_,h5,λi j e=>?_⟩
 ·rcases h2 x q with z|z
  ·exact absurd e z
  ·exact z
 ·rcases h3 x q with z|z
  ·exact absurd e z
  ·exact z
 ·rcases h4 x q with(z|z)|z
  ·exact absurd e z
  ·exact .inl z
  ·exact .inr z
 ·have hi:i<cap.length:=(O0.mp e).1;have:=h6 i (cM.mpr hi);rw[e]at this;simp only at this;cases G:N'[i]? with
  |none=>rw[G]at this;cases this
  |some a=>
   cases I:N[j]? with
   |none=>rw[G,I]at this;cases this
   |some b=>
    rw[G,I]at this;simp only[F3,beq_iff_eq]at this;obtain⟨rfl,z⟩:=this;exact⟨a,rfl,rfl,z⟩
def Y7(X:Cx)(N':List Str)(sc:Scope)(cl:List (Str×aB))(C:aB)(s0:aC)(H0:Hp)(ex:List aB):Cx:=
 {X with N:=N',s₀:=s0,H₀:=H0,env:=compEnvC sc cl C X.env,outer:=X.stack,ex:=ex,fn:=λx=>sc.names.lookup x==zo .cell,pn:=[],xe:=λ_ _=>False}
def Qn9{sc:Scope}{cl:List (Str×aB)}(I:Inv X pins σ H s)(hN:X.N=N)(hE:X.env.scope=scE)(ck:CompOkC N N' sc scE cap)(c1:∀x c,cl.lookup x=zo c->X.env.cells.lookup x=zo c)(c2:∀x∈sc.names,x.2=.free->∃c,cl.lookup x.1=zo c)(hf:∀b∈fp,Q57 X pins H b)(a3:∀b∈fp,b<s.heap.objs.size):
  Inv (Y7 X N' sc (aq (s.heap.objs.size+1) sc.names cl) s.heap.objs.size s H fp) [] (Q0q cap σ) H {s with heap:=pushCells (s.heap.push {cls:=.type "dict",data:=.dict #[]}) sc.names}:=by
 obtain⟨J,S⟩:∃J,pushCells (s.heap.push {cls:=.type "dict",data:=.dict #[]}) sc.names=J:=⟨_,rfl⟩;obtain⟨G,O⟩:∃G,aq (s.heap.objs.size+1) sc.names cl=G:=⟨_,rfl⟩;rw[S,O];have keep:∀b o,s.heap.get? b=zo o->J.get? b=zo o:=λb o e=>by rw[<- S];exact pushCells_keeps _ _ b o (O4 _ e)
 have a7:J.Ns s.heap.objs.size (λ_=>zl):=by rw[<- S];exact(Heap.Ns.new s.heap (.type "dict")).keeps (pushCells_keeps _ _)
 have look:∀x c,G.lookup x=zo c->cl.lookup x=zo c\/(s.heap.objs.size+1<=c/\J.IsCell c zl):=λx c e=>by
  rw[<- O]at e;have:=V5 (sc.names) (s.heap.push {cls:=.type "dict",data:=.dict #[]}) cl x c (by rw[L6];exact e);rw[L6,S]at this;rcases this with z|⟨_,z,z'⟩
  ·exact .inl z
  ·exact .inr ⟨z,z'⟩
 have Y:∀x c,cl.lookup x=zo c->c<s.heap.objs.size:=λx c e=>by
  obtain⟨v,o,ho,_⟩:=I.cell x c (c1 x c e);exact D0 ho
 have inj:∀x y c,G.lookup x=zo c->G.lookup y=zo c->x=y:=by
  rw[<- O];exact Ka _ _ _ (λx c e=>dB (Y x c e)) λx y c a b=>I.ok.inj x y c (c1 x c a) (c1 y c b)
 have a8:∀x,sc.names.lookup x=zo .cell->∃c,G.lookup x=zo c:=λx e=>by
  rw[<- O];exact eH.mp (fQ _ _ _ (.inl e))
 have a6:∀x,sc.names.lookup x=zo .free->G.lookup x=cl.lookup x:=λx e=>by
  rw[<- O];refine U4 _ _ _ λz=>?_
  have:=ck.cel _ z rfl;rw[e]at this;cases this
 have kindOf:∀x k,(compEnvC sc G s.heap.objs.size X.env).kindOf x=zo k->k=.cell\/k=.free->sc.names.lookup x=zo .free\/sc.names.lookup x=zo .cell:=λx k e hk=>by
  have e':(relabel sc X.env).names.lookup x=zo k:=e;rw[j7]at e';cases q:sc.names.lookup x with
  |none=>rw[q]at e';cases e'
  |some k'=>
   rw[q]at e';have a4:(if(k'==NameKind.free&&X.env.scope.kind==.function&&X.env.kindOf x==zo .cell)=zb then NameKind.cell else k')=k:=bt e'
   by_cases U:(k'==NameKind.free&&X.env.scope.kind==.function&&X.env.kindOf x==zo .cell)=zb
   ·simp only[F3,beq_iff_eq]at U;rw[U.1.1];exact .inl rfl
   ·rw[bV U]at a4;subst a4;rcases hk with z|z
    ·rw[z];exact .inr rfl
    ·rw[z];exact .inl rfl
 have cellAt:∀x c,X.env.cells.lookup x=zo c->∀v,s.heap.IsCell c v->J.IsCell c v:=λx c e v ⟨o,ho,hd⟩=>⟨o,keep c o ho,hd⟩
 have a1:∀c,s.heap.objs.size<=c->H c=zl:=λc U=>I.hok.fresh U
 refine⟨⟨I.ok.mod,ck.kind,I.ok.glob,I.ok.blt,O6 _,inj,λx hx=>?_,λx c h1 h2=>?_,I.ok.hd,I.ok.frames,.inl rfl,λb hb=>?_,I.bs,
  E8 I.ok.bsz I.sz,λb o e hb=>?_,λb hb hz=>?_,I.stack,I.stkFree⟩,rfl,I.bare,Un.kept keep,⟨_,a7,λi x v e1 e2 e3=>?_⟩,λx c e=>?_,a1 _ (O6 _),λx c e=>?_,λp hp=>(by cases hp),I.hok.kept keep,?_⟩
 ·have hx:(compEnvC sc G s.heap.objs.size X.env).kindOf x=zo .cell\/(compEnvC sc G s.heap.objs.size X.env).kindOf x=zo .free:=hx;have q:sc.names.lookup x=zo .free\/sc.names.lookup x=zo .cell:=by
   rcases hx with z|z
   ·exact kindOf x _ z (.inl rfl)
   ·exact kindOf x _ z (.inr rfl)
  rcases q with q|q
  ·obtain⟨c,U⟩:=c2 _ (cX q) rfl;exact⟨c,(a6 x q).trans U⟩
  ·exact a8 x q
 ·have h1:sc.names.lookup x=zo .cell:=by simpa[Y7]using h1
  have h2:G.lookup x=zo c:=h2;rw[<- O]at h2;exact E8 (cz _) (K9 _ _ _ (cX h1) h2)
 ·refine⟨F0 (a3 b hb),λx c e=>?_⟩;rcases look x c e with z|⟨z,_⟩
  ·exact(hf b hb).2.2.2.2.1 x c (c1 x c z)
  ·exact λq=>absurd (D5 (a3 b hb) (E8 (cz _) (q▸z))) (N1 _)
 ·rcases(hf b hb).2.2.2.1 with z|z
  ·exact I.ok.noex b o e z
  ·exact absurd (D5 (D0 e) (E8 I.ok.bsz z)) (N1 _)
 ·rcases D7.mp (I.stkSub b hz)with e|z
  ·exact(hf b hb).2.1 e
  ·exact(hf b hb).2.2.1 z
 ·have e1:N'[i]?=zo x:=e1;have e2:(Q0q cap σ)[i]?=zo (zo v):=e2;unfold Q0q at e2;rw[D8]at e2;cases q:cap[i]? with
  |none=>rw[q]at e2;cases e2
  |some oj=>
   rw[q]at e2;cases oj with
   |none=>cases e2
   |some j=>
    obtain⟨y,z1,z2,z3⟩:=ck.at_ i j q;rw[e1]at z1;cases z1;have ev:σ[j]?=zo (zo v):=by
     have Z:(σ[j]?).join=zo v:=bt e2;cases r:σ[j]? with
     |none=>rw[r]at Z;cases Z
     |some o=>rw[r]at Z;exact congrArg zo Z
    obtain⟨m',a9,hl⟩:=I.loc;have sK:X.env.scope.names.lookup x=zo .cell\/X.env.scope.names.lookup x=zo .free:=by rw[hE];exact ck.fre _ (cX z3) rfl
    obtain⟨u,ru,l⟩:=hl j x v (by rw[hN];exact z2) ev (sK.elim (λz=>.inr (.inl z)) λz=>.inr (.inr z))
    refine⟨u,ru,?_⟩;obtain⟨c,U⟩:=c2 _ (cX z3) rfl;rcases l with⟨k,_⟩|⟨k,c',a5,a2⟩
    ·have k:X.env.scope.names.lookup x=zo .local:=k;rcases sK with z|z<;>(rw[k]at z;cases z)
    ·have:c=c':=by
      have q1:=c1 x c U;rw[a5]at q1;exact(bt q1).symm
     subst this;refine .inr ⟨?_,c,(a6 x z3).trans U,cellAt x c a5 _ a2⟩;show(relabel sc X.env).names.lookup x=zo .cell\/(relabel sc X.env).names.lookup x=zo .free;rw[j7,z3];show zo (if _ then NameKind.cell else NameKind.free)=_\/zo (if _ then NameKind.cell else NameKind.free)=_
     split
     ·exact .inl rfl
     ·exact .inr rfl
 ·rcases look x c e with z|⟨_,z⟩
  ·obtain⟨v,q⟩:=I.cell x c (c1 x c z);exact⟨v,cellAt x c (c1 x c z) v q⟩
  ·exact⟨_,z⟩
 ·rcases look x c e with z|⟨z,_⟩
  ·exact I.freeC x c (c1 x c z)
  ·exact a1 c ()
 ·unfold Q0q;show _=N'.length;rw[O1];exact ck.len
end L2
namespace PySem
open Sem (wp)
def qv(o:Obj):Option aA:=match o.data with|.fields vs=>vs[2]? |_=>zl
def Qan{o:Obj}(j:o.data=.fields vs):qv (cI (·.setIfInBounds 1 x) o)=qv o:=by
 have d:=cZ j (·.setIfInBounds 1 x);unfold qv;rw[d,j];exact ft (by decide)
variable{M:Model}{A:aO}{E:aA->aC->Prop}{s:aC}{en:Env}{ou:List Env}{L e:aB}{ob:Obj}{vs:Array aA}{a0:aA}{Q:Unit->aC->Prop}
section
variable{bs:Heap}
def Q4t(fr:A.frames=zo (en::ou))(Z:s.heap.FunFrames bs (en::ou))(ef:en.frame=zo L)(oe:s.heap.get? e=zo ob)(kb:bs.StaysIn s.heap)(ne:bs.get? e=zl)(J:ob.data=.fields vs)(z1:1<vs.size)(z0:vs[0]?=zo a0)(h:∀h',Heap.LeftW bs (en::ou) e ob.cls a0 s.heap h'->(∃o',h'.get? e=zo o'/\o'.dict=ob.dict/\qv o'=qv ob)->Q PUnit.unit {s with heap:=h'}):
  aF M A (do
   let a<-frameOf en
   let Y<-entryPlaceOf L nx
   let b<-EntryCells.newEntry G a .none (aU L) .none Y
   setField (.ref e) 1 b) (λ_ s'=>aF M A (setFlight (.ref e) zl) Q E s') E s:=by
 have nf:e∉(en::ou).filterMap (·.frame):=λm=>by
  obtain⟨_,o,q,n⟩:=Z.mem m;rw[oe]at q;cases q;exact n vs J
 refine aD (wpAny_frameOf_fun fr Z ef λg gs=>?_);refine aD (wpAny_entryPlaceOf λY hp=>?_);unfold EntryCells.newEntry newFields;refine aD (au ?_ (hp.sizeOk5 _ _ _ _ _));have ge:g.get? e=zo ob:=(gs.2.1 e nf).trans oe;have gb:bs.StaysIn g:=λb o q=>(gs.2.1 b λm=>by
  rw[(Z.mem m).1]at q;cases q).trans (kb b o q)
 obtain⟨tb,O⟩:∃tb:List aA,[G,.ref L,.none,aU L,.none]++(if Y.isEmpty then bh 6 bi else Y)=tb:=⟨_,rfl⟩;have l5:3<tb.length/\tb[3]?=zo (aU L):=by
  rw[<- O];exact⟨by simp,by simp⟩
 rw[O];have S:=O4 (h:=g) {cls:=.type "traceback",dict:=zl,data:=.fields tb.toArray} ge;refine wpAny_setField S J z1 ?_;have te:g.objs.size≠e:=cC (D0 ge);have d3:=cZ J (·.setIfInBounds 1 (bc g.objs.size));have j:=G7 (cI (·.setIfInBounds 1 (bc g.objs.size))) S (dj d3);have I:=(F6 (g.push {cls:=.type "traceback",dict:=zl,data:=.fields tb.toArray})
  (cI (·.setIfInBounds 1 (bc g.objs.size))) te.symm).trans
  (D4 g rfl)
 unfold setFlight;refine aD (ar j d3 (x:=.ref g.objs.size) (by simp[z1]) ?_);rw[bU (show(bc g.objs.size !=bi)=zb by simp)];refine wpAny_setField I rfl (by simpa using l5.1) (h _ ?_ ?_)
 all_goals
  obtain⟨g3,U⟩:∃g3,((g.push {cls:=.type "traceback",dict:=zl,data:=.fields tb.toArray}).update e (cI (·.setIfInBounds 1 (bc g.objs.size))))=g3:=⟨_,rfl⟩;rw[U]at j I ⊢
 ·have kp:∀b o,b≠e->g.get? b=zo o->(g3.update g.objs.size (cI (·.setIfInBounds 3 ((zl:Option aB).elim bi λf=>aU f)))).get? b=zo o:=λb o n q=>by
   rw[F6 _ _ (cC (D0 q)),<- U,F6 _ _ n.symm];exact O4 _ q
  have nr:∀b o,s.heap.get? b=zo o->(∀ws,o.data≠.fields ws)->b≠e:=λb o q n z=>by
   rw[z,oe]at q;cases q;exact n vs J
  refine⟨λb o q=>kp b o (λz=>by rw[z,ne]at q;cases q) (gb b o q),Z.of_keeps λb o q n=>?_,?_,λb o q n=>?_⟩
  ·obtain⟨sl,z⟩:=gs.2.2 b o q;exact⟨_,kp b _ (nr b o q n) z,rfl⟩
  ·refine⟨_,_,g.objs.size,_,_,?_,⟨fm _ _,?_⟩,d3,by simp[z1],gb.fresh,te,G7 _ I (dj (cZ rfl _)),cZ rfl _,?_⟩
   ·rw[F6 _ _ te];exact j
   ·rw[ft (by decide)];exact z0
   ·have:=l5.1;simp[this]
  ·obtain⟨sl,z⟩:=gs.2.2 b o q;exact⟨sl,kp b _ (nr b o q n) z⟩
 ·refine⟨_,(F6 _ _ te).trans j,?_,Qan J⟩;cases ob with
  |mk c d dt sl=>cases dt<;>first|rfl|cases J
def Qad (O:A.frames=zo (en::ou)) (I:s.heap.FunFrames bs (en::ou)) (q:en.frame=zo L) (z:s.heap.get? e=zo ob) (J:bs.StaysIn s.heap) (ne:bs.get? e=zl)
  (j:ob.data=.fields vs) (G:vs[1]?=zo .none) (S:vs[0]?=zo a0)
  (h:∀h',Heap.LeftW bs (en::ou) e ob.cls a0 s.heap h'->(∃o',h'.get? e=zo o'/\o'.dict=ob.dict/\qv o'=qv ob)->Q PUnit.unit {s with heap:=h'}):aF M A (leaving en (.ref e)) Q E s:=by
 unfold leaving noteFrame;simp only[q];refine aD (aD (ar z j G ?_));rw[bV (by decide)];exact Q4t O I q z J ne j (cA.mp G).1 S h
def Qac(fr:A.frames=zo (en::ou))(S:en.frame=zo L)(fl:Heap.FlyingW bs (en::ou) e cls a0 s.heap)(dd:∃o',s.heap.get? e=zo o'/\o'.dict=Y/\qv o'=zo .none)(h:∀h',Heap.FlyingW bs ou e cls a0 h'->(∃o',h'.get? e=zo o'/\o'.dict=Y/\qv o'=zo .none)->s.heap.UpToSlots h'->Q PUnit.unit {s with heap:=h'}):aF M A (leaving en (.ref e)) Q E s:=by
 obtain⟨kb,ne,ff,oe,ws,T,oT,Z,O,⟨hc,z0⟩,od,z1,nT,Te,hT,dT,z3⟩:=fl;obtain⟨o',j,I,J⟩:=dd;rw[O]at j;cases j;unfold leaving noteFrame;simp only[S];refine aD (aD (ar O od z1 ?_));rw[bU (show(bc T !=bi)=zb by simp)];refine aD (ar hT dT z3 ?_);rw[bV (show ¬((bi==aU L)=zb) by simp[aU])];refine aD (wpAny_setField hT dT (cA.mp z3).1 ?_);have G:∀b,b≠T->(s.heap.update T (cI (·.setIfInBounds 3 bi))).get? b=s.heap.get? b:=λb n=>F6 _ _ n.symm
 have U:∀b o,s.heap.get? b=zo o->(∀ws,o.data≠.fields ws)->b≠T:=λb o q n z=>by
  rw[z,hT]at q;cases q;exact n Z dT
 refine Q4t fr (ff.of_keeps λb o q n=>⟨o,(G b (U b o q n)).trans q,rfl⟩) S ((G e Te.symm).trans O) (λb o q=>(G b λz=>by rw[z,nT]at q;cases q).trans (kb b o q)) ne od (cA.mp z1).1 z0 λh' lf d'=>?_
 obtain⟨k1,⟨_,_,k2⟩,k3,k4⟩:=lf;rw[hc]at k3;exact h h' ⟨k1,ne,k2,k3⟩ (d'.imp λo q=>⟨q.1,q.2.1.trans I,q.2.2.trans J⟩) λb o q n=>k4 b o ((G b (U b o q n)).trans q) n
def Q2a(fr:A.frames=zo (en::ou))(U:s.heap.FunFrames bs (en::ou))(ef:en.frame=zo L)(Z:s.heap.get? e=zo ob)(kb:bs.StaysIn s.heap)(ne:bs.get? e=zl)(G:ob.data=.fields vs)(z1:1<vs.size)(z0:vs[0]?=zo a0)(h:∀h',Heap.NotedW bs (en::ou) e ob.cls a0 (aU L) s.heap h'->(∃o',h'.get? e=zo o'/\o'.dict=ob.dict/\qv o'=qv ob)->Q PUnit.unit {s with heap:=h'}):
  aF M A (do
   let a<-frameOf en
   let S<-entryPlaceOf L nx
   let b<-EntryCells.newEntry j a .none (aU L) .none S
   setField (.ref e) 1 b) Q E s:=by
 have nf:e∉(en::ou).filterMap (·.frame):=λm=>by
  obtain⟨_,o,q,n⟩:=U.mem m;rw[Z]at q;cases q;exact n vs G
 refine aD (wpAny_frameOf_fun fr U ef λg gs=>?_);refine aD (wpAny_entryPlaceOf λS hp=>?_);unfold EntryCells.newEntry newFields;refine aD (au ?_ (hp.sizeOk5 _ _ _ _ _));have ge:g.get? e=zo ob:=(gs.2.1 e nf).trans Z;have gb:bs.StaysIn g:=λb o q=>(gs.2.1 b λm=>by
  rw[(U.mem m).1]at q;cases q).trans (kb b o q)
 obtain⟨tb,I⟩:∃tb:List aA,[j,.ref L,.none,aU L,.none]++(if S.isEmpty then bh 6 bi else S)=tb:=⟨_,rfl⟩;have l5:3<tb.length/\tb[3]?=zo (aU L):=by
  rw[<- I];exact⟨by simp,by simp⟩
 rw[I];have J:=O4 (h:=g) {cls:=.type "traceback",dict:=zl,data:=.fields tb.toArray} ge;have te:g.objs.size≠e:=cC (D0 ge);have d3:=cZ G (·.setIfInBounds 1 (bc g.objs.size));have O:=G7 (cI (·.setIfInBounds 1 (bc g.objs.size))) J (dj d3);have a1:=(F6 (g.push {cls:=.type "traceback",dict:=zl,data:=.fields tb.toArray})
  (cI (·.setIfInBounds 1 (bc g.objs.size))) te.symm).trans
  (D4 g rfl)
 refine wpAny_setField J G z1 (h _ ?_ ?_)
 ·have kp:∀b o,b≠e->g.get? b=zo o->((g.push {cls:=.type "traceback",dict:=zl,data:=.fields tb.toArray}).update e (cI (·.setIfInBounds 1 (bc g.objs.size)))).get? b=zo o:=λb o n q=>by
   rw[F6 _ _ n.symm];exact O4 _ q
  have nr:∀b o,s.heap.get? b=zo o->(∀ws,o.data≠.fields ws)->b≠e:=λb o q n z=>by
   rw[z,Z]at q;cases q;exact n vs G
  refine⟨λb o q=>kp b o (λz=>by rw[z,ne]at q;cases q) (gb b o q),U.of_keeps λb o q n=>?_,?_,λb o q n=>?_⟩
  ·obtain⟨Y,z⟩:=gs.2.2 b o q;exact⟨_,kp b _ (nr b o q n) z,rfl⟩
  ·refine⟨_,_,g.objs.size,_,_,O,⟨fm _ _,?_⟩,d3,by simp[z1],gb.fresh,te,a1,rfl,by simpa using l5.2⟩;rw[ft (by decide)];exact z0
  ·obtain⟨Y,z⟩:=gs.2.2 b o q;exact⟨Y,kp b _ (nr b o q n) z⟩
 ·refine⟨_,O,?_,Qan G⟩;cases ob with
  |mk c d dt Y=>cases dt<;>first|rfl|cases G
def Qgc(fr:A.frames=zo (en::ou))(S:en.frame=zo L)(fl:Heap.FlyingW bs (en::ou) e cls a0 s.heap)(dd:∃o',s.heap.get? e=zo o'/\o'.dict=Y/\qv o'=zo .none)(h:∀h',Heap.HeldW bs (en::ou) e cls a0 L h'->(∃o',h'.get? e=zo o'/\o'.dict=Y/\qv o'=zo .none)->s.heap.UpToSlots h'->Q PUnit.unit {s with heap:=h'}):aF M A (noteFrame (.ref e) en) Q E s:=by
 obtain⟨kb,ne,ff,oe,ws,T,oT,Z,O,⟨hc,z0⟩,od,z1,nT,Te,hT,dT,z3⟩:=fl;obtain⟨o',j,I,J⟩:=dd;rw[O]at j;cases j;unfold noteFrame;simp only[S];refine aD (ar O od z1 ?_);rw[bU (show(bc T !=bi)=zb by simp)];refine aD (ar hT dT z3 ?_);rw[bV (show ¬((bi==aU L)=zb) by simp[aU])];refine aD (wpAny_setField hT dT (cA.mp z3).1 ?_);have G:∀b,b≠T->(s.heap.update T (cI (·.setIfInBounds 3 bi))).get? b=s.heap.get? b:=λb n=>F6 _ _ n.symm
 have U:∀b o,s.heap.get? b=zo o->(∀ws,o.data≠.fields ws)->b≠T:=λb o q n z=>by
  rw[z,hT]at q;cases q;exact n Z dT
 refine Q2a fr (ff.of_keeps λb o q n=>⟨o,(G b (U b o q n)).trans q,rfl⟩) S ((G e Te.symm).trans O) (λb o q=>(G b λz=>by rw[z,nT]at q;cases q).trans (kb b o q)) ne od (cA.mp z1).1 z0 λh' nt d'=>?_
 obtain⟨k1,k2,k3,k4⟩:=nt;rw[hc]at k3;exact h h' ⟨k1,ne,k2,k3⟩ (d'.imp λo q=>⟨q.1,q.2.1.trans I,q.2.2.trans J⟩) λb o q n=>k4 b o ((G b (U b o q n)).trans q) n
def Q1y(kb:bs.StaysIn s.heap)(ne:bs.get? e=zl)(ff:s.heap.FunFrames bs l)(tr:s.heap.TracedAtW bs e cls a0 fv)(dd:∃o',s.heap.get? e=zo o'/\o'.dict=dv/\qv o'=zo .none)(h:∀h',Heap.FlyingW bs l e cls a0 h'->(∃o',h'.get? e=zo o'/\o'.dict=dv/\qv o'=zo .none)->s.heap.UpToSlots h'->Q PUnit.unit {s with heap:=h'}):aF M A (setFlight (.ref e) zl) Q E s:=by
 obtain⟨oe,ws,T,oT,ts,he,hc,od,Y,U,S,J,dT,z3⟩:=tr;obtain⟨o',I,G,O⟩:=dd;have Z:=(cA.mp z3).1;have j:∀b,b≠T->(s.heap.update T (cI (·.setIfInBounds 3 ((zl:Option aB).elim bi λf=>aU f)))).get? b=s.heap.get? b:=λb n=>F6 _ _ n.symm
 have nr:∀b o,s.heap.get? b=zo o->(∀ws,o.data≠.fields ws)->b≠T:=λb o q n z=>by
  rw[z,J]at q;cases q;exact n ts dT
 unfold setFlight;refine aD (ar he od Y ?_);rw[bU (show(bc T !=bi)=zb by simp)];refine wpAny_setField J dT Z (h _ ⟨λb o q=>(j b λz=>by rw[z,U]at q;cases q).trans (kb b o q),ne,ff.of_keeps λb o q n=>⟨o,(j b (nr b o q n)).trans q,rfl⟩,?_⟩ ⟨o',(j e S.symm).trans I,G,O⟩ λb o q n=>⟨o.slots,(j b (nr b o q n)).trans q⟩)
 exact⟨oe,ws,T,_,_,(j e S.symm).trans he,hc,od,Y,U,S,G7 _ J (dj (cZ dT _)),cZ dT _,by simp[Z]⟩
end
end PySem
namespace L2
open PySem PySem.Spec PyProof.Rows
def CXD(P:aK)(w:aJ):CXT:=λouter H s E e s'=>∃a cls a0 dv H' B,e=bc a/\Fly P w outer H H' s s' a cls a0 B/\(∃o',s'.heap.get? a=zo o'/\o'.dict=dv/\qv o'=zo .none)/\E cls dv H'
def zd:Q55 (CXD P w) X E0:=λ_ _ _ _ _ _ _ h=>by
 obtain⟨_,_,_,_,_,_,_,_,_,z⟩:=h;exact z.elim
variable{P:aK}{K:bZ}{mg:zAE}{base:Heap}{N:List Str}{qual:Str}{scope:Scope}{f:aB}{cd:aA}{A:aO}{outer:List Env}{s:aC}{H:Hp}{E:XK}
section
variable{w:aJ}
abbrev cxD(P:aK)(w:aJ)(K:bZ)(mg:zAE)(base:Heap)(N:List Str)(qual:Str)(scope:Scope)(f:aB)(cd:aA)(A:aO)(outer:List Env)(s:aC)(H:Hp)(E:XK):Cx:=Qgv (CXD P w) P w K mg base N qual scope f cd A outer s H E
def Q6y(I:Inv (cxD P w K mg base N qual scope f cd A outer s H E) pins σ H1 s1)(e:s.heap.get? b=zo o)(n:b∉frs outer):b∉frs (cxD P w K mg base N qual scope f cd A outer s H E).stack:=λj=>by
 rcases D7.mp (I.stkSub b j)with z|z
 ·have h1:b<s.heap.objs.size:=D0 e;have h2:s.heap.objs.size<=(cxD P w K mg base N qual scope f cd A outer s H E).env.locals:=I.ok.above;rw[<- z]at h2;exact absurd (D5 h1 h2) (N1 _)
 ·exact n z
def Qme(h:b∈frs outer):b∈frs (cxD P w K mg base N qual scope f cd A outer s H E).stack:=by
 show b∈frs (_::outer);unfold frs at h ⊢;rw[cj]
 split
 ·exact h
 ·exact O3 _ h
def Qu5{H1:Hp}{s1:aC}{O:Heap}(I:Inv (cxD P w K mg base N qual scope f cd A outer s H E) pins σ H1 s1)(hk:∀b o,b≠e->s1.heap.get? b=zo o->O.get? b=zo o)(U:∀o,s1.heap.get? e=zo o->∃vs,o.data=.fields vs)(new:s.heap.get? e=zl)(hH:H1 e=zl)(oe:O.get? e=zo {cls:=.ref C,dict:=dv,data:=.fields #[.ref t,.none,.none,.none,.bool yo,.none]})(hE:E (.ref C) dv H1):
  (cxD P w K mg base N qual scope f cd A outer s H E).xe (.ref e) {s1 with heap:=O}:=by
 have a1:∀en∈(cxD P w K mg base N qual scope f cd A outer s H E).stack,∀b,en.frame=zo b->b∈e::frs (cxD P w K mg base N qual scope f cd A outer s H E).stack:=λen he b j=>O3 _ (dh.mpr ⟨en,he,j⟩)
 have ff:=PySem.W.funFrames_hide I.stack a1;have Z:∀b o,s1.heap.get? b=zo o->(∀vs,o.data≠.fields vs)->b≠e:=λb o q n z=>by
  subst z;obtain⟨vs,d⟩:=U o q;exact n vs d
 have hid:(eF s1.heap (e::frs (cxD P w K mg base N qual scope f cd A outer s H E).stack)).get? e=zl:=gZ _ E7;have kb:(eF s1.heap (e::frs (cxD P w K mg base N qual scope f cd A outer s H E).stack)).StaysIn O:=λb o q=>hk b o (λz=>by rw[z,hid]at q;cases q) (gY _ q)
 show aF (aI P w) _ (leaving _ (.ref e)) _ _ _;refine Qad (bs:=eF s1.heap (e::frs (cxD P w K mg base N qual scope f cd A outer s H E).stack)) (a0:=.ref t) (s:={s1 with heap:=O}) I.ok.frames (ff.of_keeps λb o q n=>⟨o,hk b o (Z b o q n) q,rfl⟩) rfl oe kb hid rfl rfl rfl λh2 lf dd=>?_
 obtain⟨k1,⟨_,_,k2⟩,k3,k4⟩:=lf;have noex:∀b:aB,b∉(cxD P w K mg base N qual scope f cd A outer s H E).ex:=λb z=>absurd (show b∈([]:List aB)from z) (by simp)
 have J:∀b o,s.heap.get? b=zo o->b≠e:=λb o q z=>by rw[z,new]at q;cases q
 have S:∀b o,s.heap.get? b=zo o->b∉frs outer->b∉e::frs (cxD P w K mg base N qual scope f cd A outer s H E).stack:=λb o q n m=>by
  rcases D7.mp m with z|z
  ·exact J b o q z
  ·exact Q6y I q n z
 refine⟨e,.ref C,.ref t,dv,H1,_,rfl,⟨I.os,I.bare,⟨k1,hid,k2,k3⟩,λb u q=>?_,λb o q n j=>?_,λb o q j=>?_,λb o q j=>?_,λb o q n=>I.base.free b o q n (noex b),I.base.tups,I.base.frzs,I.base.tbls⟩,dd,hE⟩
 ·have ne:∀c v,H1 c=zo v->c∉e::frs (cxD P w K mg base N qual scope f cd A outer s H E).stack:=λc v z m=>by
   rcases D7.mp m with m|m
   ·rw[m,hH]at z;cases z
   ·rw[I.stkFree c m]at z;cases z
  refine(I.hok b u q).stay (λc v hc r=>eG _ r ?_) (λ_ r=>r) λ_ _ r=>r
  rcases hc with rfl|hc
  ·exact ne c u q
  ·exact ne c _ hc
 ·exact eG _ (I.base.keep b o q n j (noex b)) (S b o q j)
 ·obtain⟨o',z⟩:=I.base.there b o q (noex b);exact⟨o',eG _ z (S b o q j)⟩
 ·obtain⟨sl,z⟩:=I.base.slot b o q (I.ok.frf b j) j (noex b);obtain⟨_,o',Y,a3⟩:=I.ok.funs.mem j;have G:s.heap.get? b=zo o':=Y;rw[q]at G;cases G;obtain⟨a2,z'⟩:=k4 b _ (hk b _ (J b o q) z) a3;exact⟨a2,z'⟩
def Wy:Q55 (CXD P w) (cxD P w K mg base N qual scope f cd A outer s H E) E:=by
 intro pins σ H1 s1 e s' I h;obtain⟨a,cls,a0,dv,H',B,rfl,F,dd,hE⟩:=h;show aF (aI P w) _ (leaving _ (.ref a)) _ _ _;have noex:∀b:aB,b∉(cxD P w K mg base N qual scope f cd A outer s H E).ex:=λb z=>absurd (show b∈([]:List aB)from z) (by simp)
 refine Qac I.ok.frames rfl F.fl dd λh2 x1 d2 x2=>?_
 refine⟨a,cls,a0,dv,H',B,rfl,⟨F.os.trans I.os,F.bare,x1,F.hokB,λb o q n j=>?_,λb o q j=>?_,λb o q j=>?_,λb o q n=>?_,λb xs q=>F.tups b xs (I.base.tups b xs q),λb o u q=>F.frzs b o u (I.base.frzs b o u q),λb ps q=>?_⟩,d2,hE⟩
 ·exact F.keep b o (I.base.keep b o q n j (noex b)) (I.base.free b o q n (noex b)) (Q6y I q j)
 ·obtain⟨o',z⟩:=I.base.there b o q (noex b);exact F.there b o' z (Q6y I q j)
 ·obtain⟨sl,z⟩:=I.base.slot b o q (I.ok.frf b j) j (noex b);obtain⟨_,o',J,O⟩:=I.ok.funs.mem j;have G:s.heap.get? b=zo o':=J;rw[q]at G;cases G;obtain⟨U,Y⟩:=F.slot b _ z (Qme j);obtain⟨S,z2⟩:=x2 b _ Y O;exact⟨S,z2⟩
 ·obtain⟨o',z⟩:=I.base.there b o q (noex b);exact F.free b o' z (I.base.free b o q n (noex b))
 ·obtain⟨m1,Z⟩:=I.base.tbls b ps q;obtain⟨m2,e2⟩:=F.tbls b _ Z;exact⟨m1++m2,by rw[e2,gc]⟩
end
variable{X:Cx}
def Qdb(X:Cx)(E:XK):Prop:=∀(pins:zAA)(σ:St)(H0 H1:Hp)(s0 s1:aC)(hx:Heap)(e C t:aB)(dv:Option aB),Inv X pins σ H0 s0->s0.heap.get? e=zl->Inv X pins σ H1 s1->(∀b o,b≠e->s1.heap.get? b=zo o->hx.get? b=zo o)->
 (∀o,s1.heap.get? e=zo o->∃vs,o.data=.fields vs)->H1 e=zl->hx.get? e=zo {cls:=.ref C,dict:=dv,data:=.fields #[.ref t,.none,.none,.none,.bool yo,.none]}->E (.ref C) dv H1->X.xe (.ref e) {s1 with heap:=hx}
def Qfn(j:X.calm=zb)(Z:Qdb X E)(hg:Gl X x)(hm:X.mg x=zo (.ref C))(q:cF X.K C Q51 "ValueError.__new__"=zb)(ha:PA X [e] t)(S:(x==("__debug__":Str))=yo:=by decide)(Y:aN [e] X.env=[(yo,aM e X.env)]:=by rfl):PS X (.Raise (zo (.Call (.Name x np) [e] [] cpos)) zl pos) (Qtg C E t):=by
 intro pins s σ H D I h;obtain⟨tl,N,nm,qn,bs,hdct,sn,sub,ab,col,dd,k0,k1,k2,k3,k5,mN,hC,hN,U,T⟩:=(Qqb I.mod.kin hm q).obj;refine wpAny_Raise_call_subU (C:=C) (nm:=nm) (q:=qn) (N:=N) (bs:=bs) (bm:=tl) (hdct:=hdct) (sn:=sn) (sub:=sub) (ab:=ab) (col:=col) (dd:=dd) (k0:=k0) (k1:=k1) (k2:=k2) (k3:=k3) (k5:=k5)
  iM (by decide +kernel) iM (mN:=mN) (T.hasType (by decide +kernel)) (I.ok.hd j) (by rw[Y];rfl) U (Q0e I hg hm ⟨rfl,?_⟩ S)
 have J:=ha cpos pins s σ H _ I h;rw[Y]at J ⊢;refine Calls.evalArgs_plain (ak J (λus s1 ⟨vs,H1,G,r,z,hE⟩=>?_) λ_ _ y=>y)
 refine⟨rfl,by rw[<- r.length];exact z,G.bk _ _ hC,hN.keeps G.bk,T.keeps G.bk,λh' e' O=>?_⟩;obtain⟨t,oe,_,_⟩:=O.there;exact Z pins σ H1 H1 s1 s1 h' e' C t zl G O.new G (λb o _ k=>O.keeps b o k) (λo k=>by rw[O.new]at k;cases k) (G.hok.none_of O.new) oe hE
def Qis {P:aK} {w:aJ} {K:bZ} {mg:zAE} {base:Heap} {N:List Str} {qual:Str} {scope:Scope} {f:aB} {cd:aA} {A:aO} {outer:List Env} {s:aC} {H:Hp} {E:XK}:
  Qdb (cxD P w K mg base N qual scope f cd A outer s H E) E:=λpins σ H0 H1 s0 s1 Z e C t dv J O I Y j S U G=>by
 refine Qu5 I Y j ?_ S U G;cases q:s.heap.get? e with
|none=>rfl
|some o=>
  obtain⟨o',z⟩:=J.base.there e o q (λz=>absurd (show e∈([]:List aB)from z) (by simp))
  rw[O]at z;cases z
def Fun.okD {P:aK} {w:aJ} {K:bZ} {mg:zAE} {base:Heap} {x qual:Str} {st:aL} {f:aB} {fd:aP} {N ps:List Str} {k:Nat} {sp:Sp} (F:Fun K x qual st f fd) (S:FnScope N ps (Q9 st)) (len:∀vs H Q E,sp vs H Q E->vs.length=ps.length)
  (q:∀(j:aA)(A:aO)(outer:List Env)(s:aC)(H:Hp)(vs:List V)(Q:VK)(E:XK),Room k (A.deeper (envOfC qual (Q9 st) s.heap.objs.size f j))->sp vs H Q E->
   ∃t,PSs (cxD P w K mg base N qual (Q9 st) f j A outer s H E) (Z7 st) t/\t {nx:=λ_ H'=>Q .non H',rt:=Q} (start N vs) H):FnOk P w K mg base (CXD P w) (k+1) f fd ps sp:=by
 obtain⟨oc,Z,kV,U,pm,Y,j,ct,J,rfl,O,z⟩:=F.ex;exact Qzw O z S len λA outer s H vs Q E I G=>q j A outer s H vs Q E I G
end L2
namespace L2
open PySem PySem.Spec PyProof.Rows PySem.W PySem.Builtin.Getset_descriptor
def IsXD(x C:aB)(dv:Option aB)(h:Heap):Prop:=∃ox vs,h.get? x=zo ox/\ox.cls=.ref C/\ox.dict=dv/\ox.data=.fields vs/\vs[2]?=zo .none
def IsXD.x{x C:aB}{q:Option aB}{h:Heap}(I:IsXD x C q h):IsX x C h:=let ⟨j,_,a,b,_⟩:=I;⟨j,a,b⟩
def Qry(I:IsXD a C j h):ObjOk P w H h a (.ext (IsXD a C j)):=
 ⟨I,(let ⟨o,_,e,_⟩:=I;⟨o,e⟩),λh1 h2 ⟨o,vs,e,c⟩ k=>⟨o,vs,k o e,c⟩⟩
variable{X:Cx}{pins:zAA}{σ:St}{H H':Hp}{s s':aC}{a C:aB}
def Qrn{ts:TS}{D:Ends}(hN:X.N.Nodup)(hi:X.N[i]?=zo n)(hk:X.env.scope.names.lookup n=zo .local)(c0:∀b,b∉X.ex)(a6:X.stack=X.env::X.outer)(b3:X.env.frame=zo X.env.locals)(hg:Gl X cn)(hm:X.mg cn=zo (.ref CC))(hx:exmOne X.K (.ref C) (.ref CC)=zo zb)(I:Inv X pins σ H s)(F:Fly X.prog X.w X.stack H H' s s' a (.ref C) a0 B)(dd:∃o',s'.heap.get? a=zo o'/\o'.dict=dv/\qv o'=zo .none)(J:PSs (z6 X a) (U::suite) ts)(q:ts {nx:=λb6 H2=>D.nx (b6.set i zl) H2,rt:=λ_ _=>False} (σ.set i (zo (.ref a))) (upd H' a (.ext (IsXD a C dv))))(b7:(cn==("__debug__":Str))=yo:=by decide):
  aF (aI X.prog X.w) X.A (noteFrame (.ref a) X.env) (λ_ a9=>aF (aI X.prog X.w) X.A (setFlight (.ref a) zl) (λ_ a5=>aF (aI X.prog X.w) X.A (handleBy (.ref a) X.env [.ExceptHandler (zo (.Name cn np)) (zo n) (U::suite) b2]) (SP X pins D) X.xe a5) X.xe a9) X.xe s':=by
 have a7:(X.env.scope.kind==.class||(X.env.scope.kind==.module&&X.env.locals !=X.env.globals))=yo:=by rw[I.ok.kind];rfl
 have a3:=F.fl;rw[a6]at a3;refine Qgc (by rw[<- a6];exact I.ok.frames) b3 a3 dd λh4 j d4 a8=>?_
 refine Q1y (s:={s' with heap:=h4}) j.1 j.2.1 j.2.2.1 j.2.2.2 d4 λh5 G d5 a2=>?_
 obtain⟨n1,n2⟩:=F.new;have I5:Inv X pins σ H' {s' with heap:=h5}:=F.inv I G.1 (a8.trans a2);obtain⟨ob,b9,b1⟩:=G.there;have LT:Looks (aI X.prog X.w) h5 (typeOf (.ref a)) (.ref C):=IsX.type ⟨ob,b9,b1⟩;refine wpAny_handleBy_cons (codeAny_handlers_test (Q0e (X:=z6 X a) (I5.suite a) hg hm ?_ b7)) (by intro z;cases z);refine(exm_one (h:=h5) I5.kIn LT hx).at ?_;refine codeAny_handlers_suite_as ?_;refine Q1y (s:={s' with heap:=h5}) G.1 G.2.1 G.2.2.1 G.2.2.2.at d5 λh6 a4 d6 c1=>?_
 have I6:Inv X pins σ H' {s' with heap:=h6}:=F.inv I a4.1 ((a8.trans a2).trans c1);obtain⟨b5,b4,S,Y,O,_⟩:=a4.first;obtain⟨o',a1,c3,Z⟩:=d6;rw[S]at a1;cases a1;have I7:Inv X pins σ (upd H' a (.ext (IsXD a C dv))) {s' with heap:=h6}:=Inv.track I c0 n1 I6 n2 (Qry ⟨b5,b4,S,Y,c3,O,by unfold qv at Z;rw[O]at Z;exact Z⟩);refine Q34 (X:=z6 X a) (v:=.ref a) (I7.suite a) hN hi (.inl hk) rfl (λs8 I8=>?_) (.inr hk);refine ak (J pins s8 _ _ _ I8 q) (λf s9 h9=>?_) λ_ _ z=>z.elim
 cases f with
|next=>
  obtain⟨c5,H9,I9,q9⟩:=h9;have b0:=I9.unsuite I.ok;obtain⟨m,hn,hl⟩:=id b0.loc;exact wpAny_nameGoes_keeps hk hn a7 λc4 v b8 c2=>⟨_,_,b0.forget hN hi hl b8 c2,q9⟩
|brk=>obtain⟨_,_,_,z⟩:=h9;exact z.elim
|cont=>obtain⟨_,_,_,z⟩:=h9;exact z.elim
|ret u=>obtain⟨_,_,_,_,_,z⟩:=h9;exact z.elim
end L2
namespace L2
open PySem PySem.Spec PyProof.Rows
variable{X:Cx}
def Qs6{CX:CXT}{sp:Sp}{ta:TA}{E1:zAD}(F:FnOk X.prog X.w X.K X.mg X.base CX k f fd ps sp)(hr:Room k X.A)(hm:X.mg g=zo (.ref f))(U:cL X.K (.ref f)=zb)(hb:Binds X.K fd ps [])(ha:PA X.nox (e::es) ta)(hg:Gl X g)(I:Inv X pins σ H s)(h:ta σ H λvs H1=>sp vs H1 Y S)(hE:∀H1 s1 v s',Inv X pins σ H1 s1->CX X.stack H1 s1 S v s'->E1 v s')(Z:(g==("__debug__":Str))=yo)(he:aN (e::es) X.env=(yo,aM e X.env)::aN es X.env)(a1:(aY cpos (aN es X.env)).any (·.1)=yo):
  aF (aI X.prog X.w) X.A (aM (.Call (.Name g p) (e::es) [] cpos) X.env) (EP X pins σ Y) E1 s:=by
 refine wpAny_Call_Name_kw (Q0e I hg hm ?_ Z);refine gq (h₀:=X.base) I.ok.mod.kin U (ak (ha cpos pins s σ H _ (I.wish _) h) (λO s1 ⟨vs,H1,I1,r,q⟩=>⟨I1.unwish.kIn,?_⟩) λ_ _ z=>z.elim) he a1
 have j:=I1.unwish;have hl:O.length=ps.length:=by rw[<- r.length];exact F.len _ _ _ _ q
 have J:=hb s1 O j.kIn (by rw[G9];exact hl);rw[G9]at J;refine wpAny_call (bN (F.run X.A X.stack s1 H1 ⟨O,[]⟩ O vs Y S hr j.env0 J r q) λrr s' G=>?_)
 cases rr with
|error v=>exact hE H1 s1 v s' j G
|ok fl=>
  cases fl with
  |ret u=>exact j.after G
  |next=>exact False.elim G
  |brk=>exact False.elim G
  |cont=>exact False.elim G
def Jj K(O:X.K=K:=by rfl):W6 X (.builtin "isinstance") (λxs H Q=>∃(a C:aB)(G:Option aB)(c:V)(j:aA)(b:Bool),xs=[.ref a,c]/\Qwb c=zo j/\H a=zo (.ext (IsXD a C G))/\XCls K C/\br K (.ref C) j=zo b/\Q (.bl b) H):=by
 subst O;intro pins s σ H xs Z Q I r h;obtain⟨a,C,G,c,j,b,rfl,S,Y,F,e,q⟩:=h;obtain⟨u,w',rfl,U,J⟩:=Qhf r;cases U;rw[Qaz S J];exact cG (Qkm F) I.kIn (I.hok a _ Y).1.x e (λz=>nomatch z) λtk=>⟨.bl b,H,I.tok tk,rfl,q⟩
end L2
namespace L2
open PySem PySem.Spec PyProof.Rows PySem.SeqAt
variable{X:Cx}
def Qwa{bs:List Bool}{its:List aA}(r:Vals (bs.map V.bl) its):its.countP (isBoolOf zb)=bs.countP id:=by
 induction bs generalizing its with
|nil=>cases r;rfl
|cons b bs j=>
  cases r with
  |cons a r=>
   cases a;rw[iN,iN,j r];cases b<;>rfl
def eqB{bs:List Bool}(r:Vals (bs.map V.bl) its):∀y,y∈its->∀A s,EqAt A s y (.bool zb) (isBoolOf zb y):=by
 induction bs generalizing its with
|nil=>cases r;intro y j;exact absurd j (by simp)
|cons b bs z=>
  cases r with
  |cons a r=>
   cases a;intro y j A s;rcases D7.mp j with q|j
   ·rw[q];exact EqAt.bool_bool b zb
   ·exact z r y j A s
def Qpr:V->List V->Hp->VK->Prop:=λx vs H Q=>∃(l:aB)(bs:List Bool),x=.ref l/\vs=[.bl zb]/\H l=zo (.lst (bs.map V.bl))/\Q (.int (bs.countP id:Nat)) H
def Qg4:MtR X "list.count" Qpr:=by
 intro pins s σ H x vs v S Q I J O h;obtain⟨l,bs,rfl,rfl,G,q⟩:=h;cases J;obtain⟨u,rfl,ru⟩:=O.one;obtain rfl:u=cK zb:=ru;obtain⟨z,its,n,r,U,e⟩:=I.lstM G;refine ay iO ⟨_,e,rfl⟩ PySem.F.entry_list_count (PySem.F.args_list_count_2 _ _) (list_countAt l its.toArray n zl #[] (.bool zb) (isBoolOf zb)) ⟨e,λy j=>eqB r y (by simpa using j) _ _,?_⟩;rw[show its.toArray.toList=its from rfl,Qwa r];exact⟨.int _,H,I.tok _,⟨_,rfl⟩,q⟩
def Qpq:V->List V->Hp->VK->Prop:=λx vs H Q=>∃(l:aB)(bs:List Bool)(j:Nat),x=.ref l/\vs=[.bl zb]/\H l=zo (.lst (bs.map V.bl))/\bs.length<=1000/\bs[j]?=zo zb/\(∀m,m<j->bs[m]?=zo yo)/\Q (.int (j:Nat)) H
def Qg3:MtR X "list.index" Qpq:=by
 intro pins s σ H x vs v us Q I Y rv h;obtain⟨l,bs,j,rfl,rfl,hH,hz,U,J,q⟩:=h;cases Y;obtain⟨u,rfl,ru⟩:=rv.one;obtain rfl:u=cK zb:=ru;obtain⟨z,its,n,r,S,e⟩:=I.lstM hH;rw[O1]at S;have lj:j<bs.length:=(O0.mp U).1;have G:∀m(hm:m<its.toArray.size)b,bs[m]?=zo b->its.toArray[m]=cK b:=λm hm b hb=>by
  obtain⟨u,hu,ru⟩:=r.get (show(bs.map V.bl)[m]?=zo (V.bl b) by rw[D8,hb];rfl);obtain rfl:u=cK b:=ru;have:its.toArray[m]?=zo (cK b):=by simpa using hu
  exact(cA.mp this).2
 refine ay iP ⟨_,e,rfl⟩ PySem.F.entry_list_index (PySem.F.args_list_index_2 _ _)
  (list_indexAt l its.toArray n zl #[] (.bool zb) (isBoolOf zb) j (by rw[O8,<- S];exact lj) () ?_ ?_) ⟨e,λy Z=>eqB r y (by simpa using Z) _ _,⟨.int _,H,I.tok _,⟨_,rfl⟩,q⟩⟩
 ·rw[G j _ zb U];rfl
 ·intro m hm O;rw[G m hm yo (J m O)];rfl
def Qtf(sp:Sp)(ta:TA)(i:Nat)(ok:aA->aB->Prop)(ts:aB->TS)(set:V->St->St):TS:=λD σ H=>ta σ H λvs H1=>sp vs H1 (λv H2=>D.nx (set v σ) H2)
 (λc dv H2=>∃C,c=.ref C/\ok c C/\∀a,H2 a=zl->ts a {nx:=λσ3 H3=>D.nx (σ3.set i zl) H3,rt:=λ_ _=>False} (σ.set i (zo (.ref a))) (upd H2 a (.ext (IsXD a C dv))))
def Qfm{z:Pos}{ts:aB->TS}(F:FnOk X.prog X.w X.K X.mg X.base (CXD X.prog X.w) k f fd ps sp)(hr:Room k X.A)(hm:X.mg g=zo (.ref f))(U:cL X.K (.ref f)=zb)(hb:Binds X.K fd ps [])(ha:PA X.nox (e::es) ta)(hN:X.N.Nodup)(hi:X.N[i]?=zo n)(hk:X.env.scope.names.lookup n=zo .local)(j:∀a,PSs (z6 X a) (G::suite) (ts a))(a5:X.mg S=zo (.ref CC))(hg:Gl X g:=by rfl)(a2:Gl X S:=by rfl)(a4:∀b,b∉X.ex:=by exact λb=>dR)(a3:X.stack=X.env::X.outer:=by rfl)(Y:X.env.frame=zo X.env.locals:=by rfl)(a1:(g==("__debug__":Str))=yo:=by decide)(J:(S==("__debug__":Str))=yo:=by decide)(he:aN (e::es) X.env=(yo,aM e X.env)::aN es X.env:=by rfl)(a6:(aY cpos (aN es X.env)).any (·.1)=yo:=by rfl)(Z:swapsWith (.Call (.Name g p) (e::es) [] cpos) zl z.line X.env=pure yo:=by rfl):
  PS X (.Try [.Expr (.Call (.Name g p) (e::es) [] cpos) z] [.ExceptHandler (zo (.Name S np)) (zo n) (G::suite) O] [] [] pos) (Qtf sp ta i (λc _=>fu X.K c (.ref CC)=zo zb) ts (λ_ σ=>σ)):=by
 intro pins s σ H D I h;refine wpAny_Try_except (wpAny_execs_cons (wpAny_Expr_any (thn (Qs6 F hr hm U hb ha hg I h ?_ a1 he a6) λv s1 ⟨x,H1,I1,r1,q1⟩=>wpAny_execs_nil (wpAny_execs_nil ⟨σ,H1,I1,q1⟩)) I.quiet Z))
 intro H1 s1 v s' I1 hx;obtain⟨a,cls,a0,dv,H',B,rfl,Fl,dd,C,rfl,hok,q⟩:=hx;exact Qrn hN hi hk a4 a3 Y a2 a5 hok I1 Fl dd (j a) (q a Fl.new.2) J
end L2
namespace L2
open PySem PySem.Spec PyProof.Rows
variable{X:Cx}
def Qit(K:bZ):R2:=λx y H Q=>∃a b ys,x=.ref a/\y=.ref b/\SqT K H a []/\SqT K H b ys/\Q (.ref b) H
def Qjx:OpR X (aZ .Add) (Qit X.K):=by
 intro pins s σ H x y v u Q I S Z h;obtain⟨a,b,ys,rfl,rfl,ha,O,q⟩:=h;cases S;cases Z;obtain⟨its,Y,p1,_⟩:=I.tuple ha;obtain⟨j,r2,p2,_⟩:=I.tuple O;have e1:its=[]:=Y.nil_iff.mpr rfl;subst e1;obtain⟨⟨cls,dd,data,U⟩,ho,hc,n,hd⟩:=id p1;obtain⟨⟨J,z,data2,G⟩,ho2,hc2,n2,hd2⟩:=id p2;simp only at hc hd hc2 hd2;subst hc hd hc2 hd2;exact concat_meets ⟨_,ho,rfl⟩ ⟨_,ho2,rfl⟩ noFill_tuple_add seq_tuple_add fU fV (fW _ _)
  (tuple_addW0 a b ([]:List aA).toArray j.toArray n n2 dd z U G (by simp)) ⟨ho,ho2,⟨.ref b,H,I,rfl,q⟩⟩
abbrev Qy5(K:bZ):R2:=λx y H Q=>Qsu K x y H Q\/Qit K x y H Q
def Qqj:OpR X (aZ .Add) (Qy5 X.K):=op_catT.or Qjx
def PTs(X:Cx)(ifs:List aH)(t:TT):Prop:=
 ∀(pins:zAA)(s:aC)(σ:St)(H:Hp)(Q:Bool->Hp->Prop),Inv X pins σ H s->t σ H Q->
  aF (aI X.prog X.w) X.A (forIn ifs zb λc r=>if r=zb then do let ok<-isTrue c X.env (aM c X.env);pure (ForInStep.yield ok)else pure (ForInStep.yield r)) (TP X pins σ Q) X.xe s
def Qxe:TT:=λ_ H Q=>Q zb H
def Qpv:PTs X [] Qxe:=λ_ _ _ H _ I h=>wpAny_tests_nil ⟨H,I,h⟩
def Qpu(h:PT X c t):PTs X [c] t:=λpins s σ H Q I q=>wpAny_tests_one (h pins s σ H Q I q)
def Q6m(J:It)(cap:zAC)(g:TG)(tt:TT)(te:TE)(σ:St)(H1:Hp)(Q:VK):Prop:=∀acc,H1 acc=zl->
 ∃W:Nat->Nat->List V->St->Hp->Prop,(∃m,W 0 m [] (Q0q cap σ) (upd H1 acc (.lst [])))/\∀i m ys σ' H',W i m ys σ' H'->H' acc=zo (.lst ys)/\
  ((J.stop i H'/\Q (.ref acc) H')\/(J.go i H'/\ys.length<sizeLine/\∀x H2,J.yld i H' x H2->g x σ' H2 λσ3 H3=>tt σ3 H3 λb H4=>
    if b=zb then te σ3 H4 λy H5=>H5 acc=zo (.lst ys)/\∃m',m'<m/\W (i+1) m' (ys++[y]) σ3 (upd H5 acc (.lst (ys++[y])))
    else ∃m',m'<m/\W (i+1) m' ys σ3 H4))
def Q6x(cap:zAC)(wi:TI)(g:TG)(tt:TT)(te:TE):TE:=λσ H Q=>wi σ H λJ H1=>Q6m J cap g tt te σ H1 Q
variable{prog:aK}{A:aO}{R:Result->aC->Prop}{s:aC}
section
variable{w:aJ}
def Q5g(I:Nat->aC->Prop)(a1:∀n s,I n s->aF (aI prog w) A (ao it) (λr z=>match r with
   |none=>R (.ok .next) z
   |some v=>aF (aI prog w) A (letOwnedTupleGo j it v) (λ_ G=>aF (aI prog w) A (assign j env v) (λ_ Y=>
     aF (aI prog w) A (forIn ifs zb λc r=>if r=zb then do let ok<-isTrue c env (aM c env);pure (ForInStep.yield ok)else pure (ForInStep.yield r)) (λok J=>
      if ok=zb then aF (aI prog w) A (aM elt env) (λx O=>
       aF (aI prog w) A (call (.builtin "list.append") [acc,x]) (λ_ S=>∃m,m<n/\I m S) (λ_ _=>False) O) (λ_ _=>False) J
      else ∃m,m<n/\I m J) (λ_ _=>False) Y)
     (λ_ _=>False) G) (λ_ _=>False) z) (λ_ _=>False) s)n(h:I n s):codeAny (aI prog w) A (.compLoop (.ListComp elt [⟨j,iter,ifs,0⟩] scope pos) 0 it acc env) R s:=by
 refine codeAny_loop rfl I (λn s hI=>?_) n h;show aF _ A ((compTurn (.ListComp elt [⟨j,iter,ifs,0⟩] scope pos) 0 it acc env).onRaise (λx=>do noteFrame x env;theTreesLotGoes x)) _ _ s;refine wpAny_noted ?_;rw[compTurn_list];refine aD (wpAny_standAt (aD (ak (a1 n s hI) (λr z U=>?_) λ_ _ h'=>h'.elim)))
 cases r with
|none=>exact wpAny_pure U
|some v=>
  refine aD (ak U (λ_ G Z=>?_) λ_ _ h'=>h'.elim)
  refine aD (ak Z (λ_ Y a2=>aD (ak a2 (λok J q=>?_) λ_ _ h'=>h'.elim)) λ_ _ h'=>h'.elim)
  cases ok with
  |true=>
   rw[bU rfl]at q;exact aD (aD (ak q (λx O a4=>aD (ak a4 (λ_ S a3=>wpAny_pure (wpAny_pure ⟨rfl,a3⟩)) λ_ _ h'=>h'.elim)) λ_ _ h'=>h'.elim))
  |false=>
   rw[bV O9]at q;exact aD (wpAny_pure (wpAny_pure ⟨rfl,q⟩))
end
def Q4v(c0:X.calm=zb)(hi:PI X tg iter wi)(hg:∀cl C s0 H0 ex,PG (Y7 X N' sc cl C s0 H0 ex) tg g)(he:∀cl C s0 H0 ex,PE (Y7 X N' sc cl C s0 H0 ex) elt te)(e3:∀cl C s0 H0 ex,PTs (Y7 X N' sc cl C s0 H0 ex) ifs tt)(hN:X.N=N)(hE:X.env.scope=scE)(hc:compOkC N N' sc scE cap=zb)(hs:∀x,bF iter X.env x=pure x){Q:VK}(I:Inv X pins σ H s)(h:Q6x cap wi g tt te σ H Q)(fin:∀acc C H' s' m,Inv X pins σ H' s'->s'.heap.Ns C m->Q57 X pins H' C->Q (.ref acc) H'->compPost (aI X.prog X.w) X.A X.xe use QQ (.ref acc) C (.ok .next) s'):
  aF (aI X.prog X.w) X.A (comprehension (.ListComp elt [⟨tg,iter,ifs,0⟩] sc pos) sc X.env pos' (newList []) yo (aM iter X.env) use) QQ X.xe s:=by
 have ck:=compOkC.of hc;obtain⟨cl,e6,c1,c2⟩:=Qcv (scope:=sc) (env:=X.env) λx hx hf=>I.ok.has x.1 (by
  have:=ck.fre x hx hf;rw[<- hE]at this;exact this)
 refine wpAny_comprehension_free (use:=use) rfl hs e6 ck.kind ck.loc (thn (hi pins s σ H _ I h) λv s1 h1=>thn h1 λf0 S h2=>?_)
 obtain⟨it,fp,tn,J,H2,e,I2,T,d5,f2,hw⟩:=h2;subst e;have b7:∀b∈fp,b<S.heap.objs.size:=λb O=>by
  obtain⟨o,e,_⟩:=T.obj _ _ d5 b O;exact D0 e
 obtain⟨W,⟨m0,w0⟩,turn⟩:=hw S.heap.objs.size I2.fresh;refine au (Q58 ?_);dsimp only;have I3:Inv X pins σ (upd H2 S.heap.objs.size (.lst [])) {S with heap:=S.heap.push {cls:=.type "list",data:=.seq ([]:List aA).toArray}}:=
  I2.lnew (its:=[]) (ys:=[]) (t':=S.toks) .nil (G8 _)
 generalize d4:({S with heap:=S.heap.push {cls:=.type "list",data:=.seq ([]:List aA).toArray}}:aC)=U at I3;have d1:U.heap=S.heap.push {cls:=.type "list",data:=.seq ([]:List aA).toArray}:=by rw[<- d4]
 have hsz:U.heap.objs.size=S.heap.objs.size+1:=by rw[d1,L6]
 have f3:∀b∈fp,Q57 X pins (upd H2 S.heap.objs.size (.lst [])) b:=λb O=>by
  obtain⟨g0,g1⟩:=f2 b O;exact⟨by rw[Q7 (F0 (b7 b O))];exact g0,g1⟩
 have k3:∀b o,S.heap.get? b=zo o->U.heap.get? b=zo o:=λb o e=>by rw[d1];exact O4 _ e
 obtain⟨a3,b0⟩:∃a3,aq (U.heap.objs.size+1) sc.names cl=a3:=⟨_,rfl⟩;obtain⟨Y,a1⟩:∃Y,pushCells (U.heap.push {cls:=.type "dict",data:=.dict #[]}) sc.names=Y:=⟨_,rfl⟩;have k1:∀b o,U.heap.get? b=zo o->Y.get? b=zo o:=λb o e=>by rw[<- a1];exact pushCells_keeps _ _ b o (O4 _ e)
 have e2:∀x c,a3.lookup x=zo c->cl.lookup x=zo c\/U.heap.objs.size+1<=c:=λx c e=>by
  rw[<- b0]at e;have:=V5 (sc.names) (U.heap.push {cls:=.type "dict",data:=.dict #[]}) cl x c (by rw[L6];exact e);rcases this with z|⟨_,z,_⟩
  ·exact .inl z
  ·rw[L6]at z;exact .inr z
 have I4:Inv (Y7 X N' sc a3 U.heap.objs.size U (upd H2 S.heap.objs.size (.lst [])) fp) [] (Q0q cap σ) (upd H2 S.heap.objs.size (.lst [])) {U with heap:=Y}:=by
  rw[<- b0,<- a1];exact Qn9 I3 hN hE ck c1 c2 f3 (λb O=>D5 (b7 b O) (by rw[hsz];exact cz _))
 have c7:tn 0 Y:=T.keep _ _ _ d5 λb O o e=>k1 b o (k3 b o e)
 generalize j:Y7 X N' sc a3 U.heap.objs.size U (upd H2 S.heap.objs.size (.lst [])) fp=Z at I4;have c5:Z.xe=λ_ _=>False:=by rw[<- j];rfl
 have G:Z.prog=X.prog:=by rw[<- j];rfl
 have a2:Z.w=X.w:=by rw[<- j];rfl
 have c6:Z.K=X.K:=by rw[<- j];rfl
 have a4:Z.A=X.A:=by rw[<- j];rfl
 have d0:Z.calm=zb:=by rw[<- j];exact c0
 have b2:Z.env=compEnvC sc a3 U.heap.objs.size X.env:=by rw[<- j];rfl
 have b1:Z.env.locals=U.heap.objs.size:=by rw[b2];rfl
 have e4:PG Z tg g:=by rw[<- j];exact hg _ _ _ _ _
 have d9:PE Z elt te:=by rw[<- j];exact he _ _ _ _ _
 have c8:PTs Z ifs tt:=by rw[<- j];exact e3 _ _ _ _ _
 have a6:∀{H':Hp},(∀b∈fp,H' b=zl)->∀b∈fp,Q57 Z [] H' b:=λ{H'} hn b O=>by
  obtain⟨_,g1,g2,g3,g4,g5⟩:=f3 b O;refine⟨hn b O,by rw[b1,hsz];exact F0 (dB (b7 b O)),?_,?_,?_,λp hp=>?_⟩
  ·rw[<- j];intro z;rcases D7.mp (I3.stkSub b z)with e|z
   ·exact g1 e
   ·exact g2 z
  ·left
   rw[<- j];exact O
  ·intro x c e;rw[b2]at e;rcases e2 x c e with z|z
   ·exact g4 x c (c1 x c z)
   ·exact λq=>absurd (D5 (b7 b O) (E8 (E8 (cz _) (hsz▸cz _)) (q▸z))) (N1 _)
  ·rw[<- j]at hp;cases hp
 have c9:∀{a8:St}{H':Hp}{s':aC},Inv Z [] a8 H' s'->Q (.ref S.heap.objs.size) H'->compPost (aI X.prog X.w) X.A X.xe use QQ (.ref S.heap.objs.size) U.heap.objs.size (.ok .next) s':=λ{a8 H' s'} J q=>by
  obtain⟨mm,d2,_⟩:=J.loc;rw[b1]at d2;have b9:H' U.heap.objs.size=zl:=by have:=J.free;rw[b1]at this;exact this
  have hok:=J.hok;rw[G,a2]at hok;have u1:Un (frs X.stack) fp (upd H2 S.heap.objs.size (.lst [])) H' U.heap s'.heap:=by
   have:=J.base;rw[<- j]at this;exact this
  have e1:s'.os=U.os:=by have:=J.os;rw[<- j]at this;exact this
  refine fin _ _ H' s' mm (I3.call' (s':=s') e1 u1 hok J.bare λb O=>?_) d2 (I3.fpOk (O6 _) b9) q
  obtain⟨_,g1,g2,g3,g4,g5⟩:=f3 b O;exact⟨g3,g1,g4,g5⟩
 have b3:codeAny (aI X.prog X.w) X.A (.compLoop (.ListComp elt [⟨tg,iter,ifs,0⟩] sc pos) 0 (.ref it) (.ref S.heap.objs.size) Z.env)
   (compPost (aI X.prog X.w) X.A X.xe use QQ (.ref S.heap.objs.size) U.heap.objs.size) {U with heap:=Y}:=by
  refine Q5g (λn s'=>∃i ys a8 H',Inv Z [] a8 H' s'/\tn i s'.heap/\(∀b∈fp,H' b=zl)/\W i n ys a8 H') ?_ m0 ⟨0,[],_,_,I4,c7,λb O=>(f3 b O).1,w0⟩
  rintro n s5 ⟨i,ys,b4,H5,I5,d3,d6,w5⟩;obtain⟨e9,q⟩:=turn i n ys b4 H5 w5;rcases q with⟨stop,q⟩|⟨go,e8,step⟩
  ·refine thn (a4▸T.done Z G a2 c6 d0 i [] s5 b4 H5 _ I5 (a6 d6) d3 stop) λr s6 ⟨hr,I6⟩=>?_
   subst hr;exact c9 I6 q
  ·refine thn (a4▸T.item Z G a2 c6 d0 i [] s5 b4 H5 _ I5 (a6 d6) d3 go) λr s6 ⟨u,hr,h6⟩=>?_
   subst hr;refine thn h6 λ_ s7 ⟨x,H7,I7,r7,y7,a7,e5⟩=>?_
   have d8:=I7.pinned (a6 e5) (T.obj _ _ a7);have g7:=e4 _ s7 b4 H7 x u _ d8 r7 (step x H7 y7);rw[G,a2,a4,c5]at g7;refine thn g7 λ_ s8 ⟨a5,H8,I8,q8⟩=>?_
   have t8:=c8 _ s8 a5 H8 _ I8 q8;rw[G,a2,a4,c5]at t8;refine thn t8 λe0 d7 ⟨e7,b5,b6⟩=>?_
   cases e0 with
   |false=>
    rw[bV O9]at b6 ⊢;obtain⟨m',c3,w9⟩:=b6;refine⟨m',c3,i+1,_,a5,_,b5.unpinned,T.keep _ _ _ a7 λb O o eo=>(b5.pin (b,o) (F2 _ (F2 _ (Vr O eo)))).1,λb O=>?_,w9⟩;obtain⟨o,eo,d⟩:=T.obj _ _ a7 b O;exact(b5.pin (b,o) (F2 _ (F2 _ (Vr O eo)))).2.1
   |true=>
   rw[bU rfl]at b6 ⊢;have g8:=d9 _ d7 a5 e7 _ b5 b6;rw[G,a2,a4,c5]at g8;refine thn g8 λy s9 ⟨yv,H9,I9,r9,a9,m',c3,w9⟩=>?_
   obtain⟨z,its,nn,rr,hl,e⟩:=I9.lstM a9;refine ay F.slot_list_append ⟨_,e,rfl⟩ F.entry_list_append (F.args_list_append_2 _ _) (iB _ its.toArray nn y (by rw[O8];omega)) ⟨e,?_⟩;have c4:Inv Z ([]++Q3k fp s7.heap) a5 (upd H9 S.heap.objs.size (.lst (ys++[yv]))) {s9 with heap:=s9.heap.update S.heap.objs.size (bx λa=>a.push y)}:=
    I9.lset (t':=s9.toks) (its':=its++[y]) a9 e (by simp) (rr.append (.cons r9 .nil)) (by rw[O5,M0];omega)
   refine⟨m',c3,i+1,_,a5,_,c4.unpinned,T.keep _ _ _ a7 λb O o eo=>(c4.pin (b,o) (F2 _ (F2 _ (Vr O eo)))).1,λb O=>?_,w9⟩;obtain⟨o,eo,d⟩:=T.obj _ _ a7 b O;exact(c4.pin (b,o) (F2 _ (F2 _ (Vr O eo)))).2.1
 rw[b2]at b3;have b8:=codeAny_compStart_list (rest:=[]) (ifs:=ifs) b3 (T.self X.A 0 _ _ _ c7 b3);subst d4;rw[<- b0,<- a1]at b8;exact b8
def Qjm(j:X.calm=zb)(hi:PI X tg iter O)(hg:∀cl C s0 H0 ex,PG (Y7 X N' sc cl C s0 H0 ex) tg g)(he:∀cl C s0 H0 ex,PE (Y7 X N' sc cl C s0 H0 ex) elt te)(z:∀cl C s0 H0 ex,PTs (Y7 X N' sc cl C s0 H0 ex) ifs J)(hN:X.N=N:=by rfl)(hE:X.env.scope=scE:=by rfl)(Y:compOkC N N' sc scE cap=zb:=by decide +kernel)(hs:∀x,bF iter X.env x=pure x:=by intro _;rfl):
  PE X (.ListComp elt [⟨tg,iter,ifs,0⟩] sc pos) (Q6x cap O g J te):=by
 intro pins s σ H Q I h;rw[eval_ListComp];refine Q4v (use:=zl) j hi hg he z hN hE Y hs I h λacc C H' s' m I' hm hf q=>⟨m,hm,λh' G=>?_⟩
 obtain⟨f0,Z,f2,U,f4,S⟩:=hf;exact⟨.ref acc,H',I'.turned (t':=s'.toks) (λb o hb e=>(G.2 b hb).trans e) f0 Z U f4 S,rfl,q⟩
def Qj3{j:Pos}(a1:X.N.Nodup)(U:X.N[i]?=zo x)(hx:Loc X.env.scope x)(G:X.calm=zb)(hi:PI X tg iter wi)(hg:∀cl C s0 H0 ex,PG (Y7 X N' sc cl C s0 H0 ex) tg g)(he:∀cl C s0 H0 ex,PE (Y7 X N' sc cl C s0 H0 ex) elt te)(Y:∀cl C s0 H0 ex,PTs (Y7 X N' sc cl C s0 H0 ex) ifs tt)(S:swapsWith (.ListComp elt [⟨tg,iter,ifs,0⟩] sc pos) (zo (.Name x px)) j.line X.env=pure zb:=by rfl)(hN:X.N=N:=by rfl)(hE:X.env.scope=scE:=by rfl)(hc:compOkC N N' sc scE cap=zb:=by decide +kernel)(hs:∀x,bF iter X.env x=pure x:=by intro _;rfl)(hf:X.fn x=zb\/X.env.scope.names.lookup x=zo .local:=by first|exact .inl rfl|exact .inr rfl|assumption):
  PS X (.Assign [.Name x px] (.ListComp elt [⟨tg,iter,ifs,0⟩] sc pos) j) (Qnu (Q6x cap wi g tt te) (Q6g i)):=by
 intro pins s σ H D I h;rw[exec_Assign_Name_used _ _ _ _ S];refine aD (wpAny_standAt (aD ?_));show aF _ _ (do let _<-comprehension (.ListComp elt [⟨tg,iter,ifs,0⟩] sc pos) sc X.env _ (newList []) yo (aM iter X.env) (zo (assign (.Name x px) X.env))) _ _ s;refine aD (ak (Q4v (use:=zo (assign (.Name x px) X.env)) (QQ:=λ_ s'=>SP X pins D .next s') G hi hg he Y hN hE hc hs I h ?_) (λ_ s' hq=>wpAny_pure (wpAny_pure hq)) λ_ _ e=>e)
 intro acc C H' s' m I' hm O q;obtain⟨f0,f1,f2,f3,f4,f5⟩:=O;show aF _ _ (assign (.Name x px) X.env (.ref acc)) _ _ _;refine wpAny_assign_Name (Q5q I' a1 U hx (v:=.ref acc) rfl (λs2 I2 ⟨a,sb,J⟩=>⟨m,?_,λh' Z=>?_⟩) hf)
 ·refine hm.sameBut sb λz=>?_
  rcases J with J|J
  ·exact f1 (z.trans J)
  ·exact f4 x a J z.symm
 ·exact⟨_,H',I2.turned (t':=s2.toks) (λb o hb e=>(Z.2 b hb).trans e) f0 f1 f3 f4 f5,q⟩
section
section
variable{κ:Type}[DecidableEq κ]
def y9(kvs:List (κ×V))(k:κ):Option V:=(kvs.find? λkv=>decide (kv.1=k)).map (·.2)
def Kw(kvs:List (κ×V))(k:κ)(v:V):List (κ×V):=
 if(kvs.any λkv=>decide (kv.1=k))=zb then kvs.map (λkv=>if kv.1=k then(kv.1,v)else kv)else kvs++[(k,v)]
def Q2x{p:κ×V}(e:p.1=k):y9 (p::r) k=zo p.2:=by simp[y9,cb,e]
def Q2y{p:κ×V}(e:¬p.1=k):y9 (p::r) k=y9 r k:=by simp[y9,cb,e]
def Q8r k:∀j:List (κ×V),(j.any λkv=>decide (kv.1=k))=(y9 j k).isSome
|[]=>rfl
|p::r=>by
  rw[N3]
  by_cases e:p.1=k
  ·simp only[Q2x e,bY e,fw,iK]
  ·rw[Q2y e,bW e,eO];exact Q8r k r
def jp(j:List (κ×V))k v:(Kw j k v).length<=j.length+1:=by
 unfold Kw
 split
 ·rw[O1];omega
 ·rw[O5,D6,cO];omega
def RelO.isSome_eq{o:Option V}{u:Option aA}(r:RelO o u):o.isSome=u.isSome:=by
 cases o with
|none=>cases u with
  |none=>rfl
  |some _=>exact(show False from r).elim
|some _=>cases u with
  |none=>exact(show False from r).elim
  |some _=>rfl
def KV.val{j:List (κ×V)}{vs:List (κ×aA)}(r:KV j vs)(k:κ):RelO (y9 j k) (bJ vs k):=by
 unfold KV at r
 induction r with
|nil=>exact True.intro
| @cons p q ps G h t J=>
  obtain⟨h1,h2⟩:=h
  by_cases e:p.1=k
  ·have I:q.1=k:=h1.symm.trans e;have b:bJ (q::G) k=zo q.2:=by simp[bJ,cb,I]
   rw[Q2x e,b];exact h2
  ·have I:¬q.1=k:=λz=>e (h1.trans z)
   have b:bJ (q::G) k=bJ G k:=by simp[bJ,cb,I]
   rw[Q2y e,b];exact J
def KV.any{j:List (κ×V)}{vs:List (κ×aA)}(r:KV j vs)k:(j.any λkv=>decide (kv.1=k))=vs.any λkv=>decide (kv.1=k):=by
 unfold KV at r
 induction r with
|nil=>rfl
|cons h t q=>rw[N3,N3,q,h.1]
def KV.repl{j:List (κ×V)}{vs:List (κ×aA)}(r:KV j vs)k(G:RelV y u):
  KV (j.map λkv=>if kv.1=k then(kv.1,y)else kv) (vs.map λkv=>if kv.1=k then(kv.1,u)else kv):=by
 unfold KV at r ⊢
 induction r with
|nil=>exact .nil
| @cons p q ps J h t I=>
  rw[D3,D3];refine .cons ?_ I;obtain⟨h1,h2⟩:=h
  by_cases e:p.1=k
  ·rw[bU e,bU (h1.symm.trans e)];exact⟨h1,G⟩
  ·rw[bV e,bV (λz=>e (h1.trans z))];exact⟨h1,h2⟩
def KV.put{j:List (κ×V)}{vs:List (κ×aA)}(r:KV j vs)(k:κ){y:V}{u:aA}(q:RelV y u):KV (Kw j k y) (stored vs k u):=by
 unfold Kw stored;rw[r.any k]
 by_cases e:(vs.any λkv=>decide (kv.1=k))=zb
 ·rw[bU e,bU e];exact r.repl k q
 ·rw[bV e,bV e];exact Paired.snoc r ⟨rfl,q⟩
def KV.length{j:List (κ×V)}{vs:List (κ×aA)}(r:KV j vs):j.length=vs.length:=Paired.length r
end
def Qed(r:RelV (kV k) u):(Yp P w).is k u=zb:=by
 cases k with
|inl i=>obtain⟨t,e⟩:=(show ∃t,u=df i t from r);subst e;exact Qa3 P w i t
|inr x=>obtain⟨t,e⟩:=(show ∃t,u=eC x t from r);subst e;exact Qa2 P w x t
abbrev KT(H:Hp):List (HK×V)->List (HK×aB×aA)->Prop:=aR λp q=>p.1=q.1/\KR H p.1 q.2.1/\RelV p.2 q.2.2
def KT.val(r:KT H j xs)k:RelO (y9 j k) ((atKey xs k).map (·.2)):=by
 induction r with
|nil=>exact True.intro
| @cons p q ps G h t J=>
  obtain⟨h1,_,h2⟩:=h
  by_cases e:p.1=k
  ·have I:q.1=k:=h1.symm.trans e;have b:atKey (q::G) k=zo q.2:=by simp[atKey,cb,I]
   rw[Q2x e,b];exact h2
  ·have I:¬q.1=k:=λz=>e (h1.trans z)
   have b:atKey (q::G) k=atKey G k:=by simp[atKey,cb,I]
   rw[Q2y e,b];exact J
def KT.repl{j:List (HK×V)}{xs:List (HK×aB×aA)}(r:KT H j xs)k(G:RelV y u):
  KT H (j.map λkv=>if kv.1=k then(kv.1,y)else kv) (xs.map (putAt k u)):=by
 induction r with
|nil=>exact .nil
| @cons p q ps O h t I=>
  rw[D3,D3];refine .cons ?_ I;obtain⟨h1,h2,J⟩:=h;unfold putAt
  by_cases e:p.1=k
  ·rw[bU e,bU (h1.symm.trans e)];exact⟨h1,h2,G⟩
  ·rw[bV e,bV (λz=>e (h1.trans z))];exact⟨h1,h2,J⟩
def KT.put(r:KT H j xs)k(G:KR H k b)(z:RelV y u):
  KT H (Kw j k y) (storedH xs k b u):=by
 have e:(j.any λkv=>decide (kv.1=k))=(atKey xs k).isSome:=by
  rw[Q8r,(r.val k).isSome_eq,eP]
 unfold Kw storedH;rw[e]
 by_cases q:(atKey xs k).isSome=zb
 ·rw[bU q,bU q];exact r.repl k z
 ·rw[bV q,bV q];exact Paired.snoc r ⟨rfl,G,z⟩
def KT.keeps{H H':Hp}(r:KT H j xs)(q:∀b ys,H b=zo (.tup ys)->H' b=zo (.tup ys)):KT H' j xs:=
 Paired.mapP r λ_ _ z=>⟨z.1,z.2.1.keep q,z.2.2⟩
section
variable{P:aK}{w:aJ}{H:Hp}{h:Heap}{a:aB}
def Qst(ok:HOk P w H h)(e:Rd H a u):ObjOk P w H h a u:=e.ok ok
def Qar{j:List (Key×V)}(ok:HOk P w H h)(e:Rd H a (.dK j)):j.length<=sizeLine/\(a==ag)=yo/\∃vs,KV j vs/\h.DictOf (Yp P w) a vs:=
 show ObjOk P w H h a (.dK j)from Qst ok e
def J00{j:List (Key×V)}(ok:HOk P w H h)(e:H a=zo (.dK j)):j.length<=sizeLine/\(a==ag)=yo/\∃vs,KV j vs/\h.DictOf (Yp P w) a vs:=Qar ok (.inl e)
mutual
theorem Qkq(ok:HOk P w H h):∀{k:HK}{v:V}{u:aA},KAt H k v->RelV v u->KIs h k u
|.int _,_,_,r,ru=>by cases r;exact ru
|.str _,_,_,r,ru=>by cases r;exact ru
|.tup l,_,u,⟨a,vs,e,q,r⟩,ru=>by
  subst e;cases (show u=bc a from ru);obtain⟨_,its,j,p⟩:=(show ObjOk P w H h a (.tup vs)from ok a _ q);exact⟨a,its.toArray,rfl,p,by simpa using katL_is ok r j⟩
theorem katL_is(ok:HOk P w H h):∀{l:List HK}{vs:List V}{j:List aA},KAtL H l vs->Vals vs j->KIsL h l j
|[],_,_,r,ru=>by cases r;cases ru;rfl
|_::_,_,_,⟨v,r,e,h1,t⟩,ru=>by
  subst e;cases ru with
  |cons a b=>exact⟨_,_,rfl,Qkq ok h1 a,katL_is ok t b⟩
end
def Up(ok:HOk P w H h)(e:KR H k a):(nk P w).is h k a:=⟨Qkq ok e.1 rfl,e.2⟩
def Q2n(j:A.units+9<aS):(nk P w).room A.in1:=by show A.units+1+5<aS;omega
def Qap {j:List (HK×V)} (ok:HOk P w H h) (e:Rd H a (.dT j)):j.length<=sizeLine/\(a==ag)=yo/\
  ∃xs,KT H j xs/\h.DictOfH (nk P w) a xs:=by
 obtain⟨z,y,xs,r,o,es,ep,h1,h2,U,J,S⟩:=(show ObjOk P w H h a (.dT j)from Qst ok e);refine⟨z,y,xs,r,o,es,ep,h1,h2,U,J,λx G=>?_,S⟩;have all:∀{l:List (HK×V)}{m:List (HK×aB×aA)},KT H l m->∀x∈m,(nk P w).is h x.1 x.2.1:=by
  intro l m q
  induction q with
  |nil=>intro x G;exact nomatch G
  | @cons p q ps Y I t O=>
   intro x G;rcases D7.mp G with e|G
   ·subst e;exact Up ok (by rw[<- I.1];exact I.2.1)
   ·exact O x G
 exact all r x G
def Qmq {j:List (HK×V)} (ok:HOk P w H h) (e:H a=zo (.dT j)):j.length<=sizeLine/\(a==ag)=yo/\
  ∃xs,KT H j xs/\h.DictOfH (nk P w) a xs:=Qap ok (.inl e)
end
def DGet(H:Hp)(a:aB)(y:V)(r:Option V):Prop:=
 (∃kvs k,Rd H a (.dK kvs)/\y=kV k/\r=y9 kvs k)\/∃kvs k b,Rd H a (.dT kvs)/\y=.ref b/\KR H k b/\r=y9 kvs k
def DPut(H:Hp)(a:aB)(y v:V)(H':Hp):Prop:=
 (∃kvs k,H a=zo (.dK kvs)/\y=kV k/\kvs.length<sizeLine/\H'=upd H a (.dK (Kw kvs k v)))\/
 ∃kvs k b,H a=zo (.dT kvs)/\y=.ref b/\KR H k b/\kvs.length<sizeLine/\H'=upd H a (.dT (Kw kvs k v))
def DGet.t{H:Hp}{a b:aB}{j:List (HK×V)}{k:HK}(e:H a=zo (.dT j))(q:KR H k b):DGet H a (.ref b) (y9 j k):=.inr ⟨j,k,b,.inl e,rfl,q,rfl⟩
def DPut.t {H:Hp} {a b:aB} {j:List (HK×V)} {k:HK} {v:V} (e:H a=zo (.dT j)) (q:KR H k b) (z:j.length<sizeLine):
  DPut H a (.ref b) v (upd H a (.dT (Kw j k v))):=.inr ⟨j,k,b,e,rfl,q,z,rfl⟩
section
variable{X:Cx}{pins:zAA}{σ:St}{H:Hp}{s:aC}{a:aB}{y v:V}{u r:aA}{o:Option V}{A:aO}{E:zAD}
def Inv.big(I:Inv X pins σ H s):ag<s.heap.objs.size:=by
 have h:aQ<s.heap.objs.size:=(I.mod.glob.keeps I.bk).lt;exact iQ (by decide) h
def Qgu {Q:zAD} (hu:A.units+9<aS) (I:Inv X pins σ H s) (g:DGet H a y (zo v)) (Y:RelV y u) (h:∀G s',Inv X pins σ H s'->RelV v G->Q G s'):
  aF (aI X.prog X.w) A (getItem (.ref a) u) Q E s:=by
 rcases g with⟨U,k,e,O,l⟩|⟨U,k,b,e,O,Z,l⟩
 ·subst O;obtain⟨z,hd,vs,q,dd⟩:=Qar I.hok e;obtain⟨G,J,j⟩:=RelO.some_of (v:=v) (o:=bJ vs k) (by rw[l];exact q.val k);exact wpAny_getItem_of (Qed Y) dd.mapOf J (h G _ (I.tok _) j)
 ·subst O;cases (show u=bc b from Y);obtain⟨z,hd,xs,q,dd⟩:=Qap I.hok e;obtain⟨G,J,j⟩:=RelO.some_of (v:=v) (o:=(atKey xs k).map (·.2)) (by rw[l];exact q.val k);obtain⟨p,hp,S⟩:=iR.mp J;refine wpAny_getItem_heap (Q2n hu) (Up I.hok Z) dd hp ?_;rw[S];exact h G _ (I.tok _) j
def J2a {Q:zAD} (U:A.units+9<aS) (I:Inv X pins σ H s) (g:DGet H a y o) (O:RelV y u) (h:∀s',Inv X pins σ H s'->Q (.bool o.isSome) s'):
  aF (aI X.prog X.w) A (aV .In u (.ref a)) Q E s:=by
 rcases g with⟨J,k,e,G,l⟩|⟨J,k,b,e,G,S,l⟩
 ·subst G;obtain⟨z,hd,vs,j,dd⟩:=Qar I.hok e;refine wpAny_in_of (Qed O) hd dd.mapOf ?_;rw[<- (j.val k).isSome_eq,<- l];exact h _ (I.tok _)
 ·subst G;cases (show u=bc b from O);obtain⟨z,hd,xs,j,dd⟩:=Qap I.hok e;refine wpAny_in_heap (Q2n U) (Up I.hok S) hd dd ?_;have q:=(j.val k).isSome_eq;rw[eP]at q;rw[<- q,<- l];exact h _ (I.tok _)
def Qs3 {Q:zAD} (U:A.units+9<aS) (I:Inv X pins σ H s) (g:DGet H a y o) (O:RelV y u) (h:∀s',Inv X pins σ H s'->Q (.bool (!o.isSome)) s'):
  aF (aI X.prog X.w) A (aV .NotIn u (.ref a)) Q E s:=by
 rcases g with⟨J,k,e,G,l⟩|⟨J,k,b,e,G,S,l⟩
 ·subst G;obtain⟨z,hd,vs,j,dd⟩:=Qar I.hok e;refine wpAny_notIn_of (Qed O) hd dd.mapOf ?_;rw[<- (j.val k).isSome_eq,<- l];exact h _ (I.tok _)
 ·subst G;cases (show u=bc b from O);obtain⟨z,hd,xs,j,dd⟩:=Qap I.hok e;refine wpAny_notIn_heap (Q2n U) (Up I.hok S) hd dd ?_;have q:=(j.val k).isSome_eq;rw[eP]at q;rw[<- q,<- l];exact h _ (I.tok _)
def Q2t{h':Heap}(I:Inv X pins σ H s)(G:Mut (H a))(hs:Heap.SameBut a s.heap h')(J:∃q,h'.get? a=zo q)(new:ObjOk X.prog X.w (upd H a ob) h' a ob):
  Inv X pins σ (upd H a ob) {s with heap:=h',toks:=t'}:=
 I.write (x:=a) (e:=a) G (.inl rfl) (λb q j z=>(hs.2 b j).trans z) J new
def Qw5{h':Heap}{j:List (Key×V)}(z:j.length<=sizeLine)(hd:(a==ag)=yo)(q:KV j vs)(dd:h'.DictOf (Yp P w) a vs):
  ObjOk P w H' h' a (.dK j):=⟨z,hd,vs,q,dd⟩
def Qgt {H':Hp} {Q:Unit->aC->Prop} (hu:A.units+9<aS) (I:Inv X pins σ H s) (g:DPut H a y v H') (ry:RelV y u) (rv:RelV v r) (h:∀s',Inv X pins σ H' s'->Q PUnit.unit s'):
  aF (aI X.prog X.w) A (setItem (.ref a) u r) Q E s:=by
 rcases g with⟨j,k,e,S,l,Y⟩|⟨j,k,b,e,S,Z,l,Y⟩
 ·subst S Y;obtain⟨z,hd,vs,G,dd⟩:=J00 I.hok e;have hz:vs.length<=sizeLine:=by rw[<- G.length];exact z
  have U:(Kw j k v).length<=sizeLine:=by have:=jp j k v;omega
  refine wpAny_setItem_pairs (hsz:=hz) (Qed ry) dd λh' J hs=>h _ ?_
  have he:∃q,h'.get? a=zo q:=let ⟨q,_,_,O,_⟩:=J;⟨q,O⟩;exact Q2t I (by rw[e];exact True.intro) hs he (Qw5 U hd (G.put k rv) J)
 ·subst S Y;cases (show u=bc b from ry);obtain⟨z,hd,xs,G,dd⟩:=Qmq I.hok e;have hz:xs.length<=sizeLine:=by rw[<- Paired.length G];exact z
  have U:(Kw j k v).length<=sizeLine:=by have:=jp j k v;omega
  refine wpAny_setItem_heap (hsz:=hz) (Q2n hu) (Up I.hok Z) dd λh' J hs=>h _ ?_
  obtain⟨q,es,ep,O,h2,h3,h4,_,h5⟩:=J;refine Q2t I (by rw[e];exact True.intro) hs ⟨q,O⟩ ⟨U,hd,_,(G.put k Z rv).keeps λc ys ec=>?_,q,es,ep,O,h2,h3,h4,h5⟩;rw[Q7 (Qt2 ec e (λz=>nomatch z))];exact ec
end
def Qwp(i:aH):Prop:=∀ov iv,subscripted i yo ov iv=operate [ov,iv] (getItem ov iv)
def Qnw{id:String}(U:typeLookup (.type T) "__getitem__"=pure (zo (.builtin id)))(hs:Qwp j)(h:aF (aI prog w) A (aM value env) (λo G=>aF (aI prog w) A (aM j env) (λi q=>q.TypeIs o T/\aF (aI prog w) A (getItem o i) Q E q) E G) E s):
  aF (aI prog w) A (aM (.Subscript value j pos) env) Q E s:=by
 refine Subscript_ (ak h (λo G O=>ak O (λi q z=>?_) λ_ _ x=>x) λ_ _ x=>x)
 obtain⟨S,z⟩:=z;unfold subscriptTail;refine aD ?_;rw[getitemInPython_of_ne S.not_modules];refine aD (wpAny_specialOf S U ?_);have fin:aF (aI prog w) A (subscripted j yo o i) (λr I=>aF (aI prog w) A (letTemporaryGo value o r>>=λ_=>pure r) Q E I) E q:=by
  rw[hs o i];exact wpAny_operating (ak z (λr I J=>aD (wpAny_letTemporaryGo (wpAny_pure J))) λ_ _ x=>x)
 first
  |exact wpAny_pure (aD fin)
  |exact aD (wpAny_pure (aD fin))
  |exact aD fin
def Qas(I:Inv X pins σ H s)(g:DGet H a y o):s.TypeIs (.ref a) "dict":=by
 rcases g with⟨j,k,e,_,_⟩|⟨j,k,b,e,_,_,_⟩
 ·obtain⟨_,_,vs,_,dd⟩:=Qar I.hok e;exact dd.typeIs
 ·obtain⟨_,_,xs,_,dd⟩:=Qap I.hok e;exact dd.typeIs
def Qxp(td ty:TE):TE:=λσ H Q=>td σ H λx H1=>ty σ H1 λy H2=>∃a v,x=.ref a/\DGet H2 a y (zo v)/\Q v H2
def Qxz(td ty tv:TE):TS:=λD σ H=>tv σ H λv H1=>td σ H1 λx H2=>ty σ H2 λy H3=>∃a H4,x=.ref a/\DPut H3 a y v H4/\D.nx σ H4
section
variable{X:Cx}{o i e value:aH}{pos pos' tpos:Pos}{td ty tv:TE}
def Qqa(Y:X.A.units+9<aS)(Z:PE X o td)(hi:PE X i ty)(hs:Qwp i):PE X (.Subscript o i pos) (Qxp td ty):=by
 intro pins s σ H Q I h;refine Qnw PySem.F.slot_dict_getitem.lookup hs (thn (Z pins s σ H _ I h) λu s1 ⟨x,H1,G,J,U⟩=>thn (hi pins s1 σ H1 _ G U) λiv s2 ⟨y,H2,q,S,a,v,ex,g,O⟩=>?_)
 subst ex;obtain rfl:u=bc a:=J;exact⟨Qas q g,Qgu Y q g S λw' s3 z j=>⟨v,H2,z,j,O⟩⟩
def Qpx (O:X.A.units+9<aS) (U:PE X o td) (hi:PE X i ty) (Y:PE X value tv) (hs:swapsWith value (zo (.Subscript o i pos')) pos.line X.env=pure yo):
  PS X (.Assign [.Subscript o i pos'] value pos) (Qxz td ty tv):=by
 intro pins s σ H D I h;refine wpAny_Assign_Subscript (thn (Y pins s σ H _ I h) λr s1 ⟨v,H1,I1,S,q1⟩=>thn (U pins s1 σ H1 _ I1 q1) λu j ⟨x,H2,J,q,z⟩=>thn (hi pins j σ H2 _ J z) λiv s3 ⟨y,H3,Z,ry,a,H4,ex,g,q3⟩=>?_) hs
 subst ex;obtain rfl:u=bc a:=q;exact Qgt O Z g ry S λs4 G=>⟨σ,H4,G,q3⟩
end
def Qaq(h:Heap)(j:ag<h.objs.size):ObjOk P w H (h.push {cls:=.type "dict",data:=.dict #[]}) h.objs.size (.dT []):=
 ⟨G8 _,beq_eq_false_iff_ne.mpr (Ne.symm (F0 j)),[],.nil,_,#[],0,D4 _ rfl,⟨rfl,rfl,rfl⟩,rfl,rfl,dC⟩
def Qti:TE:=λ_ H Q=>∀p,H p=zl->Q (.ref p) (upd H p (.dT []))
section
variable{X:Cx}{pos:Pos}
def Qjk:PE X (.Dict [] [] pos) Qti:=λpins s σ H Q I h=>
 wpAny_Dict_empty ⟨.ref s.heap.objs.size,_,I.laid (a:=s.heap.objs.size) (o:=.dT []) (t':=s.toks) (λ_ _ q=>O4 _ q) (O6 _) (Qaq s.heap I.big),rfl,h _ (I.hok.fresh (O6 _))⟩
end
def Qbd:List (TE×TE)->St->Hp->(List (V×V)->Hp->Prop)->Prop
|[],_,H,Q=>Q [] H
|(tk,tv)::r,σ,H,Q=>tk σ H λx H1=>tv σ H1 λy H2=>Qbd r σ H2 λps H3=>Q ((x,y)::ps) H3
abbrev VV:List (V×V)->List (aA×aA)->Prop:=aR λp q=>RelV p.1 q.1/\RelV p.2 q.2
def PPs(X:Cx)(pos:Pos)(keys:List (Option aH))(values:List aH)(trs:List (TE×TE)):Prop:=
 ∀(pins:zAA)(s:aC)(σ:St)(H:Hp)(Q:List (V×V)->Hp->Prop),Inv X pins σ H s->Qbd trs σ H Q->
  aF (aI X.prog X.w) X.A (evalPairs (pairTrees keys values X.env pos)) (λvs s'=>∃ps H',Inv X pins σ H' s'/\VV ps vs/\Q ps H') X.xe s
def Qpz:PPs X pos [] [] []:=λpins s σ H Q I h=>pairTrees_nil_walk ⟨[],H,I,.nil,h⟩
def Qj9(hk:PE X k tk)(S:PE X v tv)(z:PPs X pos ks vs j):
  PPs X pos (zo k::ks) (v::vs) ((tk,tv)::j):=λpins s σ H Q I h=>
 pairTrees_cons_walk (thn (hk pins s σ H _ I h) λu s1 ⟨x,H1,U,Z,q1⟩=>thn (S pins s1 σ H1 _ U q1) λw2 O ⟨y,H2,Y,ry,q2⟩=>
  thn (z pins O σ H2 _ Y q2) λws s3 ⟨ps,J,G,q,q3⟩=>⟨(x,y)::ps,J,G,.cons ⟨Z,ry⟩ q,q3⟩)
structure M1(X:Cx)(o:aH)(m:Str)(apos:Pos)(e:aH)(cpos:Pos):Prop where
base:bB o m X.env (aM o X.env)=aM o X.env
few:((aY cpos (aN [e] X.env)).all (λx=>!x.1)&&(backToKw cpos (keywordEach [] X.env)).all (λx=>x.1.isSome)
 &&decide (([e]:List aH).length+([]:List Keyword).length+(if([]:List Keyword).isEmpty then 0 else 1)<30))=zb
line:(apos.endLine==cpos.line)=zb
trees:aY cpos (aN [e] X.env)=[(yo,aM e X.env)]
structure M2(X:Cx)(o:aH)(m:Str)(apos:Pos)(e f:aH)(cpos:Pos):Prop where
base:bB o m X.env (aM o X.env)=aM o X.env
few:((aY cpos (aN [e,f] X.env)).all (λx=>!x.1)&&(backToKw cpos (keywordEach [] X.env)).all (λx=>x.1.isSome)
 &&decide (([e,f]:List aH).length+([]:List Keyword).length+(if([]:List Keyword).isEmpty then 0 else 1)<30))=zb
line:(apos.endLine==cpos.line)=zb
trees:aY cpos (aN [e,f] X.env)=[(yo,aM e X.env),(yo,aM f X.env)]
end
def Q9w:typeLookup (.type "list") "keys"=pure zl:=am_miss_of_fast (by decide +kernel)
def Q5f{Q:Option aA->aC->Prop}(G:s.heap.get? a=zo {cls:=.type "list",dict:=zl,data:=.seq xs k,slots:=J})(O:A.handled=zl)(h:∀h' tk,(∀b o,s.heap.get? b=zo o->h'.get? b=zo o)->Q zl {s with heap:=h',toks:=tk}):
  aF (aI prog w) A (getAttr? (.ref a) "keys") Q E s:=by
 obtain⟨S,g,d,tk,os⟩:=s;have I:∀z,(⟨S,g,d,z,os⟩:aC).TypeIs (.ref a) "list":=λ_=>⟨_,G,rfl⟩
 have Y:=sub_AttributeError;have Z:=F.slot_list_getattribute.lookup;have f4:=F.slot_list_getattribute.bind (.ref a);have U:=am_list_getattr_none;have j:(["__module__","__name__","__qualname__","__doc__","__annotations__"]:List Str).contains "keys"=yo:=by decide +kernel
 unfold getAttr? getAttrBy? getAttrBy
 repeat (any_goals (first|assumption|exact I _|((with_reducible show aF _ _ (call (cg "list.__getattribute__") _ _) _ _ _);refine ay F.slot_list_getattribute (I _) am_entry_list_getattribute (F.args_list_getattribute_2 _ _) (meets_getattribute_miss_list a xs k J "keys" _ Q9w j) ⟨G,O,λh' z e q=>?_⟩)|wp_step))
 obtain⟨t',u',he⟩:=q.there;show aF _ _ (getattributeRaised _ _ _ _ _ _ _) _ _ _;unfold getattributeRaised
 repeat (any_goals (first|assumption|wp_step))
 exact h _ _ q.of.keeps
def qp:entryFor table "dict.update.loop"=zo Builtin.«dict.update.loop»:=entryFor_of_tree (by kernel_rfl)
def W8:plainId "dict.update.loop"=zb:=by decide +kernel
def J2f{K:Type}[DecidableEq K](knd:KeyKind prog w K)(h:Heap)(v:aA)(p:K×aA):Prop:=
 ∃a key,v=.ref a/\knd.is p.1 key=zb/\IsTup h a #[key,p.2]
variable{pins:zAA}{σ:St}{H:Hp}{a:aB}{tg:aH}
def Qnj(X:Cx)(a:aB):Prop:=∀o u,X.H₀ a≠zo (.frz o u)
end L2
namespace L2
open PySem PySem.Spec PyProof.Rows PySem.W
def evT{α:Type}(c:Nat->Nat->Bool):KasT α->α
|.ret a=>a
|.ask i j k=>evT c (k (c i j))
def Km{α β:Type}(c:Nat->Nat->Bool)(f:α->KasT β):∀t:KasT α,evT c (t.bind f)=evT c (f (evT c t))
|.ret _=>rfl
|.ask i j k=>Km c f (k (c i j))
section
variable(r:Nat->Nat)
def rk(p:Array Nat)(i:Nat):Nat:=r (p.getD i 0)
def cR:Nat->Nat->Bool:=λi j=>decide (r i<r j)
variable{r}
def Q99(h:p[i]?=q[j]?):rk r p i=rk r q j:=by
 unfold rk;rw[dS,dS,h]
def Qbq{p:Array Nat}(z:j<=p.size)k:rk r (kas_rev p i j) k=if i<=k/\k<j then rk r p (i+j-1-k)else rk r p k:=by
 have h:=getElem?_mirror_all (xs:=p) (i:=i) z k
 by_cases q:i<=k/\k<j
 ·rw[bU q]at h ⊢;exact Q99 h
 ·rw[bV q]at h ⊢;exact Q99 h
def Qii{p:Array Nat}(hs:src<p.size)(hd:d<=src)k:rk r (bubble p src d) k=if k=src-d then rk r p src else if src-d<k/\k<=src then rk r p (k-1)else rk r p k:=by
 have h:=getElem?_bubble hs d hd k
 by_cases q:k=src-d
 ·rw[bU q]at h ⊢;exact Q99 h
 ·rw[bV q]at h ⊢
  by_cases j:src-d<k/\k<=src
  ·rw[bU j]at h ⊢;exact Q99 h
  ·rw[bV j]at h ⊢;exact Q99 h
def xx{p:Array Nat}i j:(kas_rev p i j).size=p.size:=mirror_size _ _ _ _
def Wx{p:Array Nat}(i j:Nat):(kas_rev p i j).Perm p:=mirror_perm _ _ _ _
def Qd6 p:∀f n,1<=n->n<=evT (cR r) (kas_asc p f n)/\evT (cR r) (kas_asc p f n)<=n+f/\(∀i,n<=i->i<evT (cR r) (kas_asc p f n)->rk r p (i-1)<=rk r p i)/\(evT (cR r) (kas_asc p f n)<n+f->rk r p (evT (cR r) (kas_asc p f n))<rk r p (evT (cR r) (kas_asc p f n)-1))
|0,n,_=>⟨O6 _,O6 _,λi h1 h2=>absurd h2 (by show ¬i<n;omega),λh=>absurd h (by show ¬n<n+0;omega)⟩
|f+1,n,J=>by
  have e:evT (cR r) (kas_asc p (f+1) n)=if rk r p n<rk r p (n-1)then n else evT (cR r) (kas_asc p f (n+1)):=by
   show evT (cR r) (if decide (rk r p n<rk r p (n-1))=zb then KasT.ret n else kas_asc p f (n+1))=_
   by_cases q:rk r p n<rk r p (n-1)
   ·rw[bU (by simpa using q),bU q];rfl
   ·rw[bV (by simpa using q),bV q]
  rw[e]
  by_cases q:rk r p n<rk r p (n-1)
  ·rw[bU q];exact⟨O6 _,by omega,λi h1 h2=>by omega,λ_=>q⟩
  ·rw[bV q];obtain⟨h1,h2,G,j⟩:=Qd6 p f (n+1) ();refine⟨by omega,by omega,λi I g2=>?_,λg=>j ()⟩
   by_cases z:i=n
   ·subst z;omega
   ·exact G i () g2
def Q3e{p:Array Nat}(z:j<=p.size)(h:∀k,i<=k->k<j->rk r p k=rk r p (j-1))k:rk r (kas_rev p i j) k=rk r p k:=by
 rw[Qbq z]
 by_cases q:i<=k/\k<j
 ·rw[bU q,h (i+j-1-k) () (),h k q.1 q.2]
 ·rw[bV q]
structure Dsc(r:Nat->Nat)(p:Array Nat)(n q:Nat):Prop where
n1:1<=n
sz:n<=p.size
qn:q+1<=n
de:∀i,1<=i->i<n->rk r p i<=rk r p (i-1)
eq:∀i,n-(q+1)<=i->i<n->rk r p i=rk r p (n-1)
def Q2s:∀f(p:Array Nat)n q,Dsc r p n q->n+f<=p.size->Dsc r (evT (cR r) (kas_desc f p n q)).1 (evT (cR r) (kas_desc f p n q)).2.1 (evT (cR r) (kas_desc f p n q)).2.2/\(evT (cR r) (kas_desc f p n q)).1.Perm p/\n<=(evT (cR r) (kas_desc f p n q)).2.1/\(evT (cR r) (kas_desc f p n q)).2.1<=n+f
|0,p,n,q,h,_=>⟨h,dl _,O6 _,O6 _⟩
|f+1,p,n,q,h,hs=>by
  have e:evT (cR r) (kas_desc (f+1) p n q)=if rk r p n<rk r p (n-1)then(if q>0 then evT (cR r) (kas_desc f (kas_rev p (n-(q+1)) n) (n+1) 0)else evT (cR r) (kas_desc f p (n+1) 0))else if rk r p (n-1)<rk r p n then(p,n,q)else evT (cR r) (kas_desc f p (n+1) (q+1)):=by
   show evT (cR r) (if decide (rk r p n<rk r p (n-1))=zb then(if q>0 then kas_desc f (kas_rev p (n-(q+1)) n) (n+1) 0 else kas_desc f p (n+1) 0)else KasT.ask (p.getD (n-1) 0) (p.getD n 0) λd=>if d=zb then .ret (p,n,q)else kas_desc f p (n+1) (q+1))=_
   by_cases z:rk r p n<rk r p (n-1)
   ·rw[bU (by simpa using z),bU z]
    split<;>rfl
   ·rw[bV (by simpa using z),bV z];show evT (cR r) (if decide (rk r p (n-1)<rk r p n)=zb then KasT.ret (p,n,q)else kas_desc f p (n+1) (q+1))=_
    by_cases I:rk r p (n-1)<rk r p n
    ·rw[bU (by simpa using I),bU I];rfl
    ·rw[bV (by simpa using I),bV I]
  rw[e]
  by_cases z:rk r p n<rk r p (n-1)
  ·rw[bU z]
   by_cases U:q>0
   ·rw[bU U];have O:=Q3e (r:=r) (p:=p) (i:=n-(q+1)) (j:=n) h.sz h.eq;obtain⟨h1,h2,S,J⟩:=Q2s f (kas_rev p (n-(q+1)) n) (n+1) 0 ⟨by omega,by rw[xx];omega,by omega,λi G g2=>by
     rw[O,O]
     by_cases y:i=n
     ·subst y;omega
     ·exact h.de i G (),λi G g2=>by
     have:i=n:=by omega
     subst this;rfl⟩ (by rw[xx];omega)
    exact⟨h1,h2.trans (Wx _ _),by omega,by omega⟩
   ·rw[bV U];obtain⟨h1,h2,S,J⟩:=Q2s f p (n+1) 0 ⟨by omega,by omega,by omega,λi G g2=>by
     by_cases y:i=n
     ·subst y;omega
     ·exact h.de i G (),λi G g2=>by
     have:i=n:=by omega
     subst this;rfl⟩ ()
    exact⟨h1,h2,by omega,by omega⟩
  ·rw[bV z]
   by_cases I:rk r p (n-1)<rk r p n
   ·rw[bU I];exact⟨h,dl _,O6 _,by show n<=n+(f+1);omega⟩
   ·rw[bV I];have Z:=h.n1;have Y:=h.qn;obtain⟨h1,h2,S,J⟩:=Q2s f p (n+1) (q+1) ⟨by omega,by omega,by omega,λi G g2=>by
     by_cases y:i=n
     ·subst y;omega
     ·exact h.de i G (),λi G g2=>by
     show rk r p i=rk r p n
     by_cases y:i=n
     ·rw[y]
     ·rw[h.eq i () ()];omega⟩ ()
    exact⟨h1,h2,by omega,by omega⟩
def Srt(r:Nat->Nat)(p:Array Nat)(m:Nat):Prop:=∀i,1<=i->i<m->rk r p (i-1)<=rk r p i
def Qde{p:Array Nat}(G:1<=n)(j:n<=nrem)(hs:nrem<=p.size)(hd:∀i,1<=i->i<n->rk r p i<=rk r p (i-1)):
  1<=(evT (cR r) (kas_tail3 n nrem p)).1/\(evT (cR r) (kas_tail3 n nrem p)).1<=nrem/\Srt r (evT (cR r) (kas_tail3 n nrem p)).2 (evT (cR r) (kas_tail3 n nrem p)).1/\(evT (cR r) (kas_tail3 n nrem p)).2.Perm p:=by
 obtain⟨h1,h2,q,_⟩:=Qd6 (r:=r) (kas_rev p 0 n) (nrem-n) n G;unfold kas_tail3;rw[Km];show 1<=evT (cR r) (kas_asc (kas_rev p 0 n) (nrem-n) n)/\_/\Srt r (kas_rev p 0 n) _/\(kas_rev p 0 n).Perm p;refine⟨by omega,by show evT (cR r) (kas_asc (kas_rev p 0 n) (nrem-n) n)<=nrem;omega,λi I g2=>?_,Wx _ _⟩
 by_cases z:i<n
 ·rw[Qbq (),Qbq (),bU (),bU ()];have:=hd (0+n-1-(i-1)) () ();rw[show 0+n-1-(i-1)-1=0+n-1-i by omega]at this;exact this
 ·exact q i () g2
def Q20{p:Array Nat}(Z:1<=n)(S:n<nrem)(hs:nrem<=p.size)(G:∀i,i<n->rk r p i=rk r p (n-1))(O:rk r p n<rk r p (n-1)):
  1<=(evT (cR r) (kas_descPart n nrem p)).1/\(evT (cR r) (kas_descPart n nrem p)).1<=nrem/\Srt r (evT (cR r) (kas_descPart n nrem p)).2 (evT (cR r) (kas_descPart n nrem p)).1/\(evT (cR r) (kas_descPart n nrem p)).2.Perm p:=by
 obtain⟨D,P,Y,U⟩:=Q2s (r:=r) (nrem-(n+1)) p (n+1) 0 ⟨by omega,by omega,by omega,λi I g2=>by
  by_cases y:i=n
  ·subst y;omega
  ·rw[G i (),G (i-1) ()];exact O6 _,λi I g2=>by
  have:i=n:=by omega
  subst this;rfl⟩ ()
 unfold kas_descPart;rw[Km];generalize evT (cR r) (kas_desc (nrem-(n+1)) p (n+1) 0)=x at*;obtain⟨p1,m,q⟩:=x;have sz:p1.size=p.size:=P.size_eq;simp only at D P Y U;dsimp only
 by_cases z:q>0
 ·rw[bU z];have J:=Q3e (r:=r) (p:=p1) (i:=m-(q+1)) (j:=m) D.sz D.eq;obtain⟨a,b,c,d⟩:=Qde (r:=r) (p:=kas_rev p1 (m-(q+1)) m) (n:=m) (nrem:=nrem) D.n1 () (by rw[xx];omega) (λi I g2=>by rw[J,J];exact D.de i I g2);exact⟨a,b,c,(d.trans (Wx _ _)).trans P⟩
 ·rw[bV z];obtain⟨a,b,c,d⟩:=Qde (r:=r) (p:=p1) (n:=m) (nrem:=nrem) D.n1 () () D.de;exact⟨a,b,c,d.trans P⟩
def Srt.le(h:Srt r p m):∀{i j:Nat},i<=j->j<m->rk r p i<=rk r p j:=by
 intro i j G
 induction j with
 | zero => intro _; have : i = 0 := by omega
           subst this;exact O6 _
 |succ j q=>
  intro I
  by_cases z:i=j+1
  ·subst z;exact O6 _
  ·have h1:=q () ();have h2:=h (j+1) () I;rw[fx]at h2;exact E8 h1 h2
def Qmw{p:Array Nat}(hn:1<=n)(hs:n<=p.size):
  1<=(evT (cR r) (kas_count n p)).1/\(evT (cR r) (kas_count n p)).1<=n/\Srt r (evT (cR r) (kas_count n p)).2 (evT (cR r) (kas_count n p)).1/\(evT (cR r) (kas_count n p)).2.Perm p:=by
 obtain⟨h1,h2,Y,U⟩:=Qd6 (r:=r) p (n-1) 1 (O6 _);unfold kas_count;rw[Km];generalize evT (cR r) (kas_asc p (n-1) 1)=m at*;have S:Srt r p m:=λi O g2=>Y i O g2
 by_cases z:m=n
 ·subst z;rw[bU (by simp)];exact⟨h1,O6 _,S,dl _⟩
 ·rw[bV (by simpa using z)];have q:=U ()
  by_cases J:m>1
  ·rw[bU J];show 1<=(evT (cR r) (if decide (rk r p 0<rk r p (m-1))=zb then KasT.ret (m,p)else kas_descPart m n (kas_rev p 0 m))).1/\(evT (cR r) (if decide (rk r p 0<rk r p (m-1))=zb then KasT.ret (m,p)else kas_descPart m n (kas_rev p 0 m))).1<=n/\Srt r (evT (cR r) (if decide (rk r p 0<rk r p (m-1))=zb then KasT.ret (m,p)else kas_descPart m n (kas_rev p 0 m))).2 (evT (cR r) (if decide (rk r p 0<rk r p (m-1))=zb then KasT.ret (m,p)else kas_descPart m n (kas_rev p 0 m))).1/\(evT (cR r) (if decide (rk r p 0<rk r p (m-1))=zb then KasT.ret (m,p)else kas_descPart m n (kas_rev p 0 m))).2.Perm p
   by_cases I:rk r p 0<rk r p (m-1)
   ·rw[bU (by simpa using I)];exact⟨h1,by show m<=n;omega,S,dl _⟩
   ·rw[bV (by simpa using I)];have eq:∀i,i<m->rk r p i=rk r p (m-1):=λi hi=>by
     have a:=S.le (i:=0) (j:=i) () hi;have b:=S.le (i:=i) (j:=m-1) () ();omega
    have G:=Q3e (r:=r) (p:=p) (i:=0) (j:=m) () (λk _ Z=>eq k Z);obtain⟨a,b,c,d⟩:=Q20 (r:=r) (p:=kas_rev p 0 m) (n:=m) (nrem:=n) h1 () (by rw[xx];exact hs) (λi hi=>by rw[G,G];exact eq i hi) (by rw[G,G];exact q);exact⟨a,b,c,d.trans (Wx _ _)⟩
  ·rw[bV J];have:m=1:=by omega
   subst this;exact Q20 (r:=r) (O6 _) () hs (λi hi=>by rw[show i=0 by omega]) q
def Q3j(S:Srt r p k):∀f l q,l<=q->q<=k->q-l<=f->(∀i,i<l->rk r p i<=rk r p k)->(∀i,q<=i->i<k->rk r p k<rk r p i)->
  evT (cR r) (kas_place p k f l q)<=k/\(∀i,i<evT (cR r) (kas_place p k f l q)->rk r p i<=rk r p k)/\(∀i,evT (cR r) (kas_place p k f l q)<=i->i<k->rk r p k<rk r p i)
|0,l,q,h1,h2,O,j,G=>by
  have:l=q:=by omega
  subst this;exact⟨h2,j,G⟩
|f+1,l,q,h1,h2,O,j,G=>by
  by_cases z:l>=q
  ·have:l=q:=by omega
   subst this;have e:evT (cR r) (kas_place p k (f+1) l l)=l:=by rw[kas_place,bU (O6 _)];rfl
   rw[e];exact⟨h2,j,G⟩
  ·have e:evT (cR r) (kas_place p k (f+1) l q)=if rk r p k<rk r p ((l+q)/2)then evT (cR r) (kas_place p k f l ((l+q)/2))else evT (cR r) (kas_place p k f ((l+q)/2+1) q):=by
    rw[kas_place,bV z];show evT (cR r) (if decide (rk r p k<rk r p ((l+q)/2))=zb then kas_place p k f l ((l+q)/2)else kas_place p k f ((l+q)/2+1) q)=_
    by_cases y:rk r p k<rk r p ((l+q)/2)
    ·rw[bU (by simpa using y),bU y]
    ·rw[bV (by simpa using y),bV y]
   rw[e];have m1:l<=(l+q)/2:=by omega
   have m2:(l+q)/2<q:=by omega
   generalize (l+q)/2=I at*
   by_cases y:rk r p k<rk r p I
   ·rw[bU y];exact Q3j S f l I m1 () () j λi J g2=>D5 y (S.le J g2)
   ·rw[bV y];exact Q3j S f (I+1) q () h2 () (λi g=>E8 (S.le (show i<=I by omega) ()) ()) G
def Qna:∀f(p:Array Nat)k,1<=k->k+f<=p.size->Srt r p k->Srt r (evT (cR r) (kas_bin f p k)) (k+f)/\(evT (cR r) (kas_bin f p k)).Perm p
|0,p,k,_,_,S=>⟨S,dl _⟩
|f+1,p,k,G,hs,S=>by
  obtain⟨h1,h2,z⟩:=Q3j S k 0 k (G8 _) (O6 _) () (λi g=>by omega) (λi j g2=>by omega);have e:evT (cR r) (kas_bin (f+1) p k)=evT (cR r) (kas_bin f (bubble p k (k-evT (cR r) (kas_place p k k 0 k))) (k+1)):=by rw[kas_bin,Km]
  rw[e];generalize evT (cR r) (kas_place p k k 0 k)=l at*;have q:Srt r (bubble p k (k-l)) (k+1):=λi j g2=>by
   rw[Qii () (),Qii () (),show k-(k-l)=l by omega]
   by_cases a:i=l
   ·subst a;rw[bV (),bV (),bU rfl];exact h2 (i-1) ()
   ·by_cases b:i-1=l
    ·rw[bU b,bV a,bU (),b];exact dH (z l (O6 _) ())
    ·rw[bV b,bV a]
     by_cases c:l<i
     ·rw[bU (),bU ()];exact S (i-1) () ()
     ·rw[bV (),bV ()];exact S i j ()
  obtain⟨a,b⟩:=Qna f (bubble p k (k-l)) (k+1) () (by rw[bubble_size];omega) q;exact⟨by rw[show k+(f+1)=k+1+f by omega];exact a,b.trans (bubble_perm _ _ _)⟩
def Qp3(G:1<=n):Srt r (evT (cR r) (kas_sort n)) n/\(evT (cR r) (kas_sort n)).Perm (cJ (ba n)):=by
 obtain⟨h1,h2,q,j⟩:=Qmw (r:=r) (p:=cJ (ba n)) (n:=n) G (by simp);unfold kas_sort;rw[Km];generalize evT (cR r) (kas_count n (cJ (ba n)))=x at*;obtain⟨m,p⟩:=x;have sz:p.size=n:=by have:=j.size_eq;simpa using this
 simp only at h1 h2 q j;dsimp only
 by_cases z:m<n
 ·rw[bU z,show max m 1=m by omega];obtain⟨a,b⟩:=Qna (r:=r) (n-m) p m h1 () q;rw[show m+(n-m)=n by omega]at a;exact⟨a,b.trans j⟩
 ·rw[bV z];have:m=n:=by omega
  subst this;exact⟨q,j⟩
end
def Asks{α:Type}(n:Nat):KasT α->(α->Prop)->Prop
|.ret a,P=>P a
|.ask i j k,P=>i<n/\j<n/\∀b,Asks n (k b) P
def Asks.bind{α β:Type}{n:Nat}{P:α->Prop}{Q:β->Prop}{f:α->KasT β}(q:∀a,P a->Asks n (f a) Q):∀{t:KasT α},Asks n t P->Asks n (t.bind f) Q
|.ret a,h=>q a h
|.ask i j k,h=>⟨h.1,h.2.1,λb=>Asks.bind q (h.2.2 b)⟩
def AL(n:Nat)(p:Array Nat):Prop:=0<n/\∀x∈p.toList,x<n
def AL.get{n:Nat}{p:Array Nat}(h:AL n p)(i:Nat):p.getD i 0<n:=by
 rw[dS]
 by_cases z:i<p.size
 ·rw[bp z];exact h.2 _ (by simp)
 ·rw[ce ()];exact h.1
def AL.perm{n:Nat}{p q:Array Nat}(h:AL n p)(e:q.Perm p):AL n q:=⟨h.1,λx j=>h.2 x ((iS.mp e).mem_iff.mp j)⟩
def Vb{α:Type}{n:Nat}{P:α->Prop}{c:Prop}[Decidable c]{t u:KasT α}(h1:Asks n t P)(h2:Asks n u P):Asks n (if c then t else u) P:=by
 split
 ·exact h1
 ·exact h2
def Q52{n:Nat}{p:Array Nat}(h:AL n p):∀f m,Asks n (kas_asc p f m) (λ_=>True)
|0,m=>trivial
|f+1,m=>⟨h.get _,h.get _,λb=>Vb trivial (Q52 h f (m+1))⟩
def zy{n:Nat}:∀f(p:Array Nat)m q,AL n p->Asks n (kas_desc f p m q) (λx=>AL n x.1)
|0,p,m,q,h=>h
|f+1,p,m,q,h=>⟨h.get _,h.get _,λb=>Vb (Vb (zy f _ _ _ (h.perm (Wx _ _))) (zy f _ _ _ h)) ⟨h.get _,h.get _,λd=>Vb h (zy f _ _ _ h)⟩⟩
def Q6u{n:Nat}{p:Array Nat}(h:AL n p)(m k:Nat):Asks n (kas_tail3 m k p) (λx=>AL n x.2):=by
 unfold kas_tail3;refine Asks.bind (P:=λ_=>True) (λa _=>?_) (Q52 (h.perm (Wx _ _)) _ _);exact h.perm (Wx _ _)
def ym{n:Nat}{p:Array Nat}(h:AL n p)(m k:Nat):Asks n (kas_descPart m k p) (λx=>AL n x.2):=
 Asks.bind (λx j=>Vb (Q6u (AL.perm j (Wx _ _)) _ _) (Q6u j _ _)) (zy _ _ _ _ h)
def Qd5{n:Nat}{p:Array Nat}(h:AL n p)(k:Nat):Asks n (kas_count k p) (λx=>AL n x.2):=by
 unfold kas_count;refine Asks.bind (P:=λ_=>True) (λm _=>?_) (Q52 h _ _);refine Vb (show AL n p from h) (Vb ?_ (ym h _ _));exact⟨h.get _,h.get _,λc=>Vb (show AL n p from h) (ym (h.perm (Wx _ _)) _ _)⟩
def xk{n:Nat}{p:Array Nat}(h:AL n p)(k:Nat):∀f l q,Asks n (kas_place p k f l q) (λ_=>True)
|0,_,_=>trivial
|f+1,l,q=>by
  rw[kas_place];exact Vb trivial ⟨h.get _,h.get _,λc=>Vb (xk h k f _ _) (xk h k f _ _)⟩
def Qb4{n:Nat}:∀f(p:Array Nat)k,AL n p->Asks n (kas_bin f p k) (λ_=>True)
|0,_,_,_=>trivial
|f+1,p,k,h=>by
  rw[kas_bin];exact Asks.bind (λl _=>Qb4 f _ _ (h.perm (bubble_perm _ _ _))) (xk h k _ _ _)
def Qh8{n:Nat}(q:1<=n):Asks n (kas_sort n) (λ_=>True):=by
 have h:AL n (cJ (ba n)):=⟨q,λx j=>by simpa using j⟩;unfold kas_sort;refine Asks.bind (P:=λx=>AL n x.2) (λx j=>?_) (Qd5 h n);exact Vb (Qb4 _ _ _ j) (show True from trivial)
def Qaf{α:Type}{z:Nat->Nat->(Bool->aC->Prop)->aC->Prop}{c:Nat->Nat->Bool}(h:∀i j(C:Bool->aC->Prop),i<n->j<n->C (c i j) s->z i j C s):
  ∀(t:KasT α)(P:α->Prop)(Q:α->aC->Prop),Asks n t P->Q (evT c t) s->t.kasWp z Q s
|.ret a,_,_,_,q=>q
|.ask i j k,P,Q,a,q=>h i j _ a.1 a.2.1 (Qaf h (k (c i j)) P Q (a.2.2 _) q)
variable{prog:aK}{A:aO}{E:zAD}{s:aC}
section
variable{w:aJ}
def yh{α:Type}{p q:α->Bool}:∀{l:List α},(∀x∈l,p x=zb->q x=zb)->(∃x∈l,p x=yo/\q x=zb)->(l.filter p).length<(l.filter q).length
|[],_,h=>by obtain⟨_,h,_⟩:=h;cases h
|x::l,h,I=>by
  have J:(l.filter p).length<=(l.filter q).length:=by
   clear I
   induction l with
   |nil=>exact O6 _
   |cons y l j=>
    have j:=j λz hz=>h z (by rcases D7.mp hz with rfl|hz<;>simp[*])
    have G:=h y (by simp);rw[dU,dU]
    by_cases a:p y=zb
    ·rw[bU a,bU (G a)];simp;exact j
    ·rw[bV a]
     split
     ·simp;omega
     ·exact j
  rw[dU,dU];obtain⟨y,G,h1,h2⟩:=I;rcases D7.mp G with rfl|G
  ·rw[h1,h2];simp;omega
  ·have j:=yh (λz hz=>h z (O3 _ hz)) ⟨y,G,h1,h2⟩
   by_cases a:p x=zb
   ·rw[bU a,bU (h x (by simp) a)];simp;exact j
   ·rw[bV a]
    split
    ·simp;omega
    ·exact j
end
end L2
namespace L2
open PySem PySem.Spec PyProof.Rows
def RawD(h:Heap)(a:aB)(es:Array DictEntry)(ep:Nat):Prop:=∃o,h.get? a=zo o/\o.ExactDict/\o.data=.dict es ep
variable{prog:aK}{A:aO}{E:zAD}{s:aC}
section
variable{w:aJ}
def RawD.typeIs(h:RawD s.heap a es ep):s.TypeIs (.ref a) "dict":=let ⟨o,e,x,_⟩:=h;⟨o,e,x.1⟩
def RawD.obj{h:Heap}(x:RawD h a es ep):h.get? a=zo {cls:=.type "dict",dict:=zl,data:=.dict es ep,slots:=#[]}:=by
 obtain⟨⟨c,j,q,z⟩,ho,⟨h1,h2,h3⟩,h4⟩:=x;simp only at h1 h2 h3 h4;subst h1 h2 h3 h4;exact ho
def Q9f{es:Array DictEntry}{Q:zAD}(hd:(d==ag)=yo)(hm:RawD s.heap d es ep)(q:Q (.ref s.heap.objs.size) {s with heap:=s.heap.push {cls:=.type "dict_keyiterator",data:=.fields #[.ref d,.int 0 0,.int es.size 0,.int ep 0]}}):
  aF (aI prog w) A (pyIter (.ref d)) Q E s:=by
 have j:=hm.typeIs;have G:=hm.obj;obtain⟨I,g,z,tk,os⟩:=s;refine wpAny_pyIter_slot j iT (af iT j PySem.F.entry_dict_iter ?_ (PySem.F.args_dict_iter_1 _));unfold Builtin.«dict.__iter__» Builtin.Dict.dictSlotNone
 repeat (any_goals (first|assumption|wp_step))
 refine⟨_,rfl,"dict_keyiterator",_,⟨_,D4 _ rfl,rfl⟩,PySem.F.slot_dict_keyiterator_next.lookup,q⟩
def Q4h:Builtin.Dict_items.ownsTuple ((Manifest.find? "dict_keyiterator").elim "dict_keyiterator" λx=>x.tpName)=yo:=by decide +kernel
def Q9g{es:Array DictEntry}{e:DictEntry}{Q:Option aA->aC->Prop}(j:s.heap.IsKeyIter it d i es.size ep)(hm:RawD s.heap d es ep)(z:es[i]?=zo e)(G:∀h',h'.IsKeyIter it d (i+1) es.size ep->Heap.SameBut it s.heap h'->Q (zo e.key) {s with heap:=h'}):
  aF (aI prog w) A (ao (.ref it)) Q E s:=by
 have q:=j.typeIs;have U:=hm.obj;obtain⟨⟨c,I,J,S⟩,hoi,hci,hdi⟩:=j;simp only at hci hdi;subst hci hdi;obtain⟨Y,g,O,tk,os⟩:=s;unfold ao;refine aD (wpAny_attempt (wpAny_callSpecial?_slot (name:=cY "__next__") q eQ (af eQ q iU ?_ (iV _))))
 repeat (any_goals (first|assumption|wp_step))
 simp only[Q4h,F5,if_false];simp only[show ¬((i:Int)<0) by omega,if_false,bw,z]
 repeat (any_goals (first|assumption|wp_step))
 simp only[Q4h,F5,if_false];rw[bV (show ¬((_:Bool)=zb) by decide +kernel)];refine⟨_,rfl,wpAny_pure (G _ ⟨_,G7 _ hoi rfl,rfl,?_⟩ (Heap.SameBut.update ..))⟩;simp[cI,aU]
def Qdr{es:Array DictEntry}{Q:Option aA->aC->Prop}(S:A.handled=zl)(j:s.heap.IsKeyIter it d i es.size ep)(hm:RawD s.heap d es ep)(G:es[i]?=zl)(I:∀h',Heap.ExtBut it s.heap h'->Q zl {s with heap:=h'}):
  aF (aI prog w) A (ao (.ref it)) Q E s:=by
 have z:=j.typeIs;have Z:=hm.obj;obtain⟨⟨c,J,O,Y⟩,hoi,hci,hdi⟩:=j;simp only at hci hdi;subst hci hdi;obtain⟨hp,g,U,tk,os⟩:=s;unfold ao;refine aD (wpAny_attempt (wpAny_callSpecial?_slot (name:=cY "__next__") z eQ (af eQ z iU ?_ (iV _))))
 repeat (any_goals (first|assumption|wp_step))
 simp only[Q4h,F5,if_false];simp only[show ¬((i:Int)<0) by omega,if_false,bw,G];have q:=isSubtype_stop
 repeat (any_goals (first|assumption|wp_step))
 unfold bS;refine aD (wpAny_handled ?_);rw[show A.in1.handled=zl from S];refine aD (wpAny_pure (wpAny_throw ?_));refine aD (bK (T:="StopIteration") (b:=zb) ⟨_,D4 _ rfl,rfl⟩ isSubtype_stop ?_);exact wpAny_pure (I _ (((Heap.SameBut.update ..).extBut.push _).push _))
def RawD.at{h h':Heap}(x:RawD h a es ep)(k:∀o,h.get? a=zo o->h'.get? a=zo o):RawD h' a es ep:=let ⟨o,e,r⟩:=x;⟨o,k o e,r⟩
def RawD.lt{h:Heap}(x:RawD h a es ep):a<h.objs.size:=let ⟨_,e,_⟩:=x;D0 e
def Qf3(U:A.handled=zl)I d(J:d≠I)(es:Array DictEntry)ep:
  Walks prog w A I [I,d] [I] es.size (λi v=>∃e,es[i]?=zo e/\v=e.key) (λi h=>h.IsKeyIter I d i es.size ep/\RawD h d es ep) where
 sub:=λb j=>by simp at j;simp[j]
 frame:=λ_ _ _ st S=>⟨st.1.at λo e=>S I (by simp) o e,st.2.at λo e=>S d (by simp) o e⟩
 item:=λi s Q E hi st G=>by
  refine Q9g st.1 st.2 (bp hi) λh' q z=>?_
  exact G _ h' s.toks ⟨_,bp hi,rfl⟩ ⟨q,st.2.at λo e=>(z.2 d J).trans e⟩ λb o j e=>z.extBut b o (λh=>j (by simp[h])) e
 done:=λs Q E st G=>Qdr U st.1 st.2 (by simp) λh' O=>G h' s.toks λb o j e=>O b o (λh=>j (by simp[h])) e
 self:=λ_ _ _ _ st G=>wpAny_pyIter_keyiter st.1 G
def Qdk{es:Array DictEntry}(lo:(d==ag)=yo):PySem.W.KdlSrc prog w "dict" d d es.size (λi v=>∃e,es[i]?=zo e/\v=e.key) (λh=>RawD h d es ep) where
 type:=λ_ hm=>hm.typeIs
 there:=λ_ hm=>⟨hm.lt,hm.lt⟩
 keep:=λ_ _ hm q=>hm.at λo e=>q d (.inl rfl) o e
 notList:=by decide
 notTuple:=by decide
 hint:=λ_ _ _ _ hm j=>PySem.W.kdl_hint_dict hm.typeIs j
 iter:=λ_ _ z hm=>⟨_,_,(λ_ _ j=>Q9f lo hm j),Qf3 z _ d (F0 hm.lt) es ep,⟨⟨_,D4 _ rfl,rfl,rfl⟩,hm.at λo e=>O4 _ e⟩⟩
def Qay{es:Array DictEntry}{Q:List aA->aC->Prop}(lo:(d==ag)=yo)(U:A.handled=zl)(hm:RawD s.heap d es ep)(S:es.size<=sizeLine)(h:∀h' tk,(∀b o,s.heap.get? b=zo o->h'.get? b=zo o)->s.heap.objs.size<=h'.objs.size->Q (es.toList.map (·.key)) {s with heap:=h',toks:=tk}):aF (aI prog w) A (collect (.ref d)) Q E s:=by
 unfold collect;refine aD (wpAny_runValue (bA iW ?_));rw[Around.under_plainId iX _];show aF _ A.in1 (newList []>>=λl=>again (.builtin "list.__iadd__" ⟨[l,.ref d],[]⟩)) _ _ s
 refine aD (au ?_);refine wpAny_pure ⟨bH eR _,bA iY ?_⟩;rw[Around.under_plainId eR _];have O:(s.heap.push {cls:=.type "list",data:=.seq ([]:List aA).toArray}).get? s.heap.objs.size=zo {cls:=.type "list",data:=.seq ([]:List aA).toArray}:=D4 _ rfl;have J:∀b o,s.heap.get? b=zo o->(s.heap.push {cls:=.type "list",data:=.seq ([]:List aA).toArray}).get? b=zo o:=λb o e=>O4 _ e
 have G:s.heap.objs.size≠d:=cC hm.lt;show aF _ A.in1 (Builtin.List.listExtendWith (.ref s.heap.objs.size) (.ref d) (.ref s.heap.objs.size)) _ _ _;refine PySem.W.kdl_extend (prog:=prog) (w:=w) (A:=A) (R:=λr s'=>match r with|.ok (.ret v)=>aF (aI prog w) A (match v with|.ref a=>do {let o<-load a;match o.data with|.seq xs _=>pure xs.toList|_=>unsupported "internal:collect"}|_=>unsupported "internal:collect") Q E s' |.ok _=>False|.error e=>E e s') (s:={s with heap:=s.heap.push {cls:=.type "list",data:=.seq ([]:List aA).toArray}}) (Qdk (es:=es) (ep:=ep) lo) U (hm.at λo e=>J d o e) s.heap.objs.size G G _ _ O (λh' tk acc c Y I j=>?_) S
 show aF _ A (load s.heap.objs.size>>=_) _ _ _;refine aD (wpAny_load I ?_);have e:acc.toList=es.toList.map (·.key):=by
  apply cf;intro i
  by_cases z:i<es.size
  ·have hi:i<acc.size:=by rw[j.1];exact z
   obtain⟨e,h1,h2⟩:=j.2 i acc[i] (bp hi);rw[bn,bp hi,h2,D8,bn,h1];rfl
  ·rw[bn,ce (by rw[j.1];omega),D8,bn,ce ()];rfl
 show aF _ _ (pure acc.toList) _ _ _;rw[e];exact wpAny_pure (h h' tk (λb o q=>Y b o (F0 (D0 q)) (J b o q)) (dH (D0 I)))
end
end L2
namespace L2
open PySem PySem.Spec PyProof.Rows PySem.W
variable{prog:aK}{A:aO}{E:zAD}{s:aC}
section
variable{w:aJ}
def Q8k{es:Array DictEntry}{Q:zAD}(lo:(d==ag)=yo)(hm:RawD s.heap d es ep)(j:es.size<1000000)(h:∀t tk,Q (.int es.size t) {s with toks:=tk}):aF (aI prog w) A (call (.builtin "len") [.ref d]) Q E s:=by
 have z:=hm.typeIs;have S:=hm.obj;have G:((es.size:Int)<2^63):=by omega
 obtain⟨U,g,I,tk,os⟩:=s;refine Calls.call_function_entry kind_len plain_len entry_len (args_len1 _) ?_;unfold Builtin.«len»;have J:=PySem.F.slot_dict_len.lookup;have Y:=PySem.F.slot_dict_len.bind (.ref d)
 repeat (any_goals (first|assumption|((with_reducible show aF _ _ (call (cg "dict.__len__") _ _) _ _ _);refine af PySem.F.slot_dict_len z PySem.F.entry_dict_len ?_ (PySem.F.args_dict_len_1 _))|wp_step))
 refine⟨_,rfl,?_⟩;have q:((es.size:Int)+((0:Nat):Int))=(es.size:Int):=by omega
 rw[q];have n1:¬((es.size:Int)>=2^63):=by omega
 have O:¬((es.size:Int)<0):=by omega
 repeat (any_goals (first|assumption|wp_step))
 rw[bV n1]
 repeat (any_goals (first|assumption|wp_step))
 exact⟨_,rfl,h _ _⟩
end
def Qcs{H:Hp}{j:List (HK×V)}(ok:HOk P w H h)(e:H a=zo (.dT j)):j.length<=sizeLine/\(a==ag)=yo/\∃es ep I,RawD h a es ep/\es.toList.map (·.key)=I.map bc/\aR (λ(p:HK×V) (b:aB)=>KR H p.1 b) j I:=by
 obtain⟨z,hs,xs,G,o,es,ep,Y,S,hd,J,Z⟩:=ok a _ e;refine⟨z,hs,es,ep,xs.map (λq=>q.2.1),⟨o,Y,S,hd⟩,?_,?_⟩
 ·rw[J,L4,L4];exact M9 λq _=>rfl
 ·clear J Z z e
  induction G with
  |nil=>exact .nil
  |cons O _ U=>exact .cons O.2.1 U
variable{X:Cx}
def Qcy:W6 X (.builtin "len") (λxs H Q=>∃a,∃j:List (HK×V),xs=[.ref a]/\H a=zo (.dT j)/\j.length<1000000/\Q (.int j.length) H):=by
 intro pins s σ H xs us Q I r h;obtain⟨a,j,rfl,Y,hl,q⟩:=h;obtain⟨u,rfl,S⟩:=Uy r;cases S;obtain⟨z,hs,es,ep,O,J,Z,G⟩:=Qcs I.hok Y;have l1:j.length=O.length:=Paired.length G;have U:es.size=j.length:=by
  have:=congrArg dL Z;simp at this;omega
 refine Q8k hs J () λt tk=>?_
 exact⟨.int j.length,H,I.tok _,⟨t,by rw[U]⟩,q⟩
end L2
namespace L2
open PySem PySem.Spec PyProof.Rows
def Qth(tk tv:TE):TE:=λσ H Q=>∀p,H p=zl->Qbd [(tk,tv)] σ (upd H p (.dT [])) λps H2=>∃(ks:HK)(b:aB)(y:V),ps=[(.ref b,y)]/\KR H2 ks b/\H2 p=zo (.dT [])/\Q (.ref p) (upd H2 p (.dT [(ks,y)]))
def Qfu{X:Cx}(hu:X.A.units+5<aS)(hk:PE X k tk)(hv:PE X v tv):PE X (.Dict [zo k] [v] pos) (Qth tk tv):=by
 intro pins s σ H Q I q;have hn:=I.hok.fresh (O6 s.heap.objs.size);have I1:=I.laid (a:=s.heap.objs.size) (o:=.dT []) (h':=s.heap.push {cls:=.type "dict",data:=.dict #[]}) (t':=s.toks) (λ_ _ q=>O4 _ q) (O6 _) (Qaq s.heap I.big);rw[arm_eval_Dict,zip_pairTrees [zo k] [v] X.env pos rfl rfl,dictDisplay_pairs _ (by simp[pairTrees]) (by simp[pairTrees])];refine aD (wpAny_standAt (aD ?_));unfold subDict;refine aD (wpAny_alloc (aD (ae ?_)));rw[bU (by simp[pairTrees])];refine aD (thn ((Qj9 hk hv Qpz) pins _ σ _ _ I1 (q _ hn)) λws s2 ⟨ps,H2,G,j,ks,b,y,ep,O,e,Y⟩=>?_)
 subst ep;obtain⟨⟨u,r⟩,rfl,r1,r2⟩:∃p:aA×aA,ws=[p]/\RelV (.ref b) p.1/\RelV y p.2:=by
  cases j with
  | @cons a c as bs h t=>
   cases t;exact⟨_,rfl,h.1,h.2⟩
 cases (show u=bc b from r1);obtain⟨z,hd,xs,j,dd⟩:=Qmq G.hok e;cases j;refine ae ?_;refine aD ?_;rw[fk];refine aD (aD (wpAny_dictSet_heap (hsz:=by simp) (knd:=nk X.prog X.w) hu (Up G.hok O) dd λh' J hs=>wpAny_pure ?_))
 dsimp only;rw[iL];refine wpAny_pure (wpAny_pure (wpAny_pure (wpAny_pure ⟨.ref s.heap.objs.size,_,?_,rfl,Y⟩)));obtain⟨o,es,ep,U,h2,h3,Z,_,h5⟩:=J;refine Q2t G (by rw[e];exact True.intro) hs ⟨o,U⟩ ⟨by simp[sizeLine_eq],hd,[(ks,b,r)],.cons ⟨rfl,?_,r2⟩ .nil,o,es,ep,U,h2,h3,by simpa[storedH,atKey]using Z,by simp⟩;exact O.keep λc ys S=>by rw[Q7 (Qt2 S e (λz=>nomatch z))];exact S
def ItT(a:aB)(o:Obj)(kvs:List (HK×V)):It:=
 ⟨λi H=>H a=zo (.frz o (.dT kvs))/\i<kvs.length,λi H x H'=>H'=H/\∃kv b,kvs[i]?=zo kv/\x=.ref b/\KR H kv.1 b,λi H=>H a=zo (.frz o (.dT kvs))/\kvs.length<=i⟩
def Q9h{H:Hp}{o:Obj}{es:Array DictEntry}(ok:HOk P w H h)(e:H a=zo (.frz o (.dT j)))(hd:o.data=.dict es ep):
  (a==ag)=yo/\RawD h a es ep/\aR (λ(p:HK×V) (u:aA)=>∃b,u=.ref b/\KR H p.1 b) j (es.toList.map (·.key)):=by
 obtain⟨S,hz,hs,xs,J,o',Y,Z,z,hx,G,O,I⟩:=ok a _ e;rw[S]at z;cases z;rw[hd]at G;cases G;refine⟨hs,⟨o,S,hx,hd⟩,?_⟩;have:es.toList.map (·.key)=xs.map (λq=>.ref q.2.1):=by rw[O,L4];exact M9 λq _=>rfl
 rw[this];clear this O hz I e
 induction J with
|nil=>exact .nil
|cons U _ ih=>exact .cons ⟨_,rfl,U.2.1⟩ ih
def Paired.get{α β:Type}{R:α->β->Prop}:∀{xs:List α}{ys:List β}{i:Nat}{x:α},aR R xs ys->xs[i]?=zo x->∃y,ys[i]?=zo y/\R x y
|_,_,_,_,.nil,e=>by simp at e
|a::_,b::_,0,x,.cons h t,e=>by
  simp at e;subst e;exact⟨b,by simp,h⟩
|_::_,_::_,i+1,x,.cons h t,e=>by
  obtain⟨y,h1,h2⟩:=Paired.get (i:=i) t (by simpa using e);exact⟨y,by simpa using h1,h2⟩
def Qbc {P:aK} {w:aJ} {K:bZ} {tg:aH} (a it:aB) (o:Obj) (q:List (HK×V)) {es:Array DictEntry} {ep:Nat} (hd:o.data=.dict es ep):
  Turn P w K tg (ItT a o q) [it] it (λi h=>h.IsKeyIter it a i q.length ep) where
 mem:=by simp
 obj:=λi h st b G=>by
  have e:b=it:=by simpa using G
  subst e;obtain⟨o,e,c,d⟩:=st;exact⟨o,e,λv z=>by rw[d]at z;cases z⟩
 keep:=λi h h' st k=>by
  obtain⟨o,e,r⟩:=st;exact⟨o,k it (by simp) o e,r⟩
 item:=by
  intro X hP hw hK hc i pins s σ H E I J st hg;subst hP hw hK;obtain⟨hx,hl⟩:=hg;obtain⟨hs,hr,O⟩:=Q9h I.hok hx hd;have j:q.length=es.size:=by have:=Paired.length O;simpa using this
  obtain⟨u,hu,b,rfl,kr⟩:=Paired.get O (O2 hl);rw[D8]at hu;obtain⟨e,he,U⟩:=iR.mp hu;obtain⟨f0,Z,f2,Y,f4,S⟩:=J it (by simp);rw[j]at st;refine Q9g st hr (by rw[<- bn];exact he) λh' st' sb=>?_
  rw[<- j]at st';have I1:Inv X pins σ H {s with heap:=h'}:=I.turned (t':=s.toks) (λb o G e=>(sb.2 b G).trans e) f0 Z Y f4 S
  obtain⟨o,e',c,d⟩:=id st';exact⟨e.key,rfl,Qak (s:={s with heap:=h'}) e' c d (by decide) ⟨.ref b,H,I1,U,⟨rfl,q[i],b,O2 hl,rfl,kr⟩,st',λb G=>(J b G).1⟩⟩
 done:=by
  intro X hP hw hK hc i pins s σ H E I J st hg;subst hP hw hK;obtain⟨hx,hl⟩:=hg;obtain⟨hs,hr,O⟩:=Q9h I.hok hx hd;have j:q.length=es.size:=by have:=Paired.length O;simpa using this
  obtain⟨f0,Z,f2,Y,f4,S⟩:=J it (by simp);rw[j]at st;exact Qdr (I.ok.hd hc) st hr (by rw[ce];omega) λh' eb=>⟨rfl,I.turned (t':=s.toks) (λb o G e=>eb b o G e) f0 Z Y f4 S⟩
 self:=λ_ _ _ _ _ st h=>wpAny_pyIter_keyiter st h
variable{X:Cx}{pins:zAA}{σ:St}{H:Hp}{s:aC}{a:aB}{tg:aH}
def Inv.noFrzT(I:Inv X pins σ H s)(e:H a=zo (.dT j)):Qnj X a:=λo u q=>by
 have:=I.base.frzs a o u q;rw[e]at this;cases this
def Inv.thawT(I:Inv X pins σ H s)(e:H a=zo (.frz o (.dT j)))(n:Qnj X a):Inv X pins σ (upd H a (.dT j)) s:=by
 have G:∀b,H b=zl->b≠a:=λb h z=>by rw[z,e]at h;cases h
 refine⟨I.ok,I.os,I.bare,⟨I.base.keep,I.base.slot,λb o q h J=>?_,I.base.there,λb xs q=>?_,λb o u q=>?_,λb ps q=>?_⟩,I.loc,I.cell,?_,λx c q=>?_,λp S=>?_,λb ob q=>?_,I.len⟩
 ·have:=I.base.free b o q h J;rw[Q7 (G b this)];exact this
 ·have:=I.base.tups b xs q;rw[Q7 (λz=>by rw[z,e]at this;cases this)];exact this
 ·have:=I.base.frzs b o u q
  by_cases z:b=a
  ·subst z;exact absurd q (n o u)
  ·rw[Q7 z];exact this
 ·obtain⟨more,this⟩:=I.base.tbls b ps q;exact⟨more,by rw[Q7 (λz=>by rw[z,e]at this;cases this)];exact this⟩
 ·rw[Q7 (G _ I.free)];exact I.free
 ·rw[Q7 (G _ (I.freeC x c q))];exact I.freeC x c q
 ·obtain⟨h1,h2,O⟩:=I.pin p S;exact⟨h1,by rw[Q7 (G _ h2)];exact h2,O⟩
 ·have stay:∀{ob:HO},ObjOk X.prog X.w H s.heap b ob->ObjOk X.prog X.w (upd H a (.dT j)) s.heap b ob:=λh=>h.stay (λ_ _ _ q=>q) (λc q=>by
   rw[Q7 (λz=>by rw[z,e]at q;cases q)];exact q) λc xs q=>by
   rw[Q7 (λz=>by rw[z,e]at q;cases q)];exact q
  by_cases z:b=a
  ·subst z;rw[Qj]at q;cases q;exact stay (I.hok b _ e).2
  ·rw[Q7 z]at q;exact stay (I.hok b _ q)
def Qvy(X:Cx)(tl:TE):TI:=λσ H R=>tl σ H λx H1=>∃a kvs,x=.ref a/\H1 a=zo (.dT kvs)/\∀o,Qnj X a->R (ItT a o kvs) (upd H1 a (.frz o (.dT kvs)))
def Qjc{l:aH}{tl:TE}(hl:PE X l tl):PI X tg l (Qvy X tl):=by
 intro pins s σ H R I h;refine thn (hl pins s σ H _ I h) λv s1 ⟨x,H1,O,r1,q1⟩=>?_
 obtain⟨a,j,rfl,S,q⟩:=q1;cases r1;obtain⟨z,hs,xs,G,o,es,ep,J,hx,hd,he,hn⟩:=O.hok a _ S;have hsz:es.size=j.length:=by
  rw[<- bj,he,O1,<- Paired.length G]
 refine Q9f hs ⟨o,J,hx,hd⟩ ?_;have Z:s1.heap.objs.size≠a:=cC (D0 J);have U:H1 s1.heap.objs.size=zl:=O.hok.fresh (O6 _);have keep:∀b u,s1.heap.get? b=zo u->(s1.heap.push {cls:=.type "dict_keyiterator",data:=.fields #[.ref a,.int 0 0,.int es.size 0,.int ep 0]}).get? b=zo u:=λb u e=>O4 _ e
 refine⟨s1.heap.objs.size,[s1.heap.objs.size],_,_,upd H1 a (.frz o (.dT j)),rfl,O.write (t':=s1.toks) (x:=a) (e:=a) (by rw[S];trivial) (.inl rfl) (λb u _ e=>keep b u e) ⟨o,keep a o J⟩ ⟨keep a o J,z,hs,xs,Paired.mapP G λp q y=>⟨y.1,?_,y.2.2⟩,o,es,ep,keep a o J,hx,hd,he,hn⟩,
  Qbc a _ o j hd,⟨_,D4 _ rfl,rfl,by rw[hsz];rfl⟩,λb hb=>?_,q o (O.noFrzT S)⟩
 ·exact y.2.1.keep λc ys Y=>by rw[Q7 (λz=>by rw[z,S]at Y;cases Y)];exact Y
 ·have e:b=s1.heap.objs.size:=by simpa using hb
  subst e;exact O.fpOk (O6 _) (by rw[Q7 Z];exact U)
def Rise(xs:Array Nat):Prop:=xs.toList.Pairwise (· < ·)
def Rise.lt{xs:Array Nat}(r:Rise xs){i j a b:Nat}(hi:xs[i]?=zo a)(O:xs[j]?=zo b)(h:i<j):a<b:=by
 have q:=eT.mp r;obtain⟨z,I⟩:=cA.mp hi;obtain⟨G,J⟩:=cA.mp O;have:=q i j (by simpa using z) (by simpa using G) h;simp only[Array.getElem_toList]at this;rw[<- I,<- J];exact this
def Qnc {xs:Array Nat} {j:Nat} (r:Rise xs):∀G lo hi,hi-lo<=G->lo<=hi->hi<=xs.size->(∀i v,xs[i]?=zo v->i<lo->v<j)->(∀i v,xs[i]?=zo v->hi<=i->j<=v)->
  SetTable.below.go xs j G lo hi<=xs.size/\∀i v,xs[i]?=zo v->(i<SetTable.below.go xs j G lo hi<->v<j):=by
 intro G
 induction G with
|zero=>
  intro lo hi h1 h2 S a b;have e:lo=hi:=by omega
  rw[SetTable.below.go];refine⟨by omega,λi v I=>⟨a i v I,λh=>?_⟩⟩
  by_cases z:i<lo
  ·exact z
  ·have:=b i v I ();omega
|succ G U=>
  intro lo hi h1 h2 S a b;rw[SetTable.below.go]
  by_cases z:lo<hi
  ·rw[bU z];dsimp only;have hm:(lo+hi)/2<xs.size:=by omega
   have J:xs[(lo+hi)/2]?=zo xs[(lo+hi)/2]:=bp hm;have Y:xs.getD ((lo+hi)/2) j=xs[(lo+hi)/2]:=by simp[dW,hm]
   rw[Y]
   by_cases y:xs[(lo+hi)/2]<j
   ·rw[bU y];refine U _ _ () () S (λi v I O=>?_) b
    by_cases q:i=(lo+hi)/2
    ·subst q;rw[J]at I;cases I;exact y
    ·have:=r.lt I J ();omega
   ·rw[bV y];refine U _ _ () () () a λi v I O=>?_
    by_cases q:i=(lo+hi)/2
    ·subst q;rw[J]at I;cases I;omega
    ·have:=r.lt J I ();omega
  ·rw[bV z];refine⟨by omega,λi v I=>⟨a i v I,λh=>?_⟩⟩
   by_cases q:i<lo
   ·exact q
   ·have:=b i v I ();omega
def jx{xs:Array Nat}(r:Rise xs):SetTable.below xs j<=xs.size/\∀i v,xs[i]?=zo v->(i<SetTable.below xs j<->v<j):=
 Qnc r _ _ _ () (G8 _) (O6 _) (λi v _ h=>absurd h (iZ _)) λi v q h=>by
  have:=(cA.mp q).1;omega
def Good(L:Bool)(t:aW):Prop:=Rise t.place/\t.dummies=#[]/\t.led=L
def Q9a{xs:Array Nat}(r:Rise xs)(h:j∉xs.toList):Rise (SetTable.insertAt xs (SetTable.below xs j) j):=by
 obtain⟨_,b⟩:=jx (j:=j) r;unfold Rise;rw[SetTable.toList_insertAt];have lo:∀v∈xs.toList.take (SetTable.below xs j),v<j:=λv G=>by
  obtain⟨i,hi,e⟩:=L8 G;rw[cN]at hi;refine(b i v ?_).mp ();rw[<- bn,<- e,List.getElem_take,O2]
 have hi:∀v∈xs.toList.drop (SetTable.below xs j),j<v:=λv G=>by
  obtain⟨i,hi,e⟩:=L8 G;rw[cx]at hi;have J:xs[SetTable.below xs j+i]?=zo v:=by
   rw[<- bn,<- e,List.getElem_drop,O2]
  have q:¬v<j:=λz=>by have:=(b _ v J).mpr z;omega
  have ne:v≠j:=λz=>h (by rw[<- z];exact ia G)
  omega
 refine List.pairwise_append.mpr ⟨fy.sublist (gr _ _) r,cq.mpr ⟨hi,fy.sublist (List.drop_sublist _ _) r⟩,λx O y I=>?_⟩
 rcases D7.mp I with rfl|I
 ·exact lo x O
 ·exact iQ (lo x O) (hi y I)
def Good.put{t:aW}(g:Good L t)(h:j∉t.place.toList):Good L (t.put j).1:=by
 unfold SetTable.put;refine⟨Q9a g.1 h,?_,g.2.2⟩;show(if SetTable.has t.dummies j=zb then _ else t.dummies)=#[];have:SetTable.has t.dummies j=yo:=by unfold SetTable.has;rw[g.2.1];simp
 rw[this,bV (by simp)];exact g.2.1
def Good.relaid{t:aW}(g:Good L t)(e:t.relaid hs n=zo (t',o)):Good L t':=by
 unfold SetTable.relaid SetTable.laid at e;cases z:SetTable.layClean (SetTable.sizeAbove n-1) hs with
|none=>rw[z]at e;cases e
|some I=>
  rw[z]at e;cases e;refine⟨?_,rfl,g.2.2⟩;show fy (· < ·) (List.map _ _);rw[gB];have J:∀l:List Nat,l.Pairwise (· < ·)->(l.filterMap λj=>(I.getD j zl).map (j,·)).Pairwise λa b=>a.1<b.1:=by
   intro l
   induction l with
   |nil=>intro _;exact .nil
   |cons x l O=>
    intro h;obtain⟨h1,h2⟩:=cq.mp h;rw[cj];cases I.getD x zl with
    |none=>exact O h2
    |some k=>
     refine cq.mpr ⟨λb S=>?_,O h2⟩;obtain⟨y,U,G⟩:=dh.mp S;cases q:I.getD y zl with
     |none=>rw[q]at G;cases G
     |some Y=>rw[q]at G;cases G;exact h1 y U
  exact J _ List.pairwise_lt_range
def xg{α:Type}:∀{l:List α}{i:Nat}(h:i<l.length),([l[i]]++l.eraseIdx i).Perm l
|[],_,h=>absurd h (iZ _)
|a::l,0,_=>cT _
|a::l,i+1,h=>by
  have:=xg (l:=l) (i:=i) (by simpa using h);rw[iA,List.getElem_cons_succ];exact(eU a _ _).trans (this.cons a)
def Qq3{α:Type}(next:Nat->Nat):∀j k(left:List α)q,left.length=j->(pickOrder.go next j k left q).toList.Perm (q.toList++left):=by
 intro j
 induction j with
|zero=>intro k left q h;rw[ib.mp h,pickOrder.go,G9]
|succ j G=>
  intro k left q h;rw[pickOrder.go];have z:next k%left.length<left.length:=eV _ ();rw[O2 z];refine(G (k+1) _ _ (by rw[ic z];omega)).trans ?_;rw[Array.toList_push,dA];refine kH _ ?_;exact xg z
def Qfs{α:Type}(next:Nat->Nat)(xs:Array α):(pickOrder next xs).toList.Perm xs.toList:=by
 have:=Qq3 next xs.size 0 xs.toList #[] (by simp);simpa[pickOrder]using this
def Q9q{α β:Type}{F:α->β->Prop}{l G:List α}(p:G.Perm l):∀{ks:List β},aR F l ks->∃j,aR F G j/\j.Perm ks:=by
 induction p with
|nil=>intro ks h;exact⟨ks,h,cT _⟩
|cons x _ J=>
  intro ks h;cases h with
  |cons r t=>
   obtain⟨j,h1,h2⟩:=J t;exact⟨_,.cons r h1,h2.cons _⟩
|swap x y l=>
  intro ks h;cases h with
  |cons r t=>
   cases t with
   |cons I t'=>exact⟨_,.cons I (.cons r t'),eU _ _ _⟩
|trans _ _ z q=>
  intro ks h;obtain⟨k1,h1,p1⟩:=q h;obtain⟨k2,h2,p2⟩:=z h1;exact⟨k2,h2,p2.trans p1⟩
def j9{α β:Type}{F:α->β->Prop}{a:α}:∀{l:List α}{ks:List β},aR F l ks->a∈l->∃b∈ks,F a b
|_,_,.nil,h=>by cases h
|_,_,.cons (b:=b) r t,h=>by
  rcases D7.mp h with rfl|h
  ·exact⟨b,by simp,r⟩
  ·obtain⟨x,j,q⟩:=j9 t h;exact⟨x,O3 _ j,q⟩
section
variable{prog:aK}{w:aJ}{K:Type}[DecidableEq K]
variable{knd:KeyKind prog w K}{L:Bool}{A:aO}{E:zAD}{s:aC}{a:aB}
def Z9(ks:List K)(k:K):List K:=if k∈ks then ks else ks++[k]
end
def Q2c:entryFor table "set.__iter__"=zo Builtin.«frozenset.__iter__»:=entryFor_alias (id':="frozenset.__iter__") (by kernel_rfl) rfl (by decide +kernel) (by kernel_rfl)
def slot_setit_next:Slot "set_iterator" "__next__" "set_iterator.__next__":=
 .of (owner:="set_iterator") (n:="__next__") (by rw[typeLookup_type,builtinLookup_eq_fast];kernel_rfl) (by decide +kernel) (by decide +kernel) (by decide +kernel) (by first|exact .inl (by decide +kernel)|exact .inr (by decide +kernel)) (by rw[bO];kernel_rfl)
def Kp:entryFor table "set_iterator.__next__"=zo Builtin.«set_iterator.__next__»:=entryFor_of_tree (by kernel_rfl)
def Q1t:Manifest.owners.lookup (String.ofList ['r','o','t','a','r','e','t','i','_','t','e','s'].reverse)=zo Manifest.sig_set_iterator:=by kernel_rfl
def qq a:argsOk "set_iterator.__next__" ⟨[a],[]⟩:=by
 unfold argsOk;rw[signature?_of (id:="set_iterator.__next__") (n:=['_','_','t','x','e','n','_','_']) (o:=['r','o','t','a','r','e','t','i','_','t','e','s']) (by kernel_rfl) Q1t];kernel_rfl
def SetIt(h:Heap)(it:aB)(f:aA)(i:Nat)(d:aB)(n ep:Nat):Prop:=
 h.get? it=zo {cls:=.type "set_iterator",dict:=zl,data:=.fields #[f,aU i,.ref d,aU n,aU ep],slots:=#[]}
def RawS(h:Heap)(a:aB)(es:zAB)(ep:Nat)(t:aW):Prop:=∃o,h.get? a=zo o/\o.ExactSet/\o.data=.set es ep t
def RawS.at{h h':Heap}(x:RawS h a es ep t)(k:∀o,h.get? a=zo o->h'.get? a=zo o):RawS h' a es ep t:=let ⟨o,e,r⟩:=x;⟨o,k o e,r⟩
def RawS.lt{h:Heap}(x:RawS h a es ep t):a<h.objs.size:=let ⟨_,e,_⟩:=x;D0 e
def SetIt.at{h h':Heap}(x:SetIt h it f i d n ep)(k:∀o,h.get? it=zo o->h'.get? it=zo o):SetIt h' it f i d n ep:=k _ x
variable{prog:aK}{A:aO}{E:zAD}
section
variable{w:aJ}
def RawS.typeIs(x:RawS s.heap a es ep t):s.TypeIs (.ref a) "set":=let ⟨o,e,r,_⟩:=x;⟨o,e,r.1⟩
def SetIt.typeIs(x:SetIt s.heap it f i d n ep):s.TypeIs (.ref it) "set_iterator":=⟨_,x,rfl⟩
def X3{es:zAB}{t:aW}{Q:(zAB×Nat×aW)->aC->Prop}(x:RawS s.heap a es ep t)(q:t.fits es.size=zb)(h:Q (es,ep,t) s):aF (aI prog w) A (setState a) Q E s:=by
 obtain⟨o,j,_,hd⟩:=x;exact wpAny_setState_of j hd q h
def Qcw{Q:Nat->aC->Prop}(j:n≠0)(h:∀i d',i<n->Q i {s with drawn:=d'}):aF (aI prog w) A (choose .order n) Q E s:=λΓ p _=>⟨j,h _ _ (eV _ ())⟩
def Qmr{α:Type}:∀n(xs:List α)s{Q:List α->aC->Prop},xs.length=n->(∀ys d',ys.Perm xs->Q ys {s with drawn:=d'})->aF (aI prog w) A (drawOrder n xs) Q E s:=by
 intro n
 induction n with
|zero=>
  intro xs s Q j h;rw[ib.mp j]at h ⊢;rw[drawOrder];exact wpAny_pure (h [] s.drawn (cT _))
|succ n z=>
  intro xs s Q j h;cases xs with
  |nil=>cases j
  |cons x xs=>
   rw[drawOrder]
   ·refine aD (Qcw (by simp) λi d' hi=>?_)
    rw[O2 hi];refine aD (z _ _ (by rw[ic hi];omega) λys q G=>?_)
    exact wpAny_pure (h _ q ((G.cons _).trans (xg hi)))
   ·simp
end
section
variable{w:aJ}
def Qpm{es:zAB}{t:aW}{Q:Nat->aC->Prop}(x:RawS s.heap a es ep t)(j:t.fits es.size=zb)(h:Q es.size s):aF (aI prog w) A (Builtin.Frozenset.sizeOf a) Q E s:=by
 unfold Builtin.Frozenset.sizeOf setEntries;exact aD (aD (X3 x j (wpAny_pure (wpAny_pure h))))
def Q98{es:zAB}{t:aW}{Q:Nat->aC->Prop}(x:RawS s.heap a es ep t)(j:t.fits es.size=zb)(h:Q ep s):aF (aI prog w) A (setEpoch a) Q E s:=by
 unfold setEpoch;exact aD (X3 x j (wpAny_pure h))
def Q3d{es:zAB}{t:aW}{Q:zAB->aC->Prop}(x:RawS s.heap a es ep t)(j:t.fits es.size=zb)(h:Q es s):aF (aI prog w) A (setEntries a) Q E s:=by
 unfold setEntries;exact aD (X3 x j (wpAny_pure h))
def Q0z{Q:Bool->aC->Prop}(h:Q (w.params.followText "set-order") s):aF (aI prog w) A setsByText Q E s:=by
 unfold setsByText;exact aD (wpAny_askSetting (wpAny_pure h))
def drw(w:aJ)(n:Nat)(t:aW):Bool:=!w.params.followText "set-order"&&(!t.plain&&decide (n>1))
def Qih{es:zAB}{t:aW}{Q:Bool->aC->Prop}(x:RawS s.heap a es ep t)(j:t.fits es.size=zb)(h:Q (drw w es.size t) s):aF (aI prog w) A (setDrawn a) Q E s:=by
 unfold setDrawn;exact aD (X3 x j (aD (Q0z (wpAny_pure h))))
def Qi5{es:zAB}{t:aW}{Q:zAD}(x:RawS s.heap a es ep t)(j:t.fits es.size=zb)(hz:es.size<=sizeLine)(h1:drw w es.size t=yo->Q (.ref s.heap.objs.size) {s with heap:=s.heap.push {cls:=.type "set_iterator",data:=.fields #[aU 0,aU 0,.ref a,aU es.size,aU ep]}})(h2:drw w es.size t=zb->∀(ys:List Nat)d',ys.Perm (ba es.size)->
   Q (.ref (s.heap.objs.size+1)) {s with heap:=(s.heap.push {cls:=.type "tuple",data:=.seq (ys.map λ(i:Nat)=>aU i).toArray}).push {cls:=.type "set_iterator",data:=.fields #[.ref s.heap.objs.size,aU 0,.ref a,aU es.size,aU ep]},drawn:=d'}):
  aF (aI prog w) A (pyIter (.ref a)) Q E s:=by
 refine wpAny_pyIter_slot x.typeIs ie (af ie x.typeIs Q2c ?_ (PySem.F.args_set_iter_1 _));unfold Builtin.«frozenset.__iter__» Builtin.Frozenset.slot0 Builtin.Frozenset.addrOf slotArgs;show aF _ _ (pure a>>=_) _ _ _;refine aD (wpAny_pure ?_);refine aD (Qpm x j ?_);refine aD (Qih x j ?_);cases z:drw w es.size t with
|false=>
  rw[bV O9];refine aD (wpAny_pure ?_);refine aD (Q98 x j ?_);refine aD (au ?_);exact wpAny_pure ⟨_,rfl,"set_iterator",_,⟨_,D4 _ rfl,rfl⟩,slot_setit_next.lookup,h1 z⟩
|true=>
  rw[bU rfl];refine aD ?_;refine Qmr _ _ _ F9 λys d' q=>?_
  refine aD (wpAny_newTuple ?_ (by rw[O1,q.length_eq,F9];exact hz));have G:RawS (s.heap.push {cls:=.type "tuple",data:=.seq (ys.map λ(i:Nat)=>aU i).toArray}) a es ep t:=x.at λo e=>O4 _ e
  refine aD (Q98 (s:={s with heap:=s.heap.push {cls:=.type "tuple",data:=.seq (ys.map λ(i:Nat)=>aU i).toArray},drawn:=d'}) G j ?_)
  refine aD (au ?_);refine wpAny_pure ⟨_,rfl,"set_iterator",_,⟨_,D4 _ rfl,rfl⟩,slot_setit_next.lookup,?_⟩;have:=h2 z ys d' q
  rwa [show s.heap.objs.size+1=(s.heap.push {cls:=.type "tuple",data:=.seq (ys.map λ(i:Nat)=>aU i).toArray}).objs.size from(L6 _ _).symm]at this
end
def byT(w:aJ):Bool:=!w.params.followText "set-order"
def Y8(w:aJ):Obj:={cls:=.type "set",dict:=zl,data:=.set #[] 0 (.fresh 0 0 (byT w))}
def Yy{K:Type}[DecidableEq K](ks:List K):List K:=ks.foldl Z9 []
def Qg7{K:Type}[DecidableEq K]ks(k:K):Yy (ks++[k])=Z9 (Yy ks) k:=by unfold Yy;rw[dX];rfl
def jq{K:Type}[DecidableEq K]:∀(ks acc:List K),(ks.foldl Z9 acc).length<=acc.length+ks.length
|[],acc=>by simp
|k::ks,acc=>by
  have h1:=jq ks (Z9 acc k);have h2:(Z9 acc k).length<=acc.length+1:=by unfold Z9;split<;>simp
  rw[F8,D6];omega
def Q08{K:Type}[DecidableEq K](ks:List K):(Yy ks).length<=ks.length:=by unfold Yy;have:=jq ks [];simpa using this
section
variable{prog:aK}{w:aJ}{K:Type}[DecidableEq K]{knd:KeyKind prog w K}{A:aO}{R:Result->aC->Prop}
def Qpb a{Z:zAD}(h:Z (.ref s.heap.objs.size) {s with heap:=s.heap.push (Y8 w)}):
  codeAny (aI prog w) A (.call (.builtin "set.__new__") ⟨[.type "set",a],[]⟩) (wants Z E) s:=by
 refine codeAny_of_tree ?_;show aF _ A.in1 (do checkBuiltinCall "set.__new__" ⟨[.type "set",a],[]⟩;again (.builtin "set.__new__" ⟨[.type "set",a],[]⟩)) _ _ s;refine aD (wpAny_of_eq (F.newCall_set_1 a) (wpAny_pure ⟨bH F.plain_set_new _,bA F.entry_set_new ?_⟩));rw[Around.under_plainId F.plain_set_new _];unfold Builtin.«set.__new__» Builtin.Frozenset.newClass;have hs:=sub_set_self;unfold Y8 byT at h;obtain⟨j,g,d,tk,os⟩:=s;dsimp only
 wp_walk
 refine wpAny_askSetting (wpAny_pure ?_);dsimp only;simp only[newObj];refine aD (wpAny_alloc (wpAny_pure ?_));exact wpAny_pure h
def Q32:isSubtype (.type "tuple") (.type "set")=pure yo:=by rw[bO];kernel_rfl
def Q24:isSubtype (.type "tuple") (.type "frozenset")=pure yo:=by rw[bO];kernel_rfl
end
def Uf(w:aJ)(t:aW)(i:Nat):Nat:=if w.params.followText "set-order"=zb then 0 else if i=0 then 0 else t.place.getD (i-1) 0+1
def Q7h(w:aJ)(a:aB)(ep:Nat)(es:zAB):zAB:=if w.params.followText "set-order"=zb then pickOrder (w.params.setOrder a ep) es else es
def Q61 w a ep(es:zAB):(Q7h w a ep es).toList.Perm es.toList:=by
 unfold Q7h
 split
 ·exact Qfs _ _
 ·exact cT _
def Qfv w a ep(es:zAB):(Q7h w a ep es).size=es.size:=by
 have:=(Q61 w a ep es).length_eq;simpa using this
def Qd3{xs:Array Nat}(r:Rise xs)(h:i<xs.size):SetTable.below xs (xs.getD i 0+1)=i+1:=by
 obtain⟨I,b⟩:=jx (j:=xs.getD i 0+1) r;have q:xs[i]?=zo (xs.getD i 0):=by rw[bp h];simp[dW,h]
 have h1:i<SetTable.below xs (xs.getD i 0+1):=(b i _ q).mpr ()
 by_cases z:SetTable.below xs (xs.getD i 0+1)=i+1
 ·exact z
 ·have h2:i+1<xs.size:=by omega
  have G:xs[i+1]?=zo xs[i+1]:=bp h2;have:=(b (i+1) _ G).mp ();have:=r.lt q G ();omega
def Qd2(r:Rise xs):SetTable.below xs 0=0:=by
 obtain⟨q,b⟩:=jx (j:=0) r
 by_cases z:SetTable.below xs 0=0
 ·exact z
 ·have h2:0<xs.size:=by omega
  have:=(b 0 _ (bp h2)).mp ();omega
section
variable{w:aJ}
def Qk0{es:zAB}{t:aW}{Q:Option (aA×Nat)->aC->Prop}(x:RawS s.heap a es ep t)(j:t.fits es.size=zb)(g:Good (byT w) t)(hd:drw w es.size t=yo)(hi:i<=es.size)(h:Q (((Q7h w a ep es)[i]?).map λe=>(e.2,Uf w t (i+1))) s):aF (aI prog w) A (setNext a (Uf w t i) i ep) Q E s:=by
 have U:t.place.size=es.size:=by
  simp only[SetTable.fits,F3,beq_iff_eq,decide_eq_true_eq]at j;exact j.1
 unfold setNext;refine aD (X3 x j ?_);dsimp only;refine aD (Q0z ?_);cases z:w.params.followText "set-order" with
|true=>
  rw[bU rfl,bV (by simp)];refine aD ?_;unfold setWalk;refine aD (X3 x j ?_);dsimp only;refine aD (Q0z ?_);rw[z,bU rfl];refine aD (wpAny_askSetting (wpAny_pure (wpAny_pure ?_)));unfold Q7h Uf at h;rw[bU z,bU z]at h;unfold Uf;rw[bU z];exact h
|false=>
  rw[bV O9];have G:(!t.plain&&decide (es.size>1))=yo:=by
   unfold drw at hd;rw[z]at hd;simpa using hd
  have S:t.led=zb:=by rw[g.2.2];unfold byT;rw[z];rfl
  unfold Q7h Uf at h;rw[z,bV O9,bV O9,bV (),fx]at h;have J:SetTable.below t.place (Uf w t i)=i:=by
   unfold Uf;rw[z,bV O9]
   by_cases q:i=0
   ·rw[bU q,q];exact Qd2 g.1
   ·rw[bV q,Qd3 g.1 ()];omega
  show aF _ _ (if(!t.plain&&decide (es.size>1))=zb then _ else _) _ _ _;rw[G,bV O9];show aF _ _ ((if(!t.led && !es.isEmpty)=zb then _ else _)>>=_) _ _ _;rw[S];simp only[cW,dI,F5,if_false];refine aD (wpAny_pure ?_);rw[J];refine wpAny_pure ?_
  by_cases q:i<es.size
  ·have I:es[i]?=zo es[i]:=bp q;have O:t.place[i]?=zo (t.place.getD i 0):=by rw[bp ()];simp[dW,U,q]
   rw[I]at h ⊢;rw[O];exact h
  ·have I:es[i]?=zl:=ce ();rw[I]at h ⊢;exact h
end
section
variable{w:aJ}
def qh:Slot "set_iterator" "__iter__" "set_iterator.__iter__":=
 .of (owner:="set_iterator") (n:="__iter__") (by rw[typeLookup_type,builtinLookup_eq_fast];kernel_rfl) (by decide +kernel) (by decide +kernel) (by decide +kernel) (by first|exact .inl (by decide +kernel)|exact .inr (by decide +kernel)) (by rw[bO];kernel_rfl)
def Q1m:entryFor table "set_iterator.__iter__"=zo Builtin.«dict_keyiterator.__iter__»:=entryFor_alias (id':="dict_keyiterator.__iter__") (by kernel_rfl) rfl (by decide +kernel) (by kernel_rfl)
def Q2e a:argsOk "set_iterator.__iter__" ⟨[a],[]⟩:=by
 unfold argsOk;rw[signature?_of (id:="set_iterator.__iter__") (n:=['_','_','r','e','t','i','_','_']) (o:=['r','o','t','a','r','e','t','i','_','t','e','s']) (by kernel_rfl) Q1t];kernel_rfl
def Q79{Q:zAD}(j:SetIt s.heap it f i d n ep)(h:Q (.ref it) s):aF (aI prog w) A (pyIter (.ref it)) Q E s:=by
 refine wpAny_pyIter_slot j.typeIs qh (af qh j.typeIs Q1m ?_ (Q2e _));show aF _ _ (ret (.ref it)) _ _ s;exact wpAny_pure ⟨_,rfl,"set_iterator",_,j.typeIs,slot_setit_next.lookup,h⟩
def xq(w:aJ)(t:aW)(h:Heap)(ys:Option (aB×List Nat))(i:Nat)(f:aA):Prop:=match ys with
|none=>f=aU (Uf w t i)
|some (tp,ys)=>f=.ref tp/\h.get? tp=zo {cls:=.type "tuple",data:=.seq (ys.map λ(i:Nat)=>aU i).toArray}
def Q5b(w:aJ)(a:aB)(ep:Nat)(es:zAB)(ys:Option (aB×List Nat)):List (Int×aA):=match ys with
|none=>(Q7h w a ep es).toList
|some (_,ys)=>ys.filterMap λi=>es[i]?
def Q11{es:zAB}(h:∀tp l,ys=zo (tp,l)->l.Perm (ba es.size)):(Q5b w a ep es ys).Perm es.toList:=by
 unfold Q5b;cases ys with
|none=>exact Q61 _ _ _ _
|some q=>
  obtain⟨tp,l⟩:=q;refine((h tp l rfl).filterMap _).trans ?_;rw[filterMap_getElem?_range]
def Qqf{w:aJ}{a:aB}{ep:Nat}{es:zAB}{tp:aB}{l:List Nat}(h:l.Perm (ba es.size))(i:Nat):(Q5b w a ep es (zo (tp,l)))[i]?=(l[i]?).bind λj=>es[j]?:=by
 have G:∀j∈l,j<es.size:=λj q=>by have:=h.mem_iff.mp q;simpa using this
 show(l.filterMap λi=>es[i]?)[i]?=_;clear h
 induction l generalizing i with
|nil=>rfl
|cons x l I=>
  have z:=G x (by simp);rw[List.filterMap_cons_some (b:=es[x]) (bp z)];cases i with
  |zero=>simp[bp z]
  |succ i=>simpa using I i (λj q=>G j (O3 _ q))
def Qi6 {it a:aB} {es:zAB} {ep i:Nat} {t:aW} {ys:Option (aB×List Nat)} {f v:aA} {e:Int} {Q:Option aA->aC->Prop} (a1:a≠it) (I:SetIt s.heap it f i a es.size ep) (x:RawS s.heap a es ep t) (O:t.fits es.size=zb) (g:Good (byT w) t)
  (hy:xq w t s.heap ys i f) (hn:ys=zl->drw w es.size t=yo) (hp:∀tp l,ys=zo (tp,l)->l.Perm (ba es.size)/\tp≠it) (J:(Q5b w a ep es ys)[i]?=zo (e,v))
  (hQ:∀f' h',SetIt h' it f' (i+1) a es.size ep->xq w t h' ys (i+1) f'->Heap.SameBut it s.heap h'->Q (zo v) {s with heap:=h'}):aF (aI prog w) A (ao (.ref it)) Q E s:=by
 have hT:=I.typeIs;unfold ao;refine aD (wpAny_attempt (wpAny_callSpecial?_slot (name:=cY "__next__") hT slot_setit_next (af slot_setit_next hT Kp ?_ (qq _))));unfold Builtin.«set_iterator.__next__» slotArgs;show aF _ _ (fieldsOf (.ref it)>>=_) _ _ _;refine aD (wpAny_fieldsOf I rfl ?_);show aF _ _ (setEntries a>>=_) _ _ _;refine aD (Q3d x O ?_);rw[bV (by simp)];cases ys with
|none=>
  cases hy;show aF _ _ (setNext a (Uf w t i:Int).toNat (i:Int).toNat (ep:Int).toNat>>=_) _ _ _;rw[bw,bw,bw];have hi:i<es.size:=by
   obtain⟨q,_⟩:=O0.mp J;have:=(Q11 (w:=w) (a:=a) (ep:=ep) (es:=es) (ys:=zl) (λ_ _ z=>nomatch z)).length_eq;rw[this]at q;simpa using q
  refine aD (Qk0 x O g (hn rfl) () ?_);have e0:(Q7h w a ep es)[i]?=zo (e,v):=by rw[<- bn];exact J
  rw[e0];show aF _ _ (setField (.ref it) 0 (aU (Uf w t (i+1)))>>=_) _ _ _;refine aD (bP I (by simp) λh1 S G=>?_)
  refine aD (bP (s:={s with heap:=h1}) S (by simp) λh2 o2 U=>?_)
  exact wpAny_pure ⟨_,rfl,wpAny_pure (hQ _ h2 o2 rfl (G.trans U))⟩
|some q=>
  obtain⟨tp,l⟩:=q;obtain⟨rfl,ht⟩:=hy;obtain⟨hl,Y⟩:=hp tp l rfl;rw[Qqf hl]at J;cases Z:l[i]? with
  |none=>rw[Z]at J;cases J
  |some j=>
   rw[Z]at J;have J:es[j]?=zo (e,v):=J;show aF _ _ (seqItems? (.ref tp)>>=_) _ _ _;refine aD (bD ht rfl ?_);show aF _ _ (match ((l.map λ(i:Nat)=>aU i).toArray)[(i:Int).toNat]? with|some (.int place _)=>_|some _=>_|none=>_) _ _ _
   rw[bw,ig,D8,Z];show aF _ _ (setNextDrawn a (j:Int).toNat (ep:Int).toNat>>=_) _ _ _;rw[bw,bw];refine aD ?_;unfold setNextDrawn;refine aD (X3 x O ?_);dsimp only;rw[bV (by simp),J];refine wpAny_pure ?_;refine aD (bP I (by simp) λh1 S G=>?_)
   exact wpAny_pure ⟨_,rfl,wpAny_pure (hQ _ h1 S ⟨rfl,(G.2 tp Y).trans ht⟩ G)⟩
def Q5r{Q:Option aA->aC->Prop}(z:A.handled=zl)(k:Heap.ExtBut it s.heap j)(q:∀h',Heap.ExtBut it s.heap h'->Q zl {s with heap:=h'}):
  aF (aI prog w) A.in1 (newExc (.type "StopIteration") []>>=λe=>bS e) (λ(fin:Fin) s'=>∃v,fin=.done (.ret v)/\aF (aI prog w) A (pure (zo v)) Q E s') (λe s'=>aF (aI prog w) A (do if<-isInstance e (.type "StopIteration")then pure zl else throw e) Q E s') {s with heap:=j}:=by
 refine aD ?_;simp only[newExc,newTuple];refine aD (au ?_ (by size_fits));refine aD (m:=firstArgMember _ _) (wpAny_of_eq (a:=bi) (by first|rfl|(simp only[firstArgMember];rfl)) ?_);refine au ?_ (by size_fits);simp only[bS];refine aD (wpAny_handled ?_);rw[show A.in1.handled=zl from z];refine aD (wpAny_pure (wpAny_throw ?_));refine aD (bK (T:="StopIteration") (b:=zb) ⟨_,D4 _ rfl,rfl⟩ isSubtype_stop ?_);exact wpAny_pure (q _ ((k.push _).push _))
def Qpd{es:zAB}{t:aW}{Q:Option aA->aC->Prop}(I:A.handled=zl)(j:SetIt s.heap it f es.size a es.size ep)(x:RawS s.heap a es ep t)(S:t.fits es.size=zb)(g:Good (byT w) t)(J:xq w t s.heap ys es.size f)(hn:ys=zl->drw w es.size t=yo)(hp:∀tp l,ys=zo (tp,l)->l.Perm (ba es.size)/\tp≠it)(U:∀h',Heap.ExtBut it s.heap h'->Q zl {s with heap:=h'}):aF (aI prog w) A (ao (.ref it)) Q E s:=by
 have O:=j.typeIs;unfold ao;refine aD (wpAny_attempt (wpAny_callSpecial?_slot (name:=cY "__next__") O slot_setit_next (af slot_setit_next O Kp ?_ (qq _))));unfold Builtin.«set_iterator.__next__» slotArgs;show aF _ _ (fieldsOf (.ref it)>>=_) _ _ _;refine aD (wpAny_fieldsOf j rfl ?_);show aF _ _ (setEntries a>>=_) _ _ _;refine aD (Q3d x S ?_);rw[bV (by simp)];cases ys with
|none=>
  cases J;show aF _ _ (setNext a (Uf w t es.size:Int).toNat (es.size:Int).toNat (ep:Int).toNat>>=_) _ _ _;rw[bw,bw,bw];refine aD (Qk0 x S g (hn rfl) (O6 _) ?_);have e0:(Q7h w a ep es)[es.size]?=zl:=ce (by rw[Qfv];exact O6 _);rw[e0];show aF _ _ (setField (.ref it) 2 .none>>=_) _ _ _;refine aD (bP j (by simp) λh1 Y z=>?_)
  exact Q5r (s:=s) I z.extBut U
|some q=>
  obtain⟨tp,l⟩:=q;obtain⟨rfl,Z⟩:=J;obtain⟨hl,a1⟩:=hp tp l rfl;have hz:l[es.size]?=zl:=dE (by rw[hl.length_eq,F9];exact O6 _);show aF _ _ (seqItems? (.ref tp)>>=_) _ _ _;refine aD (bD Z rfl ?_);show aF _ _ (match ((l.map λ(i:Nat)=>aU i).toArray)[(es.size:Int).toNat]? with|some (.int place _)=>_|some _=>_|none=>_) _ _ _
  rw[bw,ig,D8,hz];show aF _ _ (setField (.ref it) 0 (aU 0)>>=_) _ _ _;refine aD (bP j (by simp) λh1 Y z=>?_)
  refine aD (bP (s:={s with heap:=h1}) Y (by simp) λh2 o2 G=>?_)
  exact Q5r (s:=s) I (z.trans G).extBut U
def Q8b(it a:aB)(ys:Option (aB×List Nat)):List aB:=match ys with
|none=>[it,a]
|some (tp,_)=>[it,a,tp]
def Qf2{es:zAB}{t:aW}(hh:A.handled=zl)(j:a≠it)(U:t.fits es.size=zb)(g:Good (byT w) t)(Z:ys=zl->drw w es.size t=yo)(O:∀tp l,ys=zo (tp,l)->l.Perm (ba es.size)/\tp≠it):
  Walks prog w A it (Q8b it a ys) [it] es.size (λi v=>∃e,(Q5b w a ep es ys)[i]?=zo e/\v=e.2) (λi h=>RawS h a es ep t/\∃f,SetIt h it f i a es.size ep/\xq w t h ys i f) where
 sub:=λb G=>by
  have:b=it:=by simpa using G
  subst this;unfold Q8b;cases ys<;>simp
 frame:=λi h h' st S=>by
  obtain⟨x,f,h1,h2⟩:=st;have m1:it∈Q8b it a ys:=by unfold Q8b;cases ys<;>simp
  have m2:a∈Q8b it a ys:=by unfold Q8b;cases ys<;>simp
  refine⟨x.at λo e=>S a m2 o e,f,h1.at λo e=>S it m1 o e,?_⟩;cases ys with
  |none=>exact h2
  |some q=>exact⟨h2.1,S q.1 (by unfold Q8b;simp) _ h2.2⟩
 item:=λi s Q E hi st J=>by
  obtain⟨x,f,h1,h2⟩:=st;have hl:(Q5b w a ep es ys).length=es.size:=by
   have:=(Q11 (w:=w) (a:=a) (ep:=ep) (es:=es) (ys:=ys) λtp l z=>(O tp l z).1).length_eq
   simpa using this
  have I:i<(Q5b w a ep es ys).length:=by omega
  refine Qi6 j h1 x U g h2 Z O (e:=(Q5b w a ep es ys)[i].1) (v:=(Q5b w a ep es ys)[i].2) (O2 I) λf' h' i1 i2 Y=>?_
  exact J _ h' s.toks ⟨_,O2 I,rfl⟩ ⟨x.at λo e=>(Y.2 a j).trans e,f',i1,i2⟩ λb o G e=>Y.extBut b o (λz=>G (by simp[z])) e
 done:=λs Q E st J=>by
  obtain⟨x,f,h1,h2⟩:=st;exact Qpd hh h1 x U g h2 Z O λh' k=>J h' s.toks λb o G e=>k b o (λz=>G (by simp[z])) e
 self:=λi s Q E st J=>by
  obtain⟨x,f,h1,h2⟩:=st;exact Q79 h1 J
def Qm5{Q:Bool->aC->Prop}(q:s.TypeIs (.ref r) "set")(h:Q yo s):aF (aI prog w) A (Builtin.List.listLengthHint (.ref r)) Q E s:=by
 unfold Builtin.List.listLengthHint;refine aD (wpAny_specialOf q PySem.F.slot_set_len.lookup ?_);generalize hid:("set.__len__":String)=j
 wp_delta
 rw[show splitId j=zo ("set","__len__")from by subst hid;decide +kernel];subst hid;refine aD (bK (T:="set") (b:=zb) q (by rw[bO];kernel_rfl) ?_);refine bC (λz=>absurd z (by decide)) (λ_=>?_)
 refine bC (λ_=>?_) (λz=>absurd (by decide +kernel) z)
 exact aD (bG q (wpAny_pure h))
end
section
variable{w:aJ}
def Qrx{R:Result->aC->Prop}{es:zAB}{t:aW}(hh:A.handled=zl)(x:RawS s.heap r es ep t)(hf:t.fits es.size=zb)(g:Good (byT w) t)S(Y:S≠r)res a4(hS:s.heap.get? S=zo {cls:=.type "list",data:=.seq #[] a4})(hR:∀h' d' tk(acc:Array aA)c',acc.toList.Perm (es.toList.map (·.2))->(∀b o,b≠S->s.heap.get? b=zo o->h'.get? b=zo o)->h'.get? S=zo {cls:=.type "list",dict:=zl,data:=.seq acc c',slots:=#[]}->R (.ok (.ret res)) {s with heap:=h',drawn:=d',toks:=tk})(hn:es.size<=sizeLine):
  aF (aI prog w) A.in1 (Builtin.List.listExtendWith (.ref S) (.ref r) res)
   (λfin s'=>match fin with|.done f=>R (.ok f) s' |.again c'=>c'.quiet=zb/\codeAny (aI prog w) A c' R s') (λe s'=>R (.error e) s') s:=by
 have Z:=D0 hS;have a7:∀(ys:Option (aB×List Nat))(I:aB)(h:Heap)(d':Drawn)(G tk:Nat),s.heap.objs.size<=I->(ys=zl->drw w es.size t=yo)->(∀tp l,ys=zo (tp,l)->l.Perm (ba es.size)/\tp≠I/\s.heap.objs.size<=tp)->
   RawS h r es ep t->(∃f,SetIt h I f 0 r es.size ep/\xq w t h ys 0 f)->(∀b o,b≠S->s.heap.get? b=zo o->h.get? b=zo o)->
   h.get? S=zo {cls:=.type "list",data:=.seq #[] G}->codeAny (aI prog w) A (.builtin "list.extend.loop" ⟨[.ref S,.ref I,res],[]⟩) R {s with heap:=h,drawn:=d',toks:=tk}:=by
  intro ys I h d' G tk hI a2 j hx a1 hk a5;have a6:S≠I:=F0 (D5 Z hI);have a9:r≠I:=F0 (D5 x.lt hI);have W:=Qf2 (prog:=prog) (A:=A.in1) (it:=I) (a:=r) (es:=es) (ep:=ep) (t:=t) (ys:=ys) (by simpa using hh) a9 hf g a2 λtp l z=>⟨(j tp l z).1,(j tp l z).2.1⟩
  have b0:S∉Q8b I r ys:=by
   unfold Q8b;cases ys with
   |none=>simp only[D7,dR,or_false,not_or];exact⟨a6,Y⟩
   |some q=>simp only[D7,dR,or_false,not_or];exact⟨a6,Y,F0 (D5 Z (j q.1 q.2 rfl).2.2)⟩
  refine codeAny_extend_loopS W.toS hn S b0 res es.size 0 _ #[] G rfl (G8 _) ⟨hx,a1⟩ a5 (ItemsOf.nil _) λs' acc c' hm a8 J=>?_
  rw[Moved.eq_with hm];have pm:=Q11 (w:=w) (a:=r) (ep:=ep) (es:=es) (ys:=ys) λtp l z=>(j tp l z).1
  have hl:=pm.length_eq;simp only[bj]at hl;have e:acc.toList=(Q5b w r ep es ys).map (·.2):=by
   apply cf;intro i
   by_cases z:i<es.size
   ·have hi:i<acc.size:=by rw[J.1];exact z
    obtain⟨e,h1,h2⟩:=J.2 i acc[i] (bp hi);rw[bn,bp hi,h2,D8,h1];rfl
   ·rw[bn,ce (by rw[J.1];omega),D8,dE ()];rfl
  refine hR s'.heap d' s'.toks acc c' (by rw[e];exact pm.map _) (λb o hb q=>hm.heap b o (λO=>?_) (hk b o hb q)) a8
  rcases D7.mp O with z|O
  ·exact hb z
  ·have:=D0 q;rw[List.mem_singleton.mp O]at this;exact absurd (D5 this hI) (N1 _)
 have a3:∀(bf:Bool->Bool)(ys:Option (aB×List Nat))(I:aB)(h:Heap)(d':Drawn),s.heap.objs.size<=I->(ys=zl->drw w es.size t=yo)->(∀tp l,ys=zo (tp,l)->l.Perm (ba es.size)/\tp≠I/\s.heap.objs.size<=tp)->
   RawS h r es ep t->(∃f,SetIt h I f 0 r es.size ep/\xq w t h ys 0 f)->(∀b o,s.heap.get? b=zo o->h.get? b=zo o)->
   aF (aI prog w) A.in1 (do
     let room<-av [.ref I] (Builtin.List.listLengthHint (.ref r))
     if bf room then
      rule "list.extend.makes-room"
      Builtin.List.listTouch (.ref S)
     again (.builtin "list.extend.loop" ⟨[.ref S,.ref I,res],[]⟩))
    (λfin s'=>match fin with|.done f=>R (.ok f) s' |.again c'=>c'.quiet=zb/\codeAny (aI prog w) A c' R s') (λe s'=>R (.error e) s') {s with heap:=h,drawn:=d'}:=by
  intro bf ys I h d' hI a2 j hx a1 hk;refine aD (ae (Qm5 (s:={s with heap:=h,drawn:=d'}) hx.typeIs ?_));refine bC (λ_=>?_) (λ_=>wpAny_pure ⟨bH ii _,a7 ys I h d' a4 s.toks hI a2 j hx a1 (λb o _ q=>hk b o q) (hk _ _ hS)⟩);refine aD (bQ (aD ?_));show aF _ _ (updateSeq S (·.push .none)>>=λ_=>updateSeq S (·.pop)) _ _ _
  have s1:=hk _ _ hS;refine aD (wpAny_updateSeq (s:={s with heap:=h,drawn:=d'}) s1 rfl ?_);have s2:=G7 (bx (·.push bi)) s1 rfl;refine wpAny_updateSeq (hz:=by seq_fits) s2 rfl ?_;have s3:=G7 (bx (·.pop)) s2 rfl;have U:∀b o,b≠S->h.get? b=zo o->((h.update S (bx (·.push bi))).update S (bx (·.pop))).get? b=zo o:=λb o hb q=>(F6 _ _ (Ne.symm hb)).trans ((F6 _ _ (Ne.symm hb)).trans q)
  have nI:I≠S:=cC (D5 Z hI);refine wpAny_pure ⟨bH ii _,a7 ys I _ d' _ s.toks hI a2 j (hx.at λo q=>U r o (Ne.symm Y) q) ?_ (λb o hb q=>U b o hb (hk b o q)) s3⟩;obtain⟨f,i1,i2⟩:=a1;refine⟨f,i1.at λo q=>U I o nI q,?_⟩;cases ys with
  |none=>exact i2
  |some q=>exact⟨i2.1,U q.1 _ (cC (D5 Z (j q.1 q.2 rfl).2.2)) i2.2⟩
 unfold Builtin.List.listExtendWith;refine aD (bG (T:="set") x.typeIs ?_);have h1:Builtin.List.listSameRef (.ref S) (.ref r)=yo:=by simp[Builtin.List.listSameRef,Y]
 have e1:(bu "set"==bu "list")=yo:=by decide
 have e2:(bu "set"==bu "tuple")=yo:=by decide
 simp only[h1,e1,e2,dM,F5,if_false];refine aD (Qi5 x hf hn (λz=>?_) λz ys d' hp=>?_)
 ·exact a3 _ zl s.heap.objs.size (s.heap.push {cls:=.type "set_iterator",data:=.fields #[aU 0,aU 0,.ref r,aU es.size,aU ep]}) s.drawn (O6 _) (λ_=>z) (λ_ _ q=>nomatch q) (x.at λo q=>O4 _ q) ⟨_,D4 _ rfl,by unfold xq Uf;simp⟩ (λb o q=>O4 _ q)
 ·have hz:s.heap.objs.size+1=(s.heap.push {cls:=.type "tuple",data:=.seq (ys.map λ(i:Nat)=>aU i).toArray}).objs.size:=(L6 _ _).symm
  exact a3 _ (zo (s.heap.objs.size,ys)) (s.heap.objs.size+1) ((s.heap.push {cls:=.type "tuple",data:=.seq (ys.map λ(i:Nat)=>aU i).toArray}).push {cls:=.type "set_iterator",data:=.fields #[.ref s.heap.objs.size,aU 0,.ref r,aU es.size,aU ep]}) d' (cz _) (λq=>nomatch q)
   (λtp l q=>by cases q;exact⟨hp,F0 (dP _),O6 _⟩) (x.at λo q=>O4 _ (O4 _ q)) ⟨.ref s.heap.objs.size,by rw[hz];exact D4 _ rfl,rfl,O4 _ (D4 _ rfl)⟩ (λb o q=>O4 _ (O4 _ q))
def Qax{es:zAB}{t:aW}{Q:List aA->aC->Prop}(J:A.handled=zl)(x:RawS s.heap d es ep t)(U:t.fits es.size=zb)(g:Good (byT w) t)(Y:es.size<=sizeLine)(h:∀vs h' d' tk,vs.Perm (es.toList.map (·.2))->(∀b o,s.heap.get? b=zo o->h'.get? b=zo o)->s.heap.objs.size<=h'.objs.size->Q vs {s with heap:=h',drawn:=d',toks:=tk}):aF (aI prog w) A (collect (.ref d)) Q E s:=by
 unfold collect;refine aD (wpAny_runValue (bA iW ?_));rw[Around.under_plainId iX _];show aF _ A.in1 (newList []>>=λl=>again (.builtin "list.__iadd__" ⟨[l,.ref d],[]⟩)) _ _ s
 refine aD (au ?_);refine wpAny_pure ⟨bH eR _,bA iY ?_⟩;rw[Around.under_plainId eR _];have O:(s.heap.push {cls:=.type "list",data:=.seq ([]:List aA).toArray}).get? s.heap.objs.size=zo {cls:=.type "list",data:=.seq ([]:List aA).toArray}:=D4 _ rfl;have z:∀b o,s.heap.get? b=zo o->(s.heap.push {cls:=.type "list",data:=.seq ([]:List aA).toArray}).get? b=zo o:=λb o e=>O4 _ e
 have G:s.heap.objs.size≠d:=cC x.lt;show aF _ A.in1 (Builtin.List.listExtendWith (.ref s.heap.objs.size) (.ref d) (.ref s.heap.objs.size)) _ _ _;refine Qrx (prog:=prog) (w:=w) (A:=A) (R:=λr s'=>match r with|.ok (.ret v)=>aF (aI prog w) A (match v with|.ref a=>do {let o<-load a;match o.data with|.seq xs _=>pure xs.toList|_=>unsupported "internal:collect"}|_=>unsupported "internal:collect") Q E s' |.ok _=>False|.error e=>E e s') (s:={s with heap:=s.heap.push {cls:=.type "list",data:=.seq ([]:List aA).toArray}}) J (x.at λo e=>z d o e) U g s.heap.objs.size G _ _ O (λh' d' tk acc c I S j=>?_) Y
 show aF _ A (load s.heap.objs.size>>=_) _ _ _;refine aD (wpAny_load j ?_);exact wpAny_pure (h _ h' d' tk I (λb o q=>S b o (F0 (D0 q)) (z b o q)) (dH (D0 j)))
end
def Inv.redraw{σ:List (Option V)}(I:Inv X pins σ H s)d':Inv X pins σ H {s with drawn:=d'}:=⟨I.ok,I.os,I.bare,I.base,I.loc,I.cell,I.free,I.freeC,I.pin,I.hok,I.len⟩
def Qfw:OpR X (aV .LtE) (λx y H Q=>∃i j,x=.str i/\y=.str j/\Q (.bl (!decide (j.cps.toList<i.cps.toList))) H):=by
 intro pins s σ H x y v u Q I z G h;obtain⟨i,j,rfl,rfl,q⟩:=h;obtain⟨t,rfl⟩:=z;obtain⟨t',rfl⟩:=G;exact PySem.P.le_str (Zn I q rfl)
def Qwq(x:Str):It:=⟨λi _=>i<x.cps.size,λi H v H'=>H'=H/\∃c,x.cps[i]?=zo c/\v=.str ⟨#[c]⟩,λi _=>x.cps.size<=i⟩
def Q5k(h:A.handled=zl)I(x:Str)t:Walks prog w A I [I] [I] x.cps.size (SignAt x) λi h=>h.IsStrIter I (strIterType x) x t i:=by
 unfold strIterType
 split
 ·exact Walks.strAscii h I x t
 ·exact Walks.strWide h I x t
def Q6e x:strIterType x="str_ascii_iterator"\/strIterType x="str_iterator":=by
 unfold strIterType
 split
 ·exact .inl rfl
 ·exact .inr rfl
def Qhh{P:aK}{w:aJ}{K:bZ}{tg:aH}(x:Str)(t:Tok)(it:aB):Turn P w K tg (Qwq x) [it] it (λi h=>h.IsStrIter it (strIterType x) x t i/\i<=x.cps.size) where
 mem:=by simp
 obj:=λi h st b j=>by
  have e:b=it:=by simpa using j
  subst e;obtain⟨o,e,c,d⟩:=st.1;exact⟨o,e,λv z=>by rw[d]at z;cases z⟩
 keep:=λi h h' st k=>by
  obtain⟨⟨o,e,c,d⟩,hi⟩:=st;exact⟨⟨o,k it (by simp) o e,c,d⟩,hi⟩
 item:=by
  intro X hP hw Z U i pins s σ H E I G st J;subst hP hw Z;obtain⟨f0,Y,f2,S,f4,O⟩:=G it (by simp);have W:=Q5k (prog:=X.prog) (w:=X.w) (I.ok.hd U) it x t;refine W.item i s _ _ J st.1 λv h' tk hv st' kk=>?_
  obtain⟨c,u,a1,rfl⟩:=hv;have I1:Inv X pins σ H {s with heap:=h',toks:=tk}:=I.turned (λb o j e=>kk b o (by simpa using j) e) f0 Y S f4 O
  obtain⟨o,e1,e2,e3⟩:=st';refine⟨_,rfl,Qak (s:={s with heap:=h',toks:=tk}) (n:=strIterType x) e1 e2 e3 ?_ ⟨.str ⟨#[c]⟩,H,I1,⟨u,rfl⟩,⟨rfl,c,a1,rfl⟩,⟨⟨o,e1,e2,e3⟩,J⟩,λb j=>(G b j).1⟩⟩
  rcases Q6e x with q|q<;>rw[q]<;>decide
 done:=by
  intro X hP hw Z U i pins s σ H E I G st J;subst hP hw Z;obtain⟨f0,Y,f2,S,f4,O⟩:=G it (by simp);have W:=Q5k (prog:=X.prog) (w:=X.w) (I.ok.hd U) it x t;have e:i=x.cps.size:=Nat.le_antisymm st.2 J;subst e;exact W.done s _ _ st.1 λh' tk kk=>⟨rfl,I.turned (λb o j e=>kk b o (by simpa using j) e) f0 Y S f4 O⟩
 self:=λA i s Q E st h=>by
  obtain⟨st,_⟩:=st;revert st;rcases Q6e x with q|q<;>rw[q]<;>intro st
  ·exact wpAny_pyIter_striter_ascii st h
  ·exact wpAny_pyIter_striter_wide st h
def J26(tl:TE):TI:=λσ H R=>tl σ H λv H1=>∃x,v=.str x/\R (Qwq x) H1
def Quc{l:aH}{tl:TE}(J:PE X l tl):PI X tg l (J26 tl):=by
 intro pins s σ H R I h;refine thn (J pins s σ H _ I h) λv s1 ⟨z,H1,j,O,S⟩=>?_
 obtain⟨x,e,q⟩:=S;subst e;obtain⟨t,rfl⟩:=O;refine wpAny_pyIter_strU ?_;refine⟨s1.heap.objs.size,[s1.heap.objs.size],_,_,H1,rfl,j.kept (t':=s1.toks) λb o e=>O4 _ e,Qhh x t _,⟨⟨_,D4 _ rfl,rfl,rfl⟩,G8 _⟩,λb G=>?_,q⟩
 have e:b=s1.heap.objs.size:=by simpa using G
 subst e;exact j.fpOk (O6 _) (j.hok.fresh (O6 _))
def Qdg:∀{ss:List Str}{j:List aA},Vals (ss.map V.str) j->∃l:List (Str×Tok),j=strValues l/\l.map (·.1)=ss
|[],_,.nil=>⟨[],rfl,rfl⟩
|s::ss,_,.cons r t=>by
  obtain⟨l,z,q⟩:=Qdg t;obtain⟨tk,rfl⟩:=r;exact⟨(s,tk)::l,by rw[z];rfl,by rw[D3,q]⟩
def Qqr:MtR X "str.join" (λx vs H Q=>∃j p ss,x=.str j/\vs=[.ref p]/\SqL X.K H p (ss.map V.str)/\JoinOk j ss=zb/\Q (.str (Txt.join j ss)) H):=by
 intro pins s σ H x vs v Z Q I O S h;obtain⟨j,p,ss,rfl,rfl,Y,hz,q⟩:=h;obtain⟨t,rfl⟩:=O;obtain⟨u,rfl,ru⟩:=S.one;cases ru;obtain⟨its,G,U,_⟩:=I.list Y;obtain⟨l,z,J⟩:=Qdg G;subst z;exact SC.join U.isList J hz λt' k=>⟨.str _,H,I.tok _,⟨_,rfl⟩,q⟩
def xn(M:Nat)(p:SetTable.Probe):SetTable.Probe:=
 if p.more>0 then {j:=p.j+1,more:=p.more-1,i:=p.i,perturb:=p.perturb,dummy:=p.dummy}
 else {j:=(SetTable.leap M p.i p.perturb).1,more:=SetTable.runEnd M (SetTable.leap M p.i p.perturb).1-(SetTable.leap M p.i p.perturb).1,i:=(SetTable.leap M p.i p.perturb).1,perturb:=(SetTable.leap M p.i p.perturb).2,dummy:=p.dummy}
def Q54(t:aW)(p:SetTable.Probe):t.advance p=xn t.mask p:=by
 unfold SetTable.advance xn
 split<;>rfl
def Qm8(M:Nat)(q:Nat×Nat):SetTable.Probe:={j:=q.1,more:=SetTable.runEnd M q.1-q.1,i:=q.1,perturb:=q.2,dummy:=zl}
def lpP(M:Nat)(h:Int):Nat->Nat×Nat
|0=>(SetTable.bits h%(M+1),SetTable.bits h)
|m+1=>SetTable.leap M (lpP M h m).1 (lpP M h m).2
def pth(M:Nat)(h:Int):Nat->SetTable.Probe
|0=>Qm8 M (lpP M h 0)
|n+1=>xn M (pth M h n)
def J8(M:Nat)(h:Int)(n:Nat):Nat:=(pth M h n).j
def Q5z M h:∀n,(pth M h n).dummy=zl
|0=>rfl
|n+1=>by
  have:=Q5z M h n;show(xn M (pth M h n)).dummy=zl;unfold xn
  split<;>exact this
def Qea M i p:(SetTable.leap M i p).1<=M:=by
 show(i*5+1+p/32)%(M+1)<=M;exact eW (eV _ (ij _))
def Q7w M h:∀m,(lpP M h m).1<=M
|0=>eW (eV _ (ij _))
|m+1=>Qea _ _ _
def z9(h:i<=M):SetTable.runEnd M i<=M/\i<=SetTable.runEnd M i/\SetTable.runEnd M i<=i+9:=by
 unfold SetTable.runEnd
 split<;>omega
def Qix M h:∀n,(pth M h n).j+(pth M h n).more<=M
|0=>by
  have:=z9 (Q7w M h 0);show(lpP M h 0).1+(SetTable.runEnd M (lpP M h 0).1-(lpP M h 0).1)<=M;omega
|n+1=>by
  have q:=Qix M h n;show(xn M (pth M h n)).j+(xn M (pth M h n)).more<=M;unfold xn
  split
  ·dsimp only;omega
  ·dsimp only;have:=z9 (Qea M (pth M h n).i (pth M h n).perturb);omega
def Qq0 M h n:J8 M h n<=M:=by
 have:=Qix M h n;unfold J8;omega
def Q7b{q:Nat×Nat}(e:pth M h n=Qm8 M q):∀k,k<=SetTable.runEnd M q.1-q.1->pth M h (n+k)={j:=q.1+k,more:=SetTable.runEnd M q.1-q.1-k,i:=q.1,perturb:=q.2,dummy:=zl}
|0,_=>e
|k+1,z=>by
  show xn M (pth M h (n+k))=_;rw[Q7b e k ()];unfold xn;dsimp only;rw[bU ()];congr 1
def Qdt M h:∀m,∃n,n<=10*m/\pth M h n=Qm8 M (lpP M h m)
|0=>⟨0,by omega,rfl⟩
|m+1=>by
  obtain⟨n,j,e⟩:=Qdt M h m;have b:=z9 (Q7w M h m);refine⟨n+(SetTable.runEnd M (lpP M h m).1-(lpP M h m).1)+1,by omega,?_⟩;show xn M (pth M h (n+_))=_;rw[Q7b e _ (O6 _)];unfold xn;dsimp only;rw[bV ()];rfl
def itF(M:Nat):Nat->Nat->Nat
|0,i=>i
|n+1,i=>itF M n ((i*5+1)%(M+1))
def Q0h M:∀a b i,itF M (a+b) i=itF M b (itF M a i)
|0,b,i=>by rw[gC];rfl
|a+1,b,i=>by rw[Nat.succ_add];exact Q0h M a b _
def orb(M:Nat):Nat->Nat->List Nat
|0,_=>[]
|k+1,i=>i::orb M k ((i*5+1)%(M+1))
def Q7i:∀{k i j:Nat},j∈orb M k i->∃n,n<k/\itF M n i=j
|k+1,i,j,h=>by
  rcases D7.mp h with rfl|h
  ·exact⟨0,by omega,rfl⟩
  ·obtain⟨n,q,e⟩:=Q7i h;exact⟨n+1,by omega,e⟩
def HM(M:Nat):Prop:=M=7\/M=31\/M=127
def Qqg(q:HM M):(∀j,j<M+1->j∈orb M (M+1) 0)/\itF M (M+1) 0=0:=by
 rcases q with rfl|rfl|rfl
 ·exact⟨by decide +kernel,by decide +kernel⟩
 ·exact⟨by decide +kernel,by decide +kernel⟩
 ·exact⟨by decide +kernel,by decide +kernel⟩
def Qvx(J:HM M)(hi:i<=M)(U:j<=M):∃n,n<M+1/\itF M n i=j:=by
 obtain⟨o,z⟩:=Qqg J;obtain⟨a,S,I⟩:=Q7i (o i ());obtain⟨b,O,G⟩:=Q7i (o j ())
 by_cases q:a<=b
 ·refine⟨b-a,by omega,?_⟩;rw[<- I,<- Q0h,show a+(b-a)=b by omega,G]
 ·refine⟨M+1-a+b,by omega,?_⟩;rw[<- I,<- Q0h,show a+(M+1-a+b)=(M+1)+b by omega,Q0h,z,G]
def Qkf M h:∀m,(lpP M h m).2=SetTable.bits h/32^m
|0=>by show SetTable.bits h=_;rw[Nat.pow_zero,Nat.div_one]
|m+1=>by
  show(lpP M h m).2/32=_;rw[Qkf M h m,ik,<- gD]
def Qsa h:SetTable.bits h<2^64:=by
 unfold SetTable.bits;have h1:(0:Int)<2^64:=by decide
 have:=gE h h1;have:=gF h (show(2:Int)^64≠0 by decide);omega
def Qz8 M h:∀n,(lpP M h (12+n)).1=itF M n (lpP M h 12).1:=by
 have step:∀m,12<=m->(lpP M h (m+1)).1=((lpP M h m).1*5+1)%(M+1):=λm hm=>by
  show((lpP M h m).1*5+1+(lpP M h m).2/32)%(M+1)=_;have:(lpP M h m).2/32=0:=by
   rw[Qkf,ik,<- gD];refine Nat.div_eq_of_lt (D5 (Qsa h) ?_);exact E8 (show 2^64<=32^13 by decide) (Nat.pow_le_pow_right (by decide) ())
  rw[this,il]
 have j:∀n i,itF M (n+1) i=(itF M n i*5+1)%(M+1):=λn i=>Q0h M n 1 i
 intro n
 induction n with
|zero=>rfl
|succ n q=>rw[j,<- q];exact step (12+n) ()
def Qab(q:HM M)h(z:j<=M):∃m,m<M+13/\(lpP M h m).1=j:=by
 obtain⟨n,G,e⟩:=Qvx q (Q7w M h 12) z;exact⟨12+n,by omega,by rw[Qz8,e]⟩
def Qfr(q:HM M)h(z:j<=M):∃n,n<=10*(M+12)/\J8 M h n=j:=by
 obtain⟨m,hm,e⟩:=Qab q h z;obtain⟨n,G,en⟩:=Qdt M h m;exact⟨n,by omega,by unfold J8;rw[en];exact e⟩
def Qcp(Z:HM M)h(G:Nat->Prop)(hj:j<=M)(S:¬G j):∃N,N<=10*(M+12)/\¬G (J8 M h N)/\∀m,m<N->G (J8 M h m):=by
 obtain⟨n,O,e⟩:=Qfr Z h hj;have I:∀n,¬G (J8 M h n)->∃N,N<=n/\¬G (J8 M h N)/\∀m,m<N->G (J8 M h m):=by
  intro n
  induction n using im with
  |ind n Y=>
   intro O
   by_cases q:∃m,m<n/\¬G (J8 M h m)
   ·obtain⟨m,hm,U⟩:=q;obtain⟨N,h1,h2,J⟩:=Y m hm U;exact⟨N,by omega,h2,J⟩
   ·refine⟨n,O6 _,O,λm hm=>?_⟩;exact Classical.byContradiction λz=>q ⟨m,hm,z⟩
 obtain⟨N,h1,h2,J⟩:=I n (by rw[e];exact S);exact⟨N,by omega,h2,J⟩
def Kf{t:aW}(r:Rise t.place)(hi:t.place[i]?=zo j):t.slot j=.live i:=by
 obtain⟨I,b⟩:=jx (j:=j) r;have n1:¬i<SetTable.below t.place j:=λz=>by have:=(b i j hi).mp z;omega
 have G:=(cA.mp hi).1;have e:SetTable.below t.place j=i:=by
  by_cases z:SetTable.below t.place j<i
  ·have q:SetTable.below t.place j<t.place.size:=by omega
   have l:=r.lt (bp q) hi z;have:=(b _ _ (bp q)).mpr l;omega
  ·omega
 unfold SetTable.slot;dsimp only;rw[e,hi];simp
def Qfc{t:aW}(hd:t.dummies=#[])(h:j∉t.place.toList):t.slot j=.empty:=by
 unfold SetTable.slot SetTable.has;dsimp only;rw[hd];have:¬(t.place[SetTable.below t.place j]?==zo j)=zb:=λz=>by
  have z:=eq_of_beq z;rw[<- bn]at z;exact h (E6 z)
 rw[bV this];simp
def Qj7{t:aW}(g:Good L t)(hashAt:Nat->Int)h(hN:J8 t.mask h N∉t.place.toList)(hl:∀m,m<N->J8 t.mask h m∈t.place.toList):∀j n,n<=N->N-n<j->
  (SetTable.probe.go t hashAt h j (pth t.mask h n)=zo (.empty (J8 t.mask h N) zl)/\∀m,n<=m->m<N->∀i,t.place[i]?=zo (J8 t.mask h m)->hashAt i≠h)\/
  (∃m i,n<=m/\m<N/\t.place[i]?=zo (J8 t.mask h m)/\hashAt i=h/\SetTable.probe.go t hashAt h j (pth t.mask h n)=zo (.candidate (J8 t.mask h m) i (pth t.mask h (m+1)))/\∀J,n<=J->J<m->∀i,t.place[i]?=zo (J8 t.mask h J)->hashAt i≠h):=by
 intro j
 induction j with
|zero=>intro n _ h2;omega
|succ j ih=>
  intro n h1 h2;rw[SetTable.probe.go]
  by_cases e:n=N
  ·subst e
   left
   have:=Qfc g.2.1 hN;unfold J8 at this ⊢;rw[this,Q5z];exact⟨rfl,λm Y S=>by omega⟩
  ·have hm:=hl n ();obtain⟨i,hi,ei⟩:=L8 hm;have Z:t.place[i]?=zo (J8 t.mask h n):=by rw[<- bn,O2 hi,ei]
   have hs:=Kf g.1 Z;have uq:∀I,t.place[I]?=zo (J8 t.mask h n)->I=i:=λI G=>by
    have:=Kf g.1 G;rw[hs]at this;cases this;rfl
   unfold J8 at hs;rw[hs];dsimp only
   by_cases q:hashAt i=h
   ·right
    refine⟨n,i,O6 _,by omega,Z,q,?_,λJ Y S=>by omega⟩;rw[bU (by simp[q]),Q54];rfl
   ·rw[bV (by simp[q]),Q54];have ad:xn t.mask (pth t.mask h n)=pth t.mask h (n+1):=rfl;rw[ad];rcases ih (n+1) () ()with⟨a1,U⟩|⟨m,I,a1,U,a3,a4,a5,a6⟩
    ·left
     refine⟨a1,λm Y S I G=>?_⟩
     by_cases z:m=n
     ·subst z;rw[uq I G];exact q
     ·exact U m () S I G
    ·right
     refine⟨m,I,by omega,U,a3,a4,a5,λJ Y S i2 O=>?_⟩
     by_cases z:J=n
     ·subst z;rw[uq i2 O];exact q
     ·exact a6 J () S i2 O
def Rch(M:Nat)(occ:Nat->Prop)(h:Int)(j:Nat):Prop:=∃n,J8 M h n=j/\∀m,m<n->occ (J8 M h m)
def Rch.mono{z q:Nat->Prop}(r:Rch M z h j)(k:∀x,z x->q x):Rch M q h j:=let ⟨n,e,f⟩:=r;⟨n,e,λm hm=>k _ (f m hm)⟩
def SzM(M n:Nat):Prop:=M=7/\n<=4\/M=31/\n<=18\/M=127/\n<=76
def SzP(M n:Nat):Prop:=M=7/\n<=5\/M=31/\n<=19\/M=127/\n<=76
def SzM.hm(s:SzM M n):HM M:=s.imp And.left (Or.imp And.left And.left)
structure HG0(L:Bool)(t:aW)(hs:List Int):Prop where
good:Good L t
len:t.place.size=hs.length
le:∀j,j∈t.place.toList->j<=t.mask
rch:∀(i j:Nat)(h:Int),t.place[i]?=zo j->hs[i]?=zo h->Rch t.mask (·∈t.place.toList) h j
structure HG(L:Bool)(t:aW)(hs:List Int):Prop extends HG0 L t hs where
sz:SzM t.mask hs.length
def HG.fits{t:aW}{hs:List Int}(g:HG L t hs):t.fits hs.length=zb:=by
 unfold SetTable.fits SetTable.fill;rw[g.good.2.1,g.len];have:=g.sz;unfold SzM at this;simp;omega
def Qdp:∀n(l:List Nat),l.length<n->∃j,j<n/\j∉l
|0,l,h=>by omega
|n+1,l,h=>by
  by_cases q:n∈l
  ·have G:0<l.length:=io q;obtain⟨j,h1,h2⟩:=Qdp n (l.erase n) (by rw[ip q];omega);exact⟨j,by omega,λz=>h2 ((iq ()).mpr z)⟩
  ·exact⟨n,by omega,q⟩
def HG.free{t:aW}(g:HG L t hs)h:∃N,N<=10*(t.mask+12)/\J8 t.mask h N∉t.place.toList/\∀m,m<N->J8 t.mask h m∈t.place.toList:=by
 have sz:=g.sz;unfold SzM at sz;obtain⟨j,h1,h2⟩:=Qdp (t.mask+1) t.place.toList (by rw[bj,g.len];omega);exact Qcp g.sz.hm h (·∈t.place.toList) (eW h1) h2
def Qmf L:HG L (.fresh 0 0 L) [] where
 good:=⟨fi,rfl,rfl⟩
 len:=rfl
 le:=λj h=>by cases h
 rch:=λi j h e=>by simp[SetTable.fresh]at e
 sz:=.inl ⟨rfl,by simp⟩
def HG.put{t:aW}{hs:List Int}(g:HG L t hs)(U:J8 t.mask h N∉t.place.toList)(Z:∀m,m<N->J8 t.mask h m∈t.place.toList):
  HG0 L (t.put (J8 t.mask h N)).1 (hs.take (SetTable.below t.place (J8 t.mask h N))++h::hs.drop (SetTable.below t.place (J8 t.mask h N))):=by
 generalize Y:J8 t.mask h N=j at U;have b:=(jx (j:=j) g.good.1).1;have gl:=g.len;generalize hp:SetTable.below t.place j=p at b;have ep:(t.put j).1.place.toList=t.place.toList.take p++j::t.place.toList.drop p:=by
  show(SetTable.insertAt t.place (SetTable.below t.place j) j).toList=_;rw[SetTable.toList_insertAt,hp]
 have S:(t.put j).1.mask=t.mask:=rfl;have sub:∀x,x∈t.place.toList->x∈(t.put j).1.place.toList:=λx O=>by
  rw[ep];rw[<- gG p t.place.toList]at O;rcases E9.mp O with q|q
  ·exact E9.mpr (.inl q)
  ·exact E9.mpr (.inr (O3 _ q))
 have tl:(t.place.toList.take p).length=p:=by rw[cN,bj];omega
 have J:(hs.take p).length=p:=by rw[cN];omega
 refine⟨g.good.put U,?_,λx O=>?_,λi x h' G I=>?_⟩
 ·have:(t.put j).1.place.toList.length=hs.length+1:=by
   rw[ep,O5,D6,tl,cx,bj];omega
  rw[<- bj,this,O5,D6,J,cx];omega
 ·rw[S];rw[ep]at O;rcases E9.mp O with q|q
  ·exact g.le x (List.mem_of_mem_take q)
  ·rcases D7.mp q with q|q
   ·rw[q,<- Y];exact Qq0 _ _ _
   ·exact g.le x (ia q)
 ·rw[<- bn,ep]at G;rw[S]
  by_cases q:i<p
  ·rw[O7 (),ir,bU q,bn]at G;rw[O7 (),ir,bU q]at I;exact(g.rch i x h' G I).mono sub
  ·rw[E4 (),tl]at G;rw[E4 (),J]at I
   by_cases z:i=p
   ·subst z;rw[cE]at G I;have G:j=x:=by simpa using G
    have I:h=h':=by simpa using I
    subst G;subst I;exact⟨N,Y,λm hm=>sub _ (Z m hm)⟩
   ·obtain⟨k,rfl⟩:∃k,i=p+1+k:=⟨i-p-1,by omega⟩;rw[show p+1+k-p=k+1 by omega,eX,iu,bn]at G;rw[show p+1+k-p=k+1 by omega,eX,iu]at I;exact(g.rch (p+k) x h' G I).mono sub
def Qrs{owner:Array (Option Nat)}h:∀I m n,pth M h n=Qm8 M (lpP M h m)->(∀G,G<n->∃k,owner[J8 M h G]?=zo (zo k))->owner.size=M+1->
  (∃G,m<=G/\G<m+I/\owner[(lpP M h G).1]?=zo zl)->
  ∃n',SetTable.layClean.free M owner I (lpP M h m).1 (lpP M h m).2=zo (J8 M h n')/\owner[J8 M h n']?=zo zl/\∀G,G<n'->∃k,owner[J8 M h G]?=zo (zo k):=by
 intro I
 induction I with
|zero=>rintro m n _ _ _ ⟨G,h1,h2,_⟩;omega
|succ I ih=>
  intro m n en O hsz a2;rw[SetTable.layClean.free];have a3:=Q7w M h m;have hr:=z9 a3;have J:∀k,k<=SetTable.runEnd M (lpP M h m).1-(lpP M h m).1->J8 M h (n+k)=(lpP M h m).1+k:=λk hk=>by unfold J8;rw[Q7b en k hk]
  cases z:iy (λk=>(owner.getD ((lpP M h m).1+k) (zo 0)).isNone) (ba (SetTable.runEnd M (lpP M h m).1+1-(lpP M h m).1))with
  |some k=>
   dsimp only;have U:=iz z;obtain⟨z0,Y,bs,e1,z2⟩:=List.find?_eq_some_iff_append.mp z;have hk:k<SetTable.runEnd M (lpP M h m).1+1-(lpP M h m).1:=cM.mp (jA z);have ok:∀j,j<k->∃q,owner[(lpP M h m).1+j]?=zo (zo q):=λj a1=>by
    have hm:j∈Y:=by
     have:(ba (SetTable.runEnd M (lpP M h m).1+1-(lpP M h m).1))[j]?=zo j:=by rw[gH ()]
     have a4:Y.length=k:=by
      have q1:(Y++k::bs)[Y.length]?=zo k:=by rw[E4 (O6 _),cE];rfl
      rw[<- e1,gH (by
       have:=congrArg dL e1;rw[F9,O5,D6]at this;omega)]at q1
      cases q1;rfl
     rw[e1,O7 ()]at this;exact E6 this
    have:=z2 j hm;have S:(lpP M h m).1+j<owner.size:=by omega
    simp[dW,S]at this;rw[bp S];cases q:owner[(lpP M h m).1+j]with
    |none=>rw[q]at this;simp at this
    |some v=>exact⟨v,rfl⟩
   have S:(lpP M h m).1+k<owner.size:=by omega
   refine⟨n+k,by rw[J k ()],?_,λG Z=>?_⟩
   ·rw[J k (),bp S];simp[dW,S]at U;rw[U]
   ·by_cases q:G<n
    ·exact O G q
    ·obtain⟨j,rfl⟩:∃j,G=n+j:=⟨G-n,by omega⟩;rw[J j ()];exact ok j ()
  |none=>
   dsimp only;have U:=List.find?_eq_none.mp z;have ok:∀j,j<=SetTable.runEnd M (lpP M h m).1-(lpP M h m).1->∃q,owner[(lpP M h m).1+j]?=zo (zo q):=λj a1=>by
    have:=U j (cM.mpr ());have S:(lpP M h m).1+j<owner.size:=by omega
    simp[dW,S]at this;rw[bp S];cases q:owner[(lpP M h m).1+j]with
    |none=>rw[q]at this;simp at this
    |some v=>exact⟨v,rfl⟩
   have nx:pth M h (n+(SetTable.runEnd M (lpP M h m).1-(lpP M h m).1)+1)=Qm8 M (lpP M h (m+1)):=by
    show xn M (pth M h (n+_))=_;rw[Q7b en _ (O6 _)];unfold xn;dsimp only;rw[bV ()];rfl
   refine ih (m+1) _ nx (λG Z=>?_) hsz ?_
   ·by_cases q:G<n
    ·exact O G q
    ·obtain⟨j,rfl⟩:∃j,G=n+j:=⟨G-n,by omega⟩;rw[J j ()];exact ok j ()
   ·obtain⟨G,h1,h2,h3⟩:=a2;have ne:G≠m:=λe=>by
     subst e;obtain⟨q,hq⟩:=ok 0 ();rw[il,h3]at hq;cases hq
    exact⟨G,by omega,by omega,h3⟩
structure OwnT(M:Nat)(hs:List Int)(owner:Array (Option Nat))(k:Nat):Prop where
sz:owner.size=M+1
cnt:owner.toList.countP eY+k=M+1
inj:∀(i j:Nat)(x:Nat),owner[i]?=zo (zo x)->owner[j]?=zo (zo x)->i=j
lt:∀(i:Nat)(x:Nat),owner[i]?=zo (zo x)->x<k
all:∀x:Nat,x<k->∃i:Nat,owner[i]?=zo (zo x)
rch:∀(i:Nat)(x:Nat)(h:Int),owner[i]?=zo (zo x)->hs[x]?=zo h->Rch M (λ(j:Nat)=>∃y,owner[j]?=zo (zo y)) h i
def Qjq(hM:HM M){owner:Array (Option Nat)}(o:OwnT M hs owner k)(hk:hs[k]?=zo h)(a2:k<M+1):
  ∃j,SetTable.layClean.free M owner (SetTable.turns M) (SetTable.bits h%(M+1)) (SetTable.bits h)=zo j/\OwnT M hs (owner.setIfInBounds j (zo k)) (k+1):=by
 have pos:0<owner.toList.countP eY:=by have:=o.cnt;omega
 obtain⟨v,hv,e⟩:=List.countP_pos_iff.mp pos;obtain⟨j0,U,Y⟩:=L8 hv;have G:owner[j0]?=zo zl:=by
  rw[<- bn,O2 U,Y];cases v with
  |none=>rfl
  |some _=>cases e
 have a1:j0<=M:=by have:=(cA.mp G).1;rw[o.sz]at this;omega
 obtain⟨m',O,S⟩:=Qab hM h a1;obtain⟨Z,e1,J,e3⟩:=Qrs (M:=M) (owner:=owner) h (SetTable.turns M) 0 0 rfl (λm' O=>by omega) o.sz ⟨m',G8 _,by unfold SetTable.turns;omega,by rw[S];exact G⟩;refine⟨J8 M h Z,e1,?_⟩;generalize hj:J8 M h Z=j at J;have hb:=(cA.mp J).1;have g:∀i:Nat,(owner.setIfInBounds j (zo k))[i]?=if j=i then zo (zo k)else owner[i]?:=λi=>by
  rw[Array.getElem?_setIfInBounds]
  by_cases q:j=i
  ·rw[bU q,bU q,bU hb]
  ·rw[bV q,bV q]
 have up:∀x:Nat,(∃y,owner[x]?=zo (zo y))->∃y,(owner.setIfInBounds j (zo k))[x]?=zo (zo y):=λx ⟨y,hy⟩=>by
  rw[g]
  by_cases q:j=x
  ·exact⟨k,by rw[bU q]⟩
  ·exact⟨y,by rw[bV q];exact hy⟩
 refine⟨by rw[Array.size_setIfInBounds];exact o.sz,?_,λa b x h1 h2=>?_,λi x h1=>?_,λx hx=>?_,λi x h' h1 h2=>?_⟩
 ·rw[Array.toList_setIfInBounds];have I:j<owner.toList.length:=by simpa using hb
  have c:=List.countP_set (p:=eY) (l:=owner.toList) (i:=j) (a:=zo k) I;have ej:owner.toList[j]=zl:=by
   have:=J;rw[<- bn,O2 I]at this;exact bt this
  rw[c];simp only[ej];show List.countP eY owner.toList-1+0+(k+1)=M+1;have:=o.cnt;omega
 ·rw[g]at h1 h2
  by_cases q:j=a<;>by_cases z:j=b
  ·omega
  ·rw[bU q]at h1;rw[bV z]at h2;cases h1;have:=o.lt _ _ h2;omega
  ·rw[bV q]at h1;rw[bU z]at h2;cases h2;have:=o.lt _ _ h1;omega
  ·rw[bV q]at h1;rw[bV z]at h2;exact o.inj a b x h1 h2
 ·rw[g]at h1
  by_cases q:j=i
  ·rw[bU q]at h1;cases h1;omega
  ·rw[bV q]at h1;have:=o.lt _ _ h1;omega
 ·by_cases q:x=k
  ·subst q;exact⟨j,by rw[g,bU rfl]⟩
  ·obtain⟨i,hi⟩:=o.all x ();refine⟨i,?_⟩;rw[g,bV]
   ·exact hi
   ·intro z;subst z;rw[J]at hi;cases hi
 ·rw[g]at h1
  by_cases q:j=i
  ·rw[bU q]at h1;cases h1;rw[hk]at h2;cases h2;refine⟨Z,by rw[hj,q],λm hm=>up _ (e3 m hm)⟩
  ·rw[bV q]at h1;exact(o.rch i x h' h1 h2).mono up
def Qqc(Y:HM M)(hs:List Int)(J:hs.length<=M):∃owner,SetTable.layClean M hs.toArray=zo owner/\OwnT M hs owner hs.length:=by
 have z:∀(rest done:List Int)(owner:Array (Option Nat)),done++rest=hs->OwnT M hs owner done.length->
   ∃q,cQ (λ(acc:Option (Array (Option Nat)×Nat)) h=>do
    let __x<-acc
    match __x with
     |(owner,k)=>do
      let j<-SetTable.layClean.free M owner (SetTable.turns M) (SetTable.bits h%(M+1)) (SetTable.bits h)
      pure (owner.setIfInBounds j (zo k),k+1)) (zo (owner,done.length)) rest=zo (q,hs.length)/\OwnT M hs q hs.length:=by
  intro rest
  induction rest with
  |nil=>intro done owner e o;rw[G9]at e;subst e;exact⟨owner,rfl,o⟩
  |cons h rest S=>
   intro done owner e o;have I:hs[done.length]?=zo h:=by rw[<- e,E4 (O6 _),cE];rfl
   have hl:done.length<hs.length:=(O0.mp I).1;obtain⟨j,e1,U⟩:=Qjq Y o I ();obtain⟨q,G,Z⟩:=S (done++[h]) (owner.setIfInBounds j (zo done.length)) (by rw[<- e];simp) (by rw[O5];exact U);refine⟨q,?_,Z⟩;rw[F8];rw[O5]at G;rw[<- G];congr 1;show jB (zo (owner,done.length)) _=_;show jB (SetTable.layClean.free M owner (SetTable.turns M) (SetTable.bits h%(M+1)) (SetTable.bits h)) _=_;rw[e1];rfl
 obtain⟨q,e,o⟩:=z hs [] (Array.replicate (M+1) zl) rfl ⟨by simp,by simp[List.countP_replicate],λi j x h1=>by simp[gI]at h1,λi x h1=>by simp[gI]at h1,λx O=>by simp at O,λi x h h1=>by simp[gI]at h1⟩;refine⟨q,?_,o⟩;unfold SetTable.layClean;rw[<- jC];show Option.map _ (cQ _ (zo (_,([]:List Int).length)) hs)=_;rw[e];rfl
def Qc5{l m:List Nat}(h1:l.Nodup)(h2:m.Nodup)(h:∀a,a∈l<->a∈m):l.Perm m:=(jD h1 h2).mpr h
def Qfj{t:aW}{hs:List Int}(g:Good L t)(hM:HM M)(hz:SetTable.sizeAbove wanted-1=M)(a1:hs.length<=M):
  ∃t' ,∃G:List Nat,t.relaid hs.toArray wanted=zo (t',G.toArray)/\G.Perm (ba hs.length)/\t'.mask=M/\HG0 L t' (G.map (λx=>hs.getD x 0)):=by
 obtain⟨owner,e,o⟩:=Qqc hM hs a1;have O:∀(l:List Nat)(j x:Nat),(j,x)∈(l.filterMap λj=>(owner.getD j zl).map (j,·))<->j∈l/\owner[j]?=zo (zo x):=by
  intro l j x;rw[dh];have gd:owner.getD j zl=(owner[j]?).getD zl:=by simp[dS]
  constructor
  ·rintro ⟨y,hy,Y⟩;cases q:owner.getD y zl with
   |none=>rw[q]at Y;cases Y
   |some v=>
    rw[q]at Y;cases Y;rw[gd]at q;refine⟨hy,?_⟩;cases z:owner[j]? with
    |none=>rw[z]at q;cases q
    |some u=>rw[z]at q;exact congrArg zo q
  ·rintro ⟨h1,h2⟩;exact⟨j,h1,by rw[gd,h2];rfl⟩
 have hx:t.relaid hs.toArray wanted=zo ({mask:=M,place:=(((ba (M+1)).filterMap λj=>(owner.getD j zl).map (j,·)).map (·.1)).toArray,dummies:=#[],finger:=t.finger,led:=t.led,moves:=t.movedTo M,plain:=t.plain},(((ba (M+1)).filterMap λj=>(owner.getD j zl).map (j,·)).map (·.2)).toArray):=by
  unfold SetTable.relaid SetTable.laid;rw[hz,e];rfl
 refine⟨_,_,hx,?_,rfl,g.relaid hx,?_,?_,?_⟩
 all_goals generalize hl:((ba (M+1)).filterMap λj=>(owner.getD j zl).map (j,·))=J
 all_goals
  have I:∀j x,(j,x)∈J<->owner[j]?=zo (zo x):=λj x=>by
   rw[<- hl,O];refine⟨λq=>q.2,λq=>⟨?_,q⟩⟩
   have:=(cA.mp q).1;rw[o.sz]at this;exact cM.mpr this
  have pw:J.Pairwise λa b=>a.1<b.1:=by
   have:=(g.relaid hx).1;unfold Rise at this;dsimp only at this;rw[hl]at this;exact gB.mp this
  have S:(J.map (·.2)).Perm (ba hs.length):=by
   refine Qc5 ?_ List.nodup_range λa=>?_
   ·refine gB.mpr (kI (λ{a b} Z hb hab=>?_) pw);intro z;have h1:=(I a.1 a.2).mp Z;have h2:=(I b.1 b.2).mp hb;rw[z]at h1;have:=o.inj _ _ _ h1 h2;omega
   ·rw[E3,cM];constructor
    ·rintro ⟨⟨j,x⟩,hm,rfl⟩;exact o.lt _ _ ((I j x).mp hm)
    ·intro Z;obtain⟨j,U⟩:=o.all a Z;exact⟨(j,a),(I j a).mpr U,rfl⟩
 ·exact S
 ·simp only[O1,O8]
 ·intro j U;have U:j∈J.map (·.1):=by simpa using U
  obtain⟨⟨a,x⟩,hm,rfl⟩:=E3.mp U;have:=(cA.mp ((I a x).mp hm)).1;rw[o.sz]at this;exact eW this
 ·intro i j h h1 h2;have h1:(J.map (·.1))[i]?=zo j:=by simpa using h1
  rw[D8]at h1;rw[D8,D8]at h2;cases q:J[i]? with
  |none=>rw[q]at h1;cases h1
  |some a=>
   rw[q]at h1 h2;cases h1;cases h2;have hm:=(I a.1 a.2).mp (E6 q);have hk:=o.lt _ _ hm;have he:hs[a.2]?=zo (hs.getD a.2 0):=by rw[F1,O2 hk];rfl
   refine(o.rch _ _ _ hm he).mono ?_;rintro y ⟨z,hz⟩;show y∈(J.map (·.1)).toArray.toList;exact E3.mpr ⟨(y,z),(I y z).mpr hz,rfl⟩
def Qir{α:Type}(l:List α):(ba l.length).filterMap (λx=>l[x]?)=l:=by
 induction l with
|nil=>rfl
|cons a l j=>
  rw[D6,fo,cj];simp only[List.getElem?_cons_zero,hW];congr 1
def Qbr {es:List (Int×aA)} {j:List Nat} (p:j.Perm (ba es.length)):
  (j.filterMap (λx=>es[x]?)).Perm es/\(j.filterMap (λx=>es[x]?)).map (·.1)=j.map (λx=>(es.map (·.1)).getD x 0):=by
 constructor
 ·have:=p.filterMap (λx=>es[x]?)
  rwa [Qir]at this
 ·have hm:∀x∈j,x<es.length:=λx q=>cM.mp (p.mem_iff.mp q)
  clear p
  induction j with
  |nil=>rfl
  |cons x l z=>
   have q:=hm x (by simp);rw[cj,O2 q];simp only[D3];rw[z λy G=>hm y (O3 _ G)]
   congr 1;rw[F1,D8,O2 q];rfl
def Qrr(h:SzP M n):(decide (n*5>=M*3)=zb->∃j,SetTable.sizeAbove (SetTable.grown n)-1=j/\¬SetTable.sizeAbove (SetTable.grown n)>sizeLine/\HM j/\SzM j n/\n<=j)/\(decide (n*5>=M*3)=yo->SzM M n):=by
 constructor
 ·intro z;have z:n*5>=M*3:=by simpa using z
  rcases h with⟨rfl,h⟩|⟨rfl,h⟩|⟨rfl,h⟩
  ·cases show n=5 by omega
   exact⟨31,by decide +kernel,by decide +kernel,.inr (.inl rfl),.inr (.inl ⟨rfl,by decide⟩),by decide⟩
  ·cases show n=19 by omega
   exact⟨127,by decide +kernel,by decide +kernel,.inr (.inr rfl),.inr (.inr ⟨rfl,by decide⟩),by decide⟩
  ·omega
 ·intro z;have z:¬n*5>=M*3:=by simpa using z
  exact h.imp (λ⟨e,_⟩=>⟨e,by subst e;omega⟩) (Or.imp (λ⟨e,_⟩=>⟨e,by subst e;omega⟩) id)
end L2
namespace L2
open PySem PySem.Spec PyProof.Rows SeqAt
variable{prog:aK}{A:aO}{E:zAD}{s:aC}
section
variable{w:aJ}
def Qck:∀m d{A:aO}{s:aC}{k:HK}{v:aA}{Q:Bool->aC->Prop},Dp d k->KIs s.heap k v->(∀b,Q b s)->aF (aI prog w) A (hashByValue m v) Q E s:=by
 intro m
 induction m with
|zero=>
  intro d A s k v Q G r q;cases k with
  |int i=>obtain⟨t,rfl⟩:=r;unfold hashByValue;exact wpAny_pure (q _)
  |str i=>obtain⟨t,rfl⟩:=r;unfold hashByValue;exact wpAny_pure (q _)
  |tup l=>obtain⟨a,j,rfl,_⟩:=r;unfold hashByValue;exact wpAny_pure (q _)
|succ m Z=>
  intro d A s k v Q G r q;cases k with
  |int i=>obtain⟨t,rfl⟩:=r;unfold hashByValue;exact wpAny_pure (q _)
  |str i=>obtain⟨t,rfl⟩:=r;unfold hashByValue;exact wpAny_pure (q _)
  |tup ks=>
   obtain⟨a,j,rfl,⟨o,J,O,n,hd⟩,hi⟩:=r;have S:s.TypeIs (.ref a) "tuple":=⟨o,J,O⟩;cases d with
   |zero=>exact G.elim
   |succ d=>
    unfold hashByValue;refine aD (wpAny_specialOf S F.slot_tuple_hash.lookup ?_);dsimp only;refine aD (bD J hd (aD ?_));show aF _ _ (forIn j _ _) _ _ s;rw[<- eD];refine wpAny_forIn_list _ (λrest r s'=>s'=s/\∃l,KIsL s.heap l rest/\∀k∈l,k∈ks) _ ?_ ?_ _ _ ⟨rfl,ks,hi,λ_ h=>h⟩
    ·rintro v rest r s' ⟨rfl,l,I,z⟩;cases l with
     |nil=>cases I
     |cons k l=>
      obtain⟨v',r',e,h1,h2⟩:=I;cases e;refine aD (Z d (G k (z k (by simp))) h1 λb=>?_)
      cases b with
      |false=>
       simp only[jE,if_true];refine wpAny_pure ?_
       first|exact wpAny_pure (q _)|exact q _
      |true=>
       simp only[cW,F5,if_false];exact wpAny_pure ⟨rfl,l,h2,λx U=>z x (O3 _ U)⟩
    ·rintro ⟨Y,r2⟩ s' ⟨rfl,_⟩;cases Y with
     |none=>exact wpAny_pure (q _)
     |some b=>exact wpAny_pure (q _)
def Q1w:∀d{A:aO}{s:aC}{k:HK}{v:aA}{Q:Bool->aC->Prop}m,d<m->Dp d k->KIs s.heap k v->Q yo s->aF (aI prog w) A (ofAClassStatement m v) Q E s:=by
 intro d
 induction d with
|zero=>
  intro A s k v Q m hm I r q;cases k with
  |tup l=>exact I.elim
  |int i=>obtain⟨t,rfl⟩:=r;unfold ofAClassStatement;exact wpAny_pure q
  |str i=>obtain⟨t,rfl⟩:=r;unfold ofAClassStatement;exact wpAny_pure q
|succ d ih=>
  intro A s k v Q m hm I r q;cases k with
  |int i=>obtain⟨t,rfl⟩:=r;unfold ofAClassStatement;exact wpAny_pure q
  |str i=>obtain⟨t,rfl⟩:=r;unfold ofAClassStatement;exact wpAny_pure q
  |tup ks=>
   obtain⟨a,G,rfl,⟨o,O,S,n,hd⟩,hi⟩:=r;have Y:s.TypeIs (.ref a) "tuple":=⟨o,O,S⟩;obtain⟨m,rfl⟩:∃U,m=U+1:=⟨m-1,by omega⟩;unfold ofAClassStatement;refine aD (bG Y ?_);dsimp only;rw[bU (by decide)];refine aD (wpAny_pure ?_);simp only[cW,F5,if_false];refine aD (bD O hd ?_);dsimp only;refine aD ?_;rw[<- eD];refine wpAny_forIn_list _ (λrest r s'=>r.1=zl/\s'=s/\∃l,KIsL s.heap l rest/\∀k∈l,k∈ks) _ ?_ ?_ _ _ ⟨rfl,rfl,ks,hi,λ_ h=>h⟩
   ·rintro v rest r s' ⟨z,rfl,l,J,j⟩;cases l with
    |nil=>cases J
    |cons k l=>
     obtain⟨v',r',e,h1,h2⟩:=J;cases e;refine aD (ih m () (I k (j k (by simp))) h1 ?_);simp only[F5,if_false];exact wpAny_pure ⟨rfl,rfl,l,h2,λx Z=>j x (O3 _ Z)⟩
   ·rintro ⟨r1,r2⟩ s' ⟨z,rfl,_⟩;simp only at z;subst z;exact wpAny_pure q
def Qpf(z:(nk prog w).is s.heap k b){Q:Bool->aC->Prop}l(O:∀v∈l,∃c G,v=.ref c/\(nk prog w).is s.heap G c)(q:Q yo s):aF (aI prog w) A (searchCouldBeSeen (.ref b) l) Q E s:=by
 unfold searchCouldBeSeen;refine aD ?_;refine wpAny_forIn_list _ (λrest r s'=>r.1=zl/\s'=s/\∀v∈rest,∃c G,v=.ref c/\(nk prog w).is s.heap G c) _ ?_ ?_ _ _ ⟨rfl,rfl,O⟩
 ·rintro v rest r s' ⟨I,rfl,j⟩;obtain⟨c,G,rfl,J⟩:=j v (by simp);dsimp only;refine bC (λ_=>wpAny_pure ⟨rfl,rfl,λx z=>j x (O3 _ z)⟩) λ_=>?_
  refine aD ((nk prog w).quiet z ?_);simp only[cW,F5,if_false];refine aD ((nk prog w).quiet J ?_);simp only[cW,F5,if_false];refine aD (Q1w 5 8 (by decide) z.2 z.1 ?_);simp only[F5,if_false];refine aD (Q1w 5 8 (by decide) J.2 J.1 ?_);simp only[F5,if_false];exact wpAny_pure ⟨rfl,rfl,λx z=>j x (O3 _ z)⟩
 ·rintro ⟨U,S⟩ s' ⟨I,rfl,_⟩;simp only at I;subst I;exact wpAny_pure q
def ElH(prog:aK)(w:aJ)(B:aB->Prop)(h:Heap)(e:Int×aA)(k:HK):Prop:=∃b,e.2=.ref b/\(nk prog w).is h k b/\e.1=hkH prog w k/\B b
def Qfp{t:aW}(g:Good L t){hashAt:Nat->Int}(I:J8 t.mask h N∉t.place.toList)(G:∀m,m<N->J8 t.mask h m∈t.place.toList)(h1:n<=N)(h2:N-n<j)(e:SetTable.probe.go t hashAt h j (pth t.mask h n)=q):
  (q=zo (.empty (J8 t.mask h N) zl)/\∀m,n<=m->m<N->∀i,t.place[i]?=zo (J8 t.mask h m)->hashAt i≠h)\/
  (∃m i,n<=m/\m<N/\t.place[i]?=zo (J8 t.mask h m)/\hashAt i=h/\q=zo (.candidate (J8 t.mask h m) i (pth t.mask h (m+1)))/\∀z,n<=z->z<m->∀i,t.place[i]?=zo (J8 t.mask h z)->hashAt i≠h):=by
 subst e;exact Qj7 g hashAt h I G j n h1 h2
def Kx{α β:Type}{F:α->β->Prop}:∀{l:List α}{ks:List β}{i:Nat}{a:α},aR F l ks->l[i]?=zo a->∃b,ks[i]?=zo b/\F a b
|_,_,i,a,.nil,e=>by simp at e
|_,_,0,a,.cons r t,e=>by simp at e;subst e;exact⟨_,rfl,r⟩
|_,_,i+1,a,.cons r t,e=>by simpa using Kx t (by simpa using e)
def Xf{α β:Type}{F:α->β->Prop}:∀{l:List α}{ks:List β}{i:Nat}{b:β},aR F l ks->ks[i]?=zo b->∃a,l[i]?=zo a/\F a b
|_,_,i,b,.nil,e=>by simp at e
|_,_,0,b,.cons r t,e=>by simp at e;subst e;exact⟨_,rfl,r⟩
|_,_,i+1,b,.cons r t,e=>by simpa using Xf t (by simpa using e)
def Qff{o:Obj}{es:zAB}{t:aW}{ks:List HK}(hu:A.units+5<aS)(hx:(nk prog w).is s.heap k b)(ho:s.heap.get? a=zo o)(hd:o.data=.set es ep t)(S:HG L t (es.toList.map (·.1)))(hp:aR (ElH prog w B s.heap) es.toList ks)(nd:ks.Nodup)(hN:J8 t.mask (hkH prog w k) N∉t.place.toList)(hl:∀m,m<N->J8 t.mask (hkH prog w k) m∈t.place.toList)(b4:N<=10*(t.mask+12)){Q:SetFound->aC->Prop}(h1:k∉ks->Q (.free (J8 t.mask (hkH prog w k) N) yo) s)(h2:k∈ks->Q (.there zl) s):
  ∀I n(st:Option SetTable.Probe),st.getD (t.probeStart (hkH prog w k))=pth t.mask (hkH prog w k) n->n<=N->N-n<I->(∀i:Nat,ks[i]?=zo k->∃m,n<=m/\m<N/\t.place[i]?=zo (J8 t.mask (hkH prog w k) m))->aF (aI prog w) A (setSearchFrom a (.ref b) (hkH prog w k) zb I st) Q E s:=by
 have O:t.fits es.size=zb:=by have:=S.fits;rwa [O1,bj]at this
 have b2:t.gaveWay=yo:=by
  have:=S.sz;unfold SzM at this;unfold SetTable.gaveWay;rcases this with⟨e,_⟩|⟨e,_⟩|⟨e,_⟩<;>rw[e]<;>rfl
 intro I
 induction I with
|zero=>intro n st _ _ h;omega
|succ I ih=>
  intro n st b1 hn hf hk;rw[setSearchFrom.eq_2];refine aD (wpAny_setState_of ho hd O ?_);dsimp only;rw[bV (by rw[b2];exact O9),b1];generalize a6:SetTable.probe t _ _ _=pr;unfold SetTable.probe at a6;rcases Qfp S.good hN hl hn (by unfold SetTable.turns;omega) a6 with⟨e1,e2⟩|⟨m,i,c1,c2,c3,c4,e1,c6⟩
  ·subst e1;dsimp only;refine wpAny_pure (h1 λhm=>?_);obtain⟨i,hi,ei⟩:=L8 hm;have a5:ks[i]?=zo k:=by rw[O2 hi,ei]
   obtain⟨m,m1,m2,m3⟩:=hk i a5;obtain⟨e,U,c,_,_,hh,_⟩:=Xf hp a5;refine e2 m m1 m2 i m3 ?_;show((es[i]?).map (·.1)).getD 0=_;rw[<- bn,U];exact hh
  ·subst e1;dsimp only;have c4:((es[i]?).map (·.1)).getD 0=hkH prog w k:=c4;have a4:i<es.size:=by
    have:=(cA.mp c3).1;rw[S.len,O1,bj]at this;exact this
   have a9:es.toList[i]?=zo es[i]:=by rw[bn,bp a4]
   obtain⟨k',Y,c,ec,hc,hh,_⟩:=Kx hp a9;have a7:es[i]?=zo (es[i].1,.ref c):=by rw[bp a4,<- ec]
   have go:aF (aI prog w) A
     (match es[i]? with
      |some (Z,y)=>do
       let equal<-av [y] (eqBool y (.ref b))
       let __x<-setState a
       match __x with
        |(b0,Z,t')=>
         if(zb&&equal)=zb then pure (SetFound.there zl)
         else
          match t'.sameMemory t.moves t.mask with
          |some same=>
           have G:=λj=>
            match j with
            |none=>do
             rule "set.search.anew"
             setSearchFrom a (.ref b) (hkH prog w k) zb I zl
            |some i'=>
             if equal=zb then pure (SetFound.there (zo i'))
             else setSearchFrom a (.ref b) (hkH prog w k) zb I (zo (pth t.mask (hkH prog w k) (m+1)));
           match if same=zb then t'.slot (J8 t.mask (hkH prog w k) m)else SetTable.Slot.empty with
           |SetTable.Slot.live i'=>
            match b0[i']? with
            |some (Z,y')=>do
             let __do_lift<-isSame y' y
             let j<-pure (if __do_lift=zb then zo i' else zl)
             G j
            |none=>do
             let j<-pure zl
             G j
           |x=>do
            let j<-pure zl
            G j
          |x=>unsupported "set.changed-during-lookup:is-the-new-block-at-the-old-address"
      |x=>unsupported "internal:set-entry") Q E s:=by
    rw[a7];dsimp only;refine aD (ae ((nk prog w).eqBool hu hc hx ?_));refine aD (wpAny_setState_of ho hd O ?_);dsimp only
    by_cases q:k'=k
    ·rw[bY q,bU (by decide)];exact wpAny_pure (h2 (by rw[<- q];exact E6 Y))
    ·rw[bW q,bV (by decide)];have sm:t.sameMemory t.moves t.mask=zo zb:=by unfold SetTable.sameMemory;rw[bU (by simp)]
     rw[sm];dsimp only;rw[bU rfl,Kf S.good.1 c3];dsimp only;rw[a7];dsimp only;refine aD (wpAny_isSame_ref_self ?_);refine aD (wpAny_pure ?_);rw[bU rfl];dsimp only;rw[bV O9];refine ih (m+1) _ rfl () () λi2 J=>?_
     obtain⟨m2,a1,a2,a3⟩:=hk i2 J;obtain⟨e,U,c',_,_,a8,_⟩:=Xf hp J;have ne:m2≠m:=λz=>by
      subst z;have:=Kf S.good.1 c3;rw[Kf S.good.1 a3]at this;cases this;rw[Y]at J;cases J;exact q rfl
     have nl:¬m2<m:=λz=>by
      refine c6 m2 a1 z i2 a3 ?_;show((es[i2]?).map (·.1)).getD 0=_;rw[<- bn,U];exact a8
     exact⟨m2,by omega,a2,a3⟩
   cases b3:t.led with
   |true=>simp only[cW,F5,if_false];exact go
   |false=>
    simp only[jE,if_true];refine aD (Qpf hx _ (λv hv=>?_) ?_)
    ·obtain⟨e,U,rfl⟩:=E3.mp hv;have U:e∈es:=by
      have:e∈(Array.filter (λx=>x.1==hkH prog w k) es):=by simpa using U
      exact(Array.mem_filter.mp this).1
     obtain⟨k2,_,c2,q1,q2,_⟩:=j9 hp (fN.mpr U);exact⟨c2,k2,q1,q2⟩
    ·simp only[F5,if_false];exact go
end
variable{B:aB->Prop}
section
variable{w:aJ}
def GH(prog:aK)(w:aJ)(B:aB->Prop)(L:Bool)(h:Heap)(a:aB)(ks:List HK):Prop:=
 ∃o es ep t,h.get? a=zo o/\o.ExactSet/\o.data=.set es ep t/\(∃ks',ks'.Perm ks/\aR (ElH prog w B h) es.toList ks')/\ks.Nodup/\HG L t (es.toList.map (·.1))
def ElH.keep(I:∀a its,IsTup h a its->IsTup h' a its)(x:ElH prog w B h e k):ElH prog w B h' e k:=let ⟨b,G,j,q,z⟩:=x;⟨b,G,⟨KIs.keep I 5 j.2 j.1,j.2⟩,q,z⟩
def yr{α β:Type}{F G:α->β->Prop}(f:∀a b,F a b->G a b):∀{l:List α}{ks:List β},aR F l ks->aR G l ks
|_,_,.nil=>.nil
|_,_,.cons r t=>.cons (f _ _ r) (yr f t)
def GH.at{h h':Heap}{a:aB}(g:GH prog w B L h a ks)(k:∀o,h.get? a=zo o->h'.get? a=zo o)(z:∀a its,IsTup h a its->IsTup h' a its):GH prog w B L h' a ks:=by
 obtain⟨o,es,ep,t,h1,h2,q,⟨j,p,r⟩,h5,h6⟩:=g;exact⟨o,es,ep,t,k o h1,h2,q,⟨j,p,yr (λ_ _=>ElH.keep z) r⟩,h5,h6⟩
def Q94{h:Heap}{o:Obj}(q:h.get? a=zo o)(hd:o.data=.set es ep t)its:¬IsTup h a its:=λ⟨o',h1,_,n,j⟩=>by
 rw[q]at h1;cases h1;rw[hd]at j;cases j
def Q8s{h:Heap}{o:Obj}(j:h.get? a=zo o)(hd:o.data=.set es ep t)(q:Heap.SameBut a h h')b its(x:IsTup h b its):IsTup h' b its:=by
 by_cases e:b=a
 ·subst e;exact absurd x (Q94 j hd its)
 ·obtain⟨o',h1,h2⟩:=x;exact⟨o',(q.2 b e).trans h1,h2⟩
def yg{α β:Type}{F:α->β->Prop}{a:α}{b:β}(r:F a b):∀{l:List α}{ks:List β}(p:Nat),aR F l ks->aR F (l.take p++a::l.drop p) (ks.take p++b::ks.drop p)
|_,_,0,h=>by simpa using Paired.cons r h
|_,_,p+1,.nil=>by simpa using Paired.cons r .nil
|_,_,p+1,.cons j t=>by simpa using Paired.cons j (yg r p t)
def Qam{h:Heap}{o:Obj}{j:zAB}(G:h.get? a=zo o)(J:o.ExactSet)(hd:o.data=.set es ep t)(I:aR (ElH prog w B h) j.toList q):
  ∃o',(h.update a (dn j t')).get? a=zo o'/\o'.ExactSet/\o'.data=.set j (ep+1) t'/\Heap.SameBut a h (h.update a (dn j t'))/\aR (ElH prog w B (h.update a (dn j t'))) j.toList q:=by
 have e:=G7 (dn j t') G (by rw[putSet_of j t' hd];rfl);rw[putSet_of j t' hd]at e;have z:=Heap.SameBut.update h a (dn j t');exact⟨_,e,J,rfl,z,yr (λ_ _=>ElH.keep (Q8s G hd z)) I⟩
def HG0.unplain(g:HG0 L t hs):HG0 L {t with plain:=yo} hs:=⟨g.good,g.len,g.le,g.rch⟩
def Q89{o:Obj}{j:zAB}{G:aW}{J:List HK}(ho:s.heap.get? a=zo o)(hx:o.ExactSet)(hd:o.data=.set es ep t)(hr:aR (ElH prog w B s.heap) j.toList J)(hn:J.Nodup)(Y:HG0 L G (j.toList.map (·.1)))(hz:SzP G.mask j.size)(en:n=j.size){Q:Bool->aC->Prop}(h:∀h',Heap.SameBut a s.heap h'->GH prog w B L h' a J->Q zb {s with heap:=h'}):
  aF (aI prog w) A (do
    storeSet a j G
    if (!false&&G.tooFull)=zb then do
        setRelay a (SetTable.grown n)
        pure zb
     else pure zb) Q E s:=by
 have hb:j.size<=sizeLine:=by rw[sizeLine_eq];exact hz.elim (λh=>E8 h.2 (by decide)) λh=>h.elim (λh=>E8 h.2 (by decide)) λh=>E8 h.2 (by decide)
 refine aD (wpAny_storeSet_of ho hd ?_ hb);obtain⟨o1,e1,x1,d1,U,r1⟩:=Qam (t':=G) ho hx hd hr;have I:G.fill=j.size:=by
  unfold SetTable.fill;rw[Y.good.2.1,Y.len,O1,bj];rfl
 have a3:G.tooFull=decide (j.size*5>=G.mask*3):=by unfold SetTable.tooFull;rw[I]
 obtain⟨f1,f2⟩:=Qrr hz;have Z:G.fits j.size=zb:=by
  unfold SetTable.fits;rw[I,Y.len,O1,bj];unfold SzP at hz;simp;omega
 rw[a3];cases z:decide (j.size*5>=G.mask*3)with
|false=>
  rw[bV (by simp)];refine wpAny_pure (h _ U ⟨o1,j,_,G,e1,x1,d1,⟨J,cT _,r1⟩,hn,⟨Y,?_⟩⟩);rw[O1,bj];exact f2 z
|true=>
  rw[bU (by simp)];obtain⟨M',y1,y2,y3,y4,y5⟩:=f1 z;obtain⟨t2,q,p1,p2,p3,p4⟩:=Qfj (t:=G) (hs:=j.toList.map (·.1)) (wanted:=SetTable.grown n) Y.good y3 (by rw[en];exact y1) (by rw[O1,bj];exact y5);rw[O1]at p2;obtain⟨q1,q2⟩:=Qbr p2;refine aD ?_;unfold setRelay;refine aD (wpAny_setState_of e1 d1 Z ?_);dsimp only;rw[bV (by rw[en];exact y2)];have eh:(Array.map (λx=>x.1) j)=(j.toList.map (·.1)).toArray:=by
   apply Array.ext';rw[Array.toList_map]
  rw[eh,p1];refine aD ?_;generalize O:jF (λx=>j[x]?) q.toArray=S;have e2:S.toList=q.filterMap (λx=>j.toList[x]?):=by
   rw[<- O,Array.toList_filterMap];simp only[bn]
  rw[<- e2]at q1 q2;have hsz:S.size=j.size:=by rw[<- bj,q1.length_eq,bj]
  show aF _ _ (if(Array.size (jF (λx=>j[x]?) q.toArray) !=j.size)=zb then _ else _) _ _ _;rw[O,bV (by rw[hsz];simp)];refine wpAny_pure ?_;dsimp only;refine wpAny_storeSet_of e1 d1 ?_ (by rw[hsz];exact hb);obtain⟨a2,r2,p5⟩:=Q9q q1 r1;obtain⟨o2,e3,x3,d3,a1,r3⟩:=Qam (t':=t2) e1 x1 d1 r2;refine wpAny_pure (h _ (U.trans a1) ⟨o2,S,_,t2,e3,x3,d3,⟨a2,p5,r3⟩,hn,⟨?_,?_⟩⟩)
  ·rw[q2];exact p4
  ·rw[O1,bj,hsz,p3];exact y4
def Qvz {L:Bool} {a b:aB} {ks:List HK} {k:HK} {Q:Bool->aC->Prop} (hu:A.units+5<aS) (hx:(nk prog w).is s.heap k b) (hB:B b) (g:GH prog w B L s.heap a ks) (a9:ks.length+1<=76)
  (h:∀b h',Heap.SameBut a s.heap h'->GH prog w B L h' a (Z9 ks k)->Q b {s with heap:=h'}):aF (aI prog w) A (setAddHashed a (.ref b) (hkH prog w k)) Q E s:=by
 obtain⟨o,es,ep,t,O,I,hd,⟨j,U,r0⟩,hn,hg⟩:=g;have a6:j.Nodup:=(U.nodup_iff).mpr hn;have a8:es.size=j.length:=by rw[<- bj,Paired.length r0]
 have b0:j.length=ks.length:=U.length_eq;have J:t.fits es.size=zb:=by have:=hg.fits;rwa [O1,bj]at this
 obtain⟨N,n1,n2,n3⟩:=hg.free (hkH prog w k);unfold setAddHashed;refine ae ?_;rw[setAddHashedIn.eq_def];dsimp only;refine aD (wpAny_setState_of O hd J ?_);dsimp only;rw[bV (by unfold byScan;simp[Value.scannable])];refine aD ?_;unfold setSearch;refine Qff hu hx O hd hg r0 a6 n2 n3 n1 (λkm=>?_) (λkm=>?_) 100000 0 zl rfl (G8 _) ?_ λi hi=>?_
 ·dsimp only;refine aD (wpAny_setState_of O hd J ?_);dsimp only;have a2:k∉ks:=λz=>km (U.mem_iff.mpr z)
  have ea:Z9 ks k=ks++[k]:=by unfold Z9;rw[bV a2]
  have hr:=yg (F:=ElH prog w B s.heap) (a:=(hkH prog w k,bc b)) (b:=k) ⟨b,rfl,hx,rfl,hB⟩ (SetTable.below t.place (J8 t.mask (hkH prog w k) N)) r0;rw[<- SetTable.toList_insertAt]at hr;have a3:(j.take (SetTable.below t.place (J8 t.mask (hkH prog w k) N))++k::j.drop (SetTable.below t.place (J8 t.mask (hkH prog w k) N))).Perm (Z9 ks k):=by
   rw[ea];refine List.perm_middle.trans ?_;rw[gG];exact(U.cons k).trans (List.perm_append_comm (l₁:=[k]))
  have Y:(Z9 ks k).Nodup:=by
   rw[ea];exact L7.mpr ⟨hn,by simp,λx a1 y hy e=>by
    have:y=k:=by simpa using hy
    rw[e,this]at a1;exact a2 a1⟩
  have S:=a3.nodup_iff.mpr Y;have q:=hg.put n2 n3;have a7:(SetTable.insertAt es (SetTable.below t.place (J8 t.mask (hkH prog w k) N)) (hkH prog w k,bc b)).toList.map (·.1)=(es.toList.map (·.1)).take (SetTable.below t.place (J8 t.mask (hkH prog w k) N))++hkH prog w k::(es.toList.map (·.1)).drop (SetTable.below t.place (J8 t.mask (hkH prog w k) N)):=by
   rw[SetTable.toList_insertAt,E5,D3,jG,jH]
  rw[<- a7]at q;have G:(SetTable.insertAt es (SetTable.below t.place (J8 t.mask (hkH prog w k) N)) (hkH prog w k,bc b)).size=es.size+1:=by
   rw[<- bj,SetTable.toList_insertAt,O5,D6,<- eE,<- O5,gG,bj]
  have hsz:SzP (t.put (J8 t.mask (hkH prog w k) N)).1.mask (SetTable.insertAt es (SetTable.below t.place (J8 t.mask (hkH prog w k) N)) (hkH prog w k,bc b)).size:=by
   rw[G];show SzP t.mask (es.size+1);have:=hg.sz;rw[O1,bj]at this;exact this.imp (And.imp_right fg) (Or.imp (And.imp_right fg) (And.imp_right λ_=>by omega))
  have fin:∀h',Heap.SameBut a s.heap h'->GH prog w B L h' a (j.take (SetTable.below t.place (J8 t.mask (hkH prog w k) N))++k::j.drop (SetTable.below t.place (J8 t.mask (hkH prog w k) N)))->Q zb {s with heap:=h'}:=λh' sb gh=>by
   refine h zb h' sb ?_;obtain⟨o,es,ep,t,y1,y2,y3,⟨y4,y5,y6⟩,y7,y8⟩:=gh;exact⟨o,es,ep,t,y1,y2,y3,⟨y4,y5.trans a3,y6⟩,Y,y8⟩
  by_cases zp:t.plain=zb
  ·rw[bU (show(t.put (J8 t.mask (hkH prog w k) N)).1.plain=zb from zp)];refine aD (Qck 8 5 hx.2 hx.1 λbv=>?_);cases bv with
   |true=>
    simp only[if_true];exact Q89 (n:=es.size+1) O I hd hr S q hsz G.symm fin
   |false=>
    simp only[F5,if_false];exact Q89 (n:=es.size+1) O I hd hr S q.unplain hsz G.symm fin
  ·rw[bV (show ¬(t.put (J8 t.mask (hkH prog w k) N)).1.plain=zb from zp)];refine aD (wpAny_pure ?_);simp only[if_true];exact Q89 (n:=es.size+1) O I hd hr S q hsz G.symm fin
 ·dsimp only;have e:s={s with heap:=s.heap}:=by cases s;rfl
  rw[e];refine wpAny_pure (h _ s.heap (Heap.SameBut.refl a s.heap) ?_);unfold Z9;rw[bU (U.mem_iff.mp km)];exact⟨o,es,ep,t,O,I,hd,⟨j,U,r0⟩,hn,hg⟩
 ·have:=hg.sz;unfold SzM at this;omega
 ·obtain⟨e,he,c,e1,e2,e3,_⟩:=Xf r0 hi;have Z:i<t.place.size:=by
   have:=(O0.mp he).1;rw[hg.len,O1];exact this
  have a4:t.place[i]?=zo t.place[i]:=bp Z;have hh:(es.toList.map (·.1))[i]?=zo (hkH prog w k):=by rw[D8,he,<- e3];rfl
  obtain⟨m,m1,m2⟩:=hg.rch i _ _ a4 hh;refine⟨m,G8 _,?_,by rw[m1];exact a4⟩;have a5:t.place[i]∈t.place.toList:=by rw[fN];exact Array.getElem_mem Z
  by_cases c1:N<m
  ·exact absurd (m2 N c1) n2
  ·by_cases c2:N=m
   ·subst c2;rw[m1]at n2;exact absurd a5 n2
   ·omega
end
variable{R:Result->aC->Prop}
section
variable{w:aJ}
def Q84{h:Heap}(x:h.IsTupleIter I q i)(y:IsTup h I its):False:=by
 obtain⟨o,h1,h2,G⟩:=x;obtain⟨o',j,g2,n,z⟩:=y;rw[h1]at j;cases j;rw[h2]at g2;exact absurd g2 (by decide)
def Qfd{P:Nat->aA->Prop}{St:Nat->Heap->Prop}{ks:List HK}(hu:A.in1.units+5<aS)(W:Walks prog w A.in1 I fp [I] n P St)(hD:D∉fp)(hI:∀i h,St i h->∀its,¬IsTup h I its)(hn:n=ks.length)(hv:∀i v,P i v->∃k b,ks[i]?=zo k/\v=.ref b/\(nk prog w).is h0 k b/\B b)(O:ks.length<=76):
  ∀k i(s:aC),n-i=k->i<=n->St i s.heap->(∀a its,IsTup h0 a its->IsTup s.heap a its)->GH prog w B (byT w) s.heap D (Yy (ks.take i))->
   (∀h' tk,GH prog w B (byT w) h' D (Yy ks)->(∀b o,b∉[D,I]->s.heap.get? b=zo o->h'.get? b=zo o)->R (.ok (.ret .none)) {s with heap:=h',toks:=tk})->
   codeAny (aI prog w) A (.builtin "set.update.loop" ⟨[.ref D,.ref I],[]⟩) R s:=by
 have U:D≠I:=λz=>hD (W.sub D (by simp[z]))
 intro k
 induction k with
|zero=>
  intro i s hk hi j J g hR;have e:i=n:=by omega
  subst e;refine bA jI ?_;rw[Around.under_plainId gJ _];show aF _ A.in1 (ao (.ref I)>>=_) _ _ s;refine aD (W.done s _ _ j λh' tk hm=>?_);show aF _ A.in1 (ret bi) _ _ _;rw[hn,dq]at g;refine wpAny_pure (hR h' tk (g.at (λo q=>hm D o (by simpa using U) q) λa its x=>?_) λb o a4 q=>hm b o (λz=>a4 (O3 _ z)) q)
  have:a≠I:=λz=>by subst z;exact hI _ _ j its x
  obtain⟨o',x1,x2⟩:=x;exact⟨o',hm a o' (by simpa using this) x1,x2⟩
|succ k ih=>
  intro i s hk hi j J g hR;have Y:i<n:=by omega
  refine bA jI ?_;rw[Around.under_plainId gJ _];show aF _ A.in1 (ao (.ref I)>>=_) _ _ s;refine aD (W.item i s _ _ Y j λv h1 tk hP S hm=>?_);have G:∀a its,IsTup s.heap a its->IsTup h1 a its:=λa its x=>by
   have:a≠I:=λz=>by subst z;exact hI _ _ j its x
   obtain⟨o',x1,x2⟩:=x;exact⟨o',hm a o' (by simpa using this) x1,x2⟩
  obtain⟨x,b,hx,rfl,h2,a3⟩:=hv i v hP;have h2:(nk prog w).is h1 x b:=⟨KIs.keep (λa its y=>G a its (J a its y)) 5 h2.2 h2.1,h2.2⟩;have g1:GH prog w B (byT w) h1 D (Yy (ks.take i)):=g.at (λo q=>hm D o (by simpa using U) q) G
  show aF _ A.in1 (av [.ref b] (setAdd D (.ref b))>>=_) _ _ _;refine aD (ae ?_);unfold setAdd;refine ae (aD ((nk prog w).pyHash (s:={s with heap:=h1,toks:=tk}) (k:=x) hu h2 ?_));have Z:(Yy (ks.take i)).length+1<=76:=by
   have:=Q08 (ks.take i);have:(ks.take i).length<=i:=by rw[cN];omega
   omega
  refine Qvz (s:={s with heap:=h1,toks:=tk+(nk prog w).draws x}) hu h2 a3 g1 Z λbb h' sb g2=>?_
  have e1:ks.take (i+1)=ks.take i++[x]:=by rw[gK,hx];rfl
  rw[<- Qg7,<- e1]at g2;obtain⟨oD,a5,a6,tD,dD,_,a2,_⟩:=g1;refine wpAny_pure ⟨bH gJ _,ih (i+1) _ () Y (W.frame _ h1 h' S λb O o q=>?_) (λa its y=>Q8s dD a2 sb a its (G a its (J a its y))) g2 λh' a1 g' k'=>hR h' a1 g' λb o O q=>k' b o O ?_⟩
  ·exact(sb.2 b λz=>hD (by rw[<- z];exact O)).trans q
  ·refine(sb.2 b λz=>O (by simp[z])).trans (hm b o (λz=>O (O3 _ z)) q)
set_option maxHeartbeats 3200000 in
def yf {s:aC} {E:zAD} {l:aB} {j:Array aA} {ks:List HK} {Q:zAD} (hu:A.units+9<aS) (hh:A.handled=zl) (hl:s.heap.IsTuple l j) (hn:j.size=ks.length)
  (hv:∀(i:Nat)(v:aA),j[i]?=zo v->∃k b,ks[i]?=zo k/\v=.ref b/\(nk prog w).is s.heap k b/\B b) (hb:ks.length<=76)
  (h:∀h' tk,GH prog w B (byT w) h' s.heap.objs.size (Yy ks)->(∀b o,s.heap.get? b=zo o->h'.get? b=zo o)->Q (.ref s.heap.objs.size) {s with heap:=h',toks:=tk}):
  aF (aI prog w) A (call (.type "set") [.ref l]) Q E s:=by
 obtain⟨cc,tl,a6⟩:=F.called_set.mro;have m1:=F.called_set.made;have m2:=F.called_set.sub;refine wpAny_call (codeAny_of_tree ?_);show aF _ _ (callAny (.type "set") _) _ _ _;refine wpAny_pure ⟨Code.quiet_builtin _ (by decide +kernel),bA F.entry_type_call ?_⟩;rw[Around.under_plain (weight_type_call_type "set" [.ref l] []) rfl];have m3:=F.called_set.notType;have m4:=F.called_set.canCreate;have m5:=F.typeCall_set_1 (.ref l)
 repeat (any_goals (first|assumption|wp_step))
 refine bN (Qpb (.ref l) (E:=E) (Z:=λob s1=>ob=.ref s.heap.objs.size/\s1={s with heap:=s.heap.push (Y8 w)}) ⟨rfl,rfl⟩) λrr s1 q=>?_
 cases rr with
|error e=>exact q
|ok fl=>
  cases fl with
  |ret ob=>
   obtain⟨rfl,rfl⟩:=q;have o1:(s.heap.push (Y8 w)).get? s.heap.objs.size=zo (Y8 w):=D4 _ rfl;have hT:Shared.TypeIs {s with heap:=s.heap.push (Y8 w)} (.ref s.heap.objs.size) "set":=⟨_,o1,rfl⟩;have n1:=F.called_set.init.lookup;have n2:=F.called_set.init.bind (.ref s.heap.objs.size)
   repeat (any_goals (first|assumption|wp_step))
   refine bN (codeAny_call_builtin (R:=wants (λr s2=>r=.none/\∃h' tk,s2={s with heap:=h',toks:=tk}/\GH prog w B (byT w) h' s.heap.objs.size (Yy ks)/\∀b o,s.heap.get? b=zo o->h'.get? b=zo o) E) F.called_set.init.plain F.entry_set_init (check_set_init_1 hT ?_)) λr2 s2 q2=>?_
   ·obtain⟨ol,O,S,nl,U⟩:=hl;obtain⟨a7,J,a5,z⟩:=ol;simp only at S U;subst S;subst U;have G:(s.heap.push (Y8 w)).get? l=zo {cls:=.type "tuple",dict:=J,data:=.seq j nl,slots:=z}:=O4 _ O;have a1:=Q32;have a2:=Q24;have a3:(bu "tuple"==bu "dict")=yo:=by decide
    have I:(s.heap.push (Y8 w)).IsTuple l j:=⟨_,G,rfl,nl,rfl⟩;unfold Y8 at o1 hT G I ⊢;unfold Builtin.«set.__init__» noKeywords Builtin.Frozenset.updateFrom;generalize a4:pyIter=PI
    wp_walk
    subst a4;refine bL I ?_;refine aD (wpAny_runValue ?_);have b0:l<s.heap.objs.size:=D0 O;have b1:l≠(s.heap.push (Y8 w)).objs.size:=by rw[L6];exact F0 (dB b0)
    have b2:s.heap.objs.size≠(s.heap.push (Y8 w)).objs.size:=by rw[L6];exact F0 (dP _)
    have W:=Walks.tuple (prog:=prog) (w:=w) (A:=A.in1.in1.in1) (by simpa using hh) (s.heap.push (Y8 w)).objs.size l b1 j;have tk:∀a its,IsTup s.heap a its->IsTup ((s.heap.push (Y8 w)).push {cls:=.type "tuple_iterator",data:=.fields #[.ref l,aU 0]}) a its:=λa its ⟨o',x1,x2⟩=>⟨o',O4 _ (O4 _ x1),x2⟩
    unfold Y8 at tk;refine Qfd (by show A.units+1+1+1+5<aS;omega) W (by simp only[D7,dR,or_false,not_or];exact⟨b2,cC b0⟩) (λi h ⟨x,_⟩ its y=>Q84 x y) hn (λi v hP=>hv i v hP) hb j.size 0 _ () (G8 _) ⟨⟨_,D4 _ rfl,rfl,rfl⟩,I.push _⟩ tk ?g0 λh' tk g' k'=>?gR
    case g0=>
     exact⟨_,#[],0,_,O4 _ o1,⟨rfl,rfl,rfl⟩,rfl,⟨[],by simp[Yy],.nil⟩,by simp[Yy],Qmf _⟩
    case gR=>
     show aF _ _ _ _ _ _;refine wpAny_pure ?_;show aF _ _ (ret bi) _ _ _;refine wpAny_pure ⟨rfl,h',tk,rfl,g',λb o e=>?_⟩;have c0:=D0 e;refine k' b o ?_ (O4 _ (O4 _ e));simp only[D7,dR,or_false,not_or];exact⟨F0 c0,F0 (by rw[L6];exact dB c0)⟩
   ·cases r2 with
    |error e=>exact q2
    |ok Y=>
     cases Y with
     |ret r=>
      obtain⟨rfl,h',tk,rfl,g',k'⟩:=q2
      repeat (any_goals (first|assumption|wp_step))
      exact h h' tk g' k'
     |_=>exact q2.elim
  |_=>exact q.elim
end
end L2
namespace L2
open PySem PySem.Spec PyProof.Rows PySem.W
variable{prog:aK}{A:aO}{E:zAD}{s:aC}
section
variable{w:aJ}
def dQ:Int×Str:=(0,cm)
inductive PrsAre(h:Heap):List aA->List (Int×Str)->Prop
|nil:PrsAre h [] []
|cons {a:aB} {o:Obj} {x:Int} {y:Str} {t u:Tok} {n:Nat} {vs:List aA} {nss:List (Int×Str)} (ho:h.get? a=zo o) (hc:o.cls=.type "tuple") (hd:o.data=.seq #[.int x t,.str y u] n) (r:PrsAre h vs nss):PrsAre h (.ref a::vs) ((x,y)::nss)
def PrsAre.keep{h h':Heap}(k:∀b o,h.get? b=zo o->h'.get? b=zo o):∀{vs:List aA}{nss:List (Int×Str)},PrsAre h vs nss->PrsAre h' vs nss
|_,_,.nil=>.nil
|_,_,.cons q j hd r=>.cons (k _ _ q) j hd (r.keep k)
def PrsAre.keepT{h h':Heap}(k:∀b o,o.cls=.type "tuple"->h.get? b=zo o->h'.get? b=zo o):∀{vs:List aA}{nss:List (Int×Str)},PrsAre h vs nss->PrsAre h' vs nss
|_,_,.nil=>.nil
|_,_,.cons q j hd r=>.cons (k _ _ j q) j hd (r.keepT k)
def PrsAre.length:∀{vs:List aA}{nss:List (Int×Str)},PrsAre h vs nss->vs.length=nss.length
|_,_,.nil=>rfl
|_,_,.cons _ _ _ r=>by rw[D6,D6,r.length]
def PrsAre.at{h:Heap}:∀{vs:List aA}{nss:List (Int×Str)},PrsAre h vs nss->∀i,i<vs.length->∃a o t u n,vs.getD i bi=.ref a/\h.get? a=zo o/\o.data=.seq #[.int (nss.getD i dQ).1 t,.str (nss.getD i dQ).2 u] n
|_,_,.nil,i,hi=>by simp at hi
|_,_,.cons j q hd r,0,_=>⟨_,_,_,_,_,rfl,j,hd⟩
|_,_,.cons j q hd r,i+1,z=>by
  obtain⟨a,o,t,u,n,h1,h2,G⟩:=r.at i (by simpa using z);exact⟨a,o,t,u,n,by simpa using h1,h2,by simpa using G⟩
def PrsAre.firsts:∀{vs:List aA}{nss:List (Int×Str)},PrsAre h vs nss->∃fs,KatTups h vs fs/\fs.length=vs.length/\∀v∈fs,Looks M h (typeOf v) (.type "int")
|_,_,.nil=>⟨[],.nil,rfl,λv j=>by cases j⟩
|_,_,.cons (x:=x0) (t:=t) G q hd r=>by
  obtain⟨fs,h1,h2,z⟩:=r.firsts (M:=M);refine⟨.int x0 t::fs,.cons G q hd rfl h1,by simp[h2],λv j=>?_⟩;rcases D7.mp j with rfl|j
  ·exact Looks.of_pure rfl
  ·exact z v j
def qg(a b:Str):Bool:=decide (a.cps.toList<b.cps.toList)
def U8(a b:Int×Str):Bool:=if a.1=b.1 then(if a.2=b.2 then yo else qg a.2 b.2)else decide (a.1<b.1)
def Qkg b{Q:Bool->aC->Prop}{p q:Int×Str}(h:Q (U8 p q) s):KatLex prog w A b yo Q ([.int p.1 t,.str p.2 u].zip [.int q.1 t',.str q.2 G]) 0 s:=by
 rw[eI];refine kat_cons (wpAny_eqBool_int ?_);unfold U8 at h
 by_cases z:p.1=q.1
 ·rw[bU z]at h;rw[z,beq_self_eq_true];refine kat_yes ?_;rw[eI];refine kat_cons (wpAny_eqBool_str ?_)
  by_cases y:p.2=q.2
  ·rw[bU y]at h;rw[bY y];refine kat_yes ?_;exact h
  ·rw[bV y]at h;rw[bW y];refine kat_no ?_;cases j:b&&(0+1==0)with
   |true=>cases b<;>simp at j
   |false=>exact kat_one _ _ (lt_str h)
 ·rw[bV z]at h;rw[beq_eq_false_iff_ne.mpr z];refine kat_no ?_;cases b&&0==0 with
  |true=>exact oneLt_int h
  |false=>exact kat_one _ _ (lt_int h)
def Qr6(a:List Nat):¬a<a:=List.lt_irrefl a
def X4(nss:List (Int×Str))(i:Nat):Nat:=(nss.filter λms=>U8 ms (nss.getD i dQ)).length
def Qny{a b:Str}(h:a.cps.toList=b.cps.toList):a=b:=by cases a;cases b;rw[Str.mk.injEq];exact jJ.mp h
def Q4c a:U8 a a=yo:=by unfold U8;rw[bU rfl,bU rfl]
def Q8x(h1:qg a b=zb)(h2:qg b c=zb):qg a c=zb:=by
 unfold qg at*;exact bY (List.lt_trans (of_decide_eq_true h1) (of_decide_eq_true h2))
def Qhn{a b:Str}(h:qg a b=zb):a≠b:=λe=>by subst e;exact Qr6 _ (of_decide_eq_true h)
def Q6v{a b:List Nat}(h:¬b<a):a<=b:=h
def Qf8{a b:Str}(h:¬a=b):qg a b=zb\/qg b a=zb:=by
 unfold qg;have:¬a.cps.toList=b.cps.toList:=λe=>h (Qny e)
 by_cases z:a.cps.toList<b.cps.toList
 ·exact .inl (bY z)
 ·by_cases j:b.cps.toList<a.cps.toList
  ·exact .inr (bY j)
  ·exact absurd (List.le_antisymm (Q6v j) (Q6v z)) this
def lexQ_is{a b:Int×Str}:U8 a b=zb<->a.1<b.1\/a.1=b.1/\qg a.2 b.2=zb:=by
 unfold U8
 by_cases z:a.1=b.1
 ·rw[bU z]
  by_cases y:a.2=b.2
  ·rw[bU y];constructor
   ·intro h;cases h
   ·rintro (h|⟨_,h⟩)
    ·omega
    ·exact absurd y (Qhn h)
  ·rw[bV y];exact⟨λh=>.inr ⟨z,h⟩,λh=>h.elim (λh=>by omega) (·.2)⟩
 ·rw[bV z];simp[z]
def x9(h1:U8 a b=zb)(h2:U8 b c=zb):U8 a c=zb:=by
 rw[lexQ_is]at*;rcases h1 with h1|⟨h1,j⟩<;>rcases h2 with h2|⟨h2,g2⟩
 ·left;omega
 ·left;omega
 ·left;omega
 ·exact .inr ⟨by omega,Q8x j g2⟩
def Q4b(h1:U8 a b=yo)(h2:U8 b a=yo):a=b:=by
 have n1:¬(a.1<b.1\/a.1=b.1/\qg a.2 b.2=zb):=λz=>by rw[lexQ_is.mpr z]at h1;cases h1
 have j:¬(b.1<a.1\/b.1=a.1/\qg b.2 a.2=zb):=λz=>by rw[lexQ_is.mpr z]at h2;cases h2
 have e:a.1=b.1:=by
  by_cases q:a.1<b.1
  ·exact absurd (.inl q) n1
  ·by_cases G:b.1<a.1
   ·exact absurd (.inl G) j
   ·omega
 by_cases y:a.2=b.2
 ·exact cw e y
 ·rcases Qf8 y with z|z
  ·exact absurd (.inr ⟨e,z⟩) n1
  ·exact absurd (.inr ⟨e.symm,z⟩) j
def Q9i{nss:List (Int×Str)}(hi:i<nss.length)(G:j<nss.length):cR (X4 nss) i j=U8 (nss.getD i dQ) (nss.getD j dQ):=by
 have mem:∀k,k<nss.length->nss.getD k dQ∈nss:=λk J=>by
  rw[F1,O2 J];exact L5 J
 unfold cR;have q:∀{i j:Nat},i<nss.length->j<nss.length->U8 (nss.getD i dQ) (nss.getD j dQ)=zb->X4 nss i<X4 nss j:=λ{i j} hi G h=>
  yh (λx _ O=>x9 O h) ⟨nss.getD i dQ,mem i hi,Q4c _,h⟩
 cases z:U8 (nss.getD i dQ) (nss.getD j dQ)with
|true=>exact bY (q hi G z)
|false=>
  refine bW ?_;cases I:U8 (nss.getD j dQ) (nss.getD i dQ)with
  |true=>have:=q G hi I;omega
  |false=>
   have e:=Q4b z I;unfold X4;rw[e];exact N1 _
def Q92{vs:List aA}{nss:List (Int×Str)}{P:PySem.Fin->aC->Prop}(ho:s.heap.get? a=zo (seqObj "list" vs.toArray n))(hT:PrsAre s.heap vs nss)(b2:vs.length<64)(h:∀(p:List Nat)(h':Heap)k,p.Perm (ba vs.length)->(∀i,1<=i->i<vs.length->U8 (nss.getD (p.getD i 0) dQ) (nss.getD (p.getD (i-1) 0) dQ)=yo)->h'.get? a=zo (seqObj "list" (cJ (p.map λi=>vs.getD i bi)) k)->(∀b o,b≠a->s.heap.get? b=zo o->h'.get? b=zo o)->P (.done (.ret .none)) {s with heap:=h'}):
  aF (aI prog w) A (Builtin.«list.sort» ⟨[.ref a],[]⟩) P E s:=by
 have ha:a<s.heap.objs.size:=D0 ho;obtain⟨e1,a5⟩:∃e1,(s.heap.update a (bx λ_=>(#[]:Array aA))).get? a=zo (seqObj "list" #[] e1):=⟨_,get?_update_seq ho λ_=>#[]⟩
 have I:∀b o,b≠a->s.heap.get? b=zo o->(((s.heap.update a (bx λ_=>(#[]:Array aA))).push (seqObj "tuple" vs.toArray 0)).push (seqObj "list" #[] 0)).get? b=zo o:=λb o hb e=>
  O4 _ (O4 _ (by rw[Heap.get?_update_ne _ _ _ _ hb];exact e))
 have U:(((s.heap.update a (bx λ_=>(#[]:Array aA))).push (seqObj "tuple" vs.toArray 0)).push (seqObj "list" #[] 0)).get? a=zo (seqObj "list" #[] e1):=O4 _ (O4 _ a5)
 rw[list_sort_plain];refine aD (listItems_at ho rfl ?_);refine aD (listUpdate_at ho rfl ?_ (by rw[O8,sizeLine_eq];omega) (G8 _));refine aD (seqEpoch_at a5 rfl ?_);refine aD (wpAny_newTuple ?_ (by show vs.length<=_;rw[sizeLine_eq];omega));refine aD (wpAny_newList ?_ (G8 _));refine ae ?_;show aF (aI prog w) A _ P E {s with heap:=((s.heap.update a (bx λ_=>(#[]:Array aA))).push (seqObj "tuple" vs.toArray 0)).push (seqObj "list" #[] 0)}
 dsimp only;generalize hH:((s.heap.update a (bx λ_=>(#[]:Array aA))).push (seqObj "tuple" vs.toArray 0)).push (seqObj "list" #[] 0)=S at*
 have fin:∀(st:SortSt)(p:List Nat),p.Perm (ba vs.length)->(arrOf st).map (·.2)=cJ (p.map λi=>vs.getD i bi)->failedOf st=zl->(∀i,1<=i->i<vs.length->U8 (nss.getD (p.getD i 0) dQ) (nss.getD (p.getD (i-1) 0) dQ)=yo)->
   aF (aI prog w) A (do
    let O:=(arrOf st).map (·.2)
    let J:=(<- seqEpoch a) !=e1
    Builtin.List.listUpdate (.ref a) λ_=>O
    if let zo e:=failedOf st then rule "list.sort.comparison-raised";throw e
    if J then rule "list.sort.modified";raiseError "ValueError" "list modified during sort"
    ret .none) P E {s with heap:=S}:=λst p hp b0 hf hs=>by
  dsimp only;have hl:(cJ (p.map λi=>vs.getD i bi)).size=vs.length:=by rw[O8,O1,hp.length_eq,F9]
  obtain⟨c2,b3⟩:∃c2,(S.update a (bx λ_=>cJ (p.map λi=>vs.getD i bi))).get? a=zo (seqObj "list" (cJ (p.map λi=>vs.getD i bi)) c2):=⟨_,get?_update_seq U λ_=>cJ (p.map λi=>vs.getD i bi)⟩
  rw[b0,hf];refine aD (seqEpoch_at U rfl ?_);refine aD (listUpdate_at U rfl ?_ (G8 _) (E8 (eN hl) (by rw[sizeLine_eq];omega)));simp only[bne_self_eq_false,F5,if_false];exact wpAny_pure (h p _ c2 hp hs b3 λb o hb e=>by rw[Heap.get?_update_ne _ _ _ _ hb];exact I b o hb e)
 by_cases h2:vs.toArray.size<2
 ·rw[bU h2,bU h2];refine aD (wpAny_pure ?_);rw[StateT.run_pure];refine aD (wpAny_pure ?_);refine fin (SortSt.mk' general' (vs.toArray.zip vs.toArray) #[] 7 zl) (ba vs.length) (cT _) ?_ rfl (λi g1 g2=>?_)
  ·show(vs.toArray.zip vs.toArray).map (·.2)=_;apply jJ.mp;apply cf;intro i
   by_cases z:i<vs.length
   ·simp[z]
   ·simp[z]
  ·rw[O8]at h2;omega
 ·rw[bV h2,bV h2];rw[O8]at h2;have Y:PrsAre S vs nss:=hT.keepT λb o hc e=>I b o (λz=>by
   rw[z,ho]at e;have e:=bt e;rw[<- e]at hc;exact absurd (show bu "list"=.type "tuple" from hc) (by decide)) e
  obtain⟨fs,k1,k2,k3⟩:=Y.firsts (M:=aI prog w);refine aD (kat_kind (s:={s with heap:=S}) (T:=.type "int") k1 () k3 (by decide) ?_);have a7:∀i j(C:Bool->aC->Prop),i<vs.length->j<vs.length->C (cR (X4 nss) i j) {s with heap:=S}->kas_ask prog w A (tuples' (bu "int" !=bu "tuple")) vs i j C {s with heap:=S}:=λi j C hi hj q=>by
   obtain⟨ai,oi,ti,ui,ni,e1,e2,e3⟩:=Y.at i hi;obtain⟨aj,oj,tj,uj,nj,f1,f2,f3⟩:=Y.at j hj;rw[Q9i (by rw[<- hT.length];exact hi) (by rw[<- hT.length];exact hj)]at q;unfold kas_ask;rw[e1,f1];exact kat_lt e2 e3 f2 f3 (Qkg _ q)
  have Z:=Qp3 (r:=X4 nss) (n:=vs.length) ();refine aD (ak (kat_run (vs:=vs) (ks:=vs) (Q:=λst' s'=>s'={s with heap:=S}/\arrOf st'=(evT (cR (X4 nss)) (kas_sort vs.length)).map (kas_item (vs.toArray.zip vs.toArray))/\failedOf st'=zl)
   (G:=λp s'=>s'={s with heap:=S}/\p=evT (cR (X4 nss)) (kas_sort vs.length)) rfl () b2 (λp' st' s' a1 a2 a3 a4=>⟨a4.1,by rw[<- a4.2];exact a2,a3⟩) (Qaf a7 _ (λ_=>True) _ (Qh8 ()) ⟨rfl,rfl⟩)) ?_ λ_ _ e=>e)
  rintro ⟨⟨⟩,st'⟩ s' ⟨rfl,a9,hf⟩;have b1:(evT (cR (X4 nss)) (kas_sort vs.length)).toList.Perm (ba vs.length):=by
   have:=iS.mp Z.2;simpa using this
  refine fin st' _ b1 (kat_snds rfl a9) hf λi g1 g2=>?_
  have hr:=Z.1 i g1 g2;have a6:∀k,(evT (cR (X4 nss)) (kas_sort vs.length)).toList.getD k 0<vs.length:=λk=>by
   have a8:AL vs.length (evT (cR (X4 nss)) (kas_sort vs.length)):=AL.perm (p:=cJ (ba vs.length)) ⟨by omega,λx hx=>by simpa using hx⟩ Z.2;have:=a8.get k;rw[dS,<- bn]at this;rw[F1];exact this
  have hg:∀k,(evT (cR (X4 nss)) (kas_sort vs.length)).getD k 0=(evT (cR (X4 nss)) (kas_sort vs.length)).toList.getD k 0:=λk=>by
   rw[dS,<- bn,F1]
  unfold rk at hr;rw[hg,hg]at hr;have:=Q9i (nss:=nss) (i:=(evT (cR (X4 nss)) (kas_sort vs.length)).toList.getD i 0) (j:=(evT (cR (X4 nss)) (kas_sort vs.length)).toList.getD (i-1) 0) (by rw[<- hT.length];exact a6 _) (by rw[<- hT.length];exact a6 _);rw[<- this];exact bW (iF.mpr hr)
def Q91{es:Array DictEntry}{nss:List (Int×Str)}{Q:zAD}(lo:(d==ag)=yo)(hh:A.handled=zl)(hm:RawD s.heap d es ep)(U:PrsAre s.heap (es.toList.map (·.key)) nss)(J:(es.toList.map (·.key)).length<64)(h:∀(p:List Nat)(h':Heap)D k tk,p.Perm (ba (es.toList.map (·.key)).length)->(∀i,1<=i->i<(es.toList.map (·.key)).length->U8 (nss.getD (p.getD i 0) dQ) (nss.getD (p.getD (i-1) 0) dQ)=yo)->s.heap.objs.size<=D->h'.get? D=zo (seqObj "list" (cJ (p.map λi=>(es.toList.map (·.key)).getD i bi)) k)->(∀b o,s.heap.get? b=zo o->h'.get? b=zo o)->Q (.ref D) {s with heap:=h',toks:=tk}):
  aF (aI prog w) A (call (.builtin "sorted") [.ref d]) Q E s:=by
 have hsz:es.size<=sizeLine:=by
  have:(es.toList.map (·.key)).length=es.size:=by simp
  rw[sizeLine_eq];omega
 refine Calls.call_function_entry kind_sorted plain_sorted entry_sorted (args_sorted1 _) ?_;unfold Builtin.«sorted»;refine aD (m:=checkCount "sorted" 1 1 _) (wpAny_pure ?_);refine aD (Qay lo (by simpa using hh) hm hsz λh1 z j I=>?_)
 refine aD (wpAny_newList ?_ (by rw[sizeLine_eq];omega));generalize es.toList.map (·.key)=vs at*;have G:(h1.push (seqObj "list" vs.toArray 0)).get? h1.objs.size=zo (seqObj "list" vs.toArray 0):=D4 _ rfl;have keep:∀b o,s.heap.get? b=zo o->(h1.push (seqObj "list" vs.toArray 0)).get? b=zo o:=λb o q=>O4 _ (j b o q)
 show aF _ _ _ _ _ {s with heap:=h1.push (seqObj "list" vs.toArray 0),toks:=z};refine aD (ae (af slot_list_sort ⟨_,G,rfl⟩ entry_list_sort ?body (args_list_sort _)))
 case body=>
  refine Q92 (s:={s with heap:=h1.push (seqObj "list" vs.toArray 0),toks:=z}) G (U.keep keep) J λp h' k Z Y O S=>?_
  exact⟨_,rfl,wpAny_pure ⟨_,rfl,h p h' _ k z Z Y I O λb o e=>S b o (F0 (D0 (j b o e))) (keep b o e)⟩⟩
end
def Qci(a:Int×Str):List (Int×Str)->List (Int×Str)
|[]=>[a]
|b::r=>if U8 b a=zb then b::Qci a r else a::b::r
def Xe:List (Int×Str)->List (Int×Str)
|[]=>[]
|a::r=>Qci a (Xe r)
def leQ(a b:Int×Str):Prop:=U8 b a=yo
def Q82 a b:leQ a b<->a=b\/U8 a b=zb:=by
 unfold leQ;constructor
 ·intro h;cases z:U8 a b with
  |true=>exact .inr rfl
  |false=>exact .inl (Q4b z h)
 ·rintro (rfl|h)
  ·exact Q4c a
  ·cases z:U8 b a with
   |false=>rfl
   |true=>have:=x9 h z;rw[Q4c]at this;cases this
def Q69(h1:leQ a b)(h2:leQ b c):leQ a c:=by
 rw[Q82]at*;rcases h1 with rfl|h1
 ·exact h2
 ·rcases h2 with rfl|h2
  ·exact .inr h1
  ·exact .inr (x9 h1 h2)
def Qki(h1:leQ a b)(h2:leQ b a):a=b:=Q4b h2 h1
def Q1i a:∀l,(Qci a l).Perm (a::l)
|[]=>cT _
|b::r=>by
  rw[Qci]
  split
  ·exact((Q1i a r).cons b).trans (eU a b r)
  ·exact cT _
def Vi:∀l,(Xe l).Perm l
|[]=>cT _
|a::r=>(Q1i a (Xe r)).trans ((Vi r).cons a)
def Q1v:∀{l:List (Int×Str)},l.Pairwise leQ->(Qci a l).Pairwise leQ
|[],_=>by rw[Qci];exact List.pairwise_singleton _ _
|b::r,h=>by
  obtain⟨h1,h2⟩:=cq.mp h;rw[Qci]
  split
  ·rename_i q;refine cq.mpr ⟨λx j=>?_,Q1v h2⟩;rcases D7.mp ((Q1i a r).mem_iff.mp j)with rfl|j
   ·exact(Q82 b x).mpr (.inr q)
   ·exact h1 x j
  ·rename_i q;have z:leQ a b:=by unfold leQ;simpa using q
   refine cq.mpr ⟨λx j=>?_,h⟩;rcases D7.mp j with rfl|j
   ·exact z
   ·exact Q69 z (h1 x j)
def Wu:∀l,(Xe l).Pairwise leQ
|[]=>fi
|a::r=>Q1v (Wu r)
def Ks:∀{a b:List (Int×Str)},a.Perm b->a.Pairwise leQ->b.Pairwise leQ->a=b
|[],b,h,_,_=>(List.nil_perm.mp h).symm
|x::a,[],h,_,_=>absurd (List.perm_nil.mp h) (by simp)
|x::a,y::b,h,S,j=>by
  obtain⟨J,I⟩:=cq.mp S;obtain⟨O,z⟩:=cq.mp j;have e:x=y:=by
   rcases D7.mp (h.mem_iff.mp (E7 (a:=x) (l:=a)))with e|G
   ·exact e
   ·rcases D7.mp (h.mem_iff.mpr (E7 (a:=y) (l:=b)))with e|q
    ·exact e.symm
    ·exact Qki (J y q) (O x G)
  subst e;rw[Ks (kJ h) I z]
def Q3r{l:List (Int×Str)}(h:∀i,1<=i->i<l.length->U8 (l.getD i dQ) (l.getD (i-1) dQ)=yo):l.Pairwise leQ:=by
 rw[eT];have g:∀k(z:k<l.length),l.getD k dQ=l[k]:=λk z=>by rw[F1,O2 z];rfl
 have q:∀d i(hi:i+d<l.length),leQ (l.getD i dQ) (l.getD (i+d) dQ):=by
  intro d
  induction d with
  |zero=>intro i hi;exact(Q82 _ _).mpr (.inl rfl)
  |succ d G=>
   intro i hi;have h1:=G i ();have h2:=h (i+d+1) () ();rw[fx]at h2;exact Q69 h1 h2
 intro i j hi J I;have:=q (j-i) i ();rw[show i+(j-i)=j by omega,g i hi,g j J]at this;exact this
def Q37{nss:List (Int×Str)}{p:List Nat}(q:p.Perm (ba nss.length))(h:∀i,1<=i->i<nss.length->U8 (nss.getD (p.getD i 0) dQ) (nss.getD (p.getD (i-1) 0) dQ)=yo):p.map (λi=>nss.getD i dQ)=Xe nss:=by
 have S:p.length=nss.length:=by rw[q.length_eq,F9]
 have O:(ba nss.length).map (λi=>nss.getD i dQ)=nss:=by
  apply cf;intro i
  by_cases z:i<nss.length
  ·simp[z]
  ·simp[z]
 have J:(p.map λi=>nss.getD i dQ).Perm nss:=by
  have:=q.map (λi=>nss.getD i dQ)
  rwa [O]at this
 have j:∀k,k<p.length->(p.map λi=>nss.getD i dQ).getD k dQ=nss.getD (p.getD k 0) dQ:=λk G=>by
  rw[F1,D8,O2 G,F1 (l:=p),O2 G];rfl
 refine Ks (J.trans (Vi nss).symm) (Q3r λi I g2=>?_) (Wu nss);rw[O1]at g2;rw[j i g2,j (i-1) ()];exact h i I ()
def Q9k{H:Hp}(ok:HOk P w H h):∀{j:List (HK×V)}{z:List aB}{nss:List (Int×Str)},aR (λ(p:HK×V) (b:aB)=>KR H p.1 b) j z->aR (λ(p:HK×V) (ns:Int×Str)=>p.1=.tup [.int ns.1,.str ns.2]) j nss->PrsAre h (z.map bc) nss/\aR (λ(v:V) (ns:Int×Str)=>∃b,v=.ref b/\H b=zo (.tup [.int ns.1,.str ns.2])) (z.map V.ref) nss
|[],_,_,.nil,.nil=>⟨.nil,.nil⟩
|p::j,a::z,ns::nss,.cons G t,.cons hn u=>by
  obtain⟨J,O⟩:=Q9k ok t u;rw[hn]at G;obtain⟨⟨b,vs,e,I,v1,q1,Y,k1,v2,q2,e2,k2,k3⟩,_⟩:=G;cases e;cases k1;cases k2;cases k3;subst e2;subst Y;obtain⟨_,Z,q,o,U,S,n,hd⟩:=ok a _ I;refine⟨?_,.cons ⟨a,rfl,I⟩ O⟩;cases q with
  |cons x1 q=>
   cases q with
   |cons x2 q=>
    cases q;obtain⟨t1,rfl⟩:=x1;obtain⟨t2,rfl⟩:=x2;exact .cons U S hd J
variable{X:Cx}
def Q5h (a6:X.calm=zb):W6 X (.builtin "sorted") (λxs H Q=>∃a,∃j:List (HK×V),∃nss:List (Int×Str),xs=[.ref a]/\H a=zo (.dT j)/\j.length<64/\aR (λ(p:HK×V) (ns:Int×Str)=>p.1=.tup [.int ns.1,.str ns.2]) j nss/\
  ∀d(G:List Nat)(vs:List V),H d=zl->aR (λ(v:V) (ns:Int×Str)=>∃b,v=.ref b/\H b=zo (.tup [.int ns.1,.str ns.2])) vs nss->G.Perm (ba nss.length)->G.map (λi=>nss.getD i dQ)=Xe nss->Q (.ref d) (upd H d (.lst (G.map λi=>vs.getD i .non)))):=by
 intro pins s σ H xs us Q I r h;obtain⟨a,j,nss,rfl,ea,a9,hp,q⟩:=h;obtain⟨u,rfl,rx⟩:=Uy r;cases rx;obtain⟨z,hs,es,ep,J,hr,Z,S⟩:=Qcs I.hok ea;obtain⟨T,Y⟩:=Q9k I.hok S hp;have l1:j.length=J.length:=Paired.length S;have l2:j.length=nss.length:=Paired.length hp;refine Q91 hs (I.ok.hd a6) hr (by rw[Z];exact T) (by rw[Z,O1];omega) λG h' D k tk O a2 a3 a4 a5=>?_
 rw[Z]at O a2 a4;rw[O1]at O a2;have e:=Q37 (nss:=nss) (p:=G) (by rw[<- l2,l1];exact O) (λi g1 g2=>a2 i g1 ())
 have a8:G.length=J.length:=by rw[O.length_eq,F9]
 have hv:Vals (G.map λi=>(J.map V.ref).getD i .non) (G.map λi=>(J.map bc).getD i bi):=by
  have a7:∀l:List Nat,(∀x∈l,x<J.length)->Vals (l.map λi=>(J.map V.ref).getD i .non) (l.map λi=>(J.map bc).getD i bi):=by
   intro l
   induction l with
   |nil=>intro _;exact .nil
   |cons x l ih=>
    intro hl;have U:=hl x (by simp);refine .cons ?_ (ih λy hy=>hl y (O3 _ hy))
    show RelV ((J.map V.ref).getD x .non) ((J.map bc).getD x bi);rw[F1,D8,O2 U,F1,D8,O2 U];rfl
  exact a7 G λx U=>by have:=O.mem_iff.mp U;simpa using this
 exact⟨.ref D,_,I.laid (t':=tk) (o:=.lst (G.map λi=>(J.map V.ref).getD i .non)) a5 a3 ⟨by rw[O1];rw[sizeLine_eq]at*;omega,_,k,hv,a4⟩,rfl,q D G _ (I.hok.fresh a3) Y (by rw[<- l2,l1];exact O) e⟩
end L2
namespace L2
open PySem PySem.Spec PyProof.Rows SeqAt
variable{prog:aK}{A:aO}{R:Result->aC->Prop}
section
variable{w:aJ}
def Ju(xs ps:List (HK×aB×aA)):List (HK×aB×aA):=ps.foldl (λacc p=>storedH acc p.1 p.2.1 p.2.2) xs
def Q8y(xs:List (HK×aB×aA))k a v:(storedH xs k a v).length<=xs.length+1:=by
 unfold storedH
 split<;>simp
def Q33(xs:List (HK×aB×aA)):∀ps,(Ju xs ps).length<=xs.length+ps.length:=by
 intro ps;unfold Ju
 induction ps generalizing xs with
|nil=>simp
|cons p ps j=>
  rw[F8,D6];have h1:=j (storedH xs p.1 p.2.1 p.2.2);have h2:=Q8y xs p.1 p.2.1 p.2.2;omega
def Q25 xs ps(p:HK×aB×aA):Ju xs (ps++[p])=storedH (Ju xs ps) p.1 p.2.1 p.2.2:=by unfold Ju;rw[dX];rfl
def Qez(prog:aK)(w:aJ)(h:Heap)(v:aA)(p:HK×aB×aA):Prop:=∃a,v=.ref a/\IsTup h a #[.ref p.2.1,p.2.2]/\(nk prog w).is h p.1 p.2.1
def Q2r{h h':Heap}(d:h.DictOfH (nk prog w) D xs)(k:∀o,h.get? D=zo o->h'.get? D=zo o)(J:∀a its,IsTup h a its->IsTup h' a its):h'.DictOfH (nk prog w) D xs:=by
 obtain⟨o,es,ep,h1,h2,I,G,q,z⟩:=d;exact⟨o,es,ep,k o h1,h2,I,G,λx j=>⟨KIs.keep J 5 (q x j).2 (q x j).1,(q x j).2⟩,z⟩
def Qf5 {I l D:aB} {j:Array aA} {xs ps:List (HK×aB×aA)} {h0:Heap} (hu:A.in1.units+5<aS) (hh:A.handled=zl) (b4:l≠I) (a2:D≠I) (b5:D≠l) (hI:∀b o,h0.get? b=zo o->b≠I) (b8:∀its,¬IsTup h0 D its)
  (hn:j.size=ps.length) (hp:∀(i:Nat)(v:aA)(p:HK×aB×aA),j[i]?=zo v->ps[i]?=zo p->Qez prog w h0 v p) (hsz:xs.length+ps.length<=sizeLine):
  ∀(k i:Nat)(s:aC),j.size-i=k->i<=j.size->(s.heap.IsListIter I l i/\s.heap.IsList l j)->(∀b o,b≠D->h0.get? b=zo o->s.heap.get? b=zo o)->s.heap.DictOfH (nk prog w) D (Ju xs (ps.take i))->
   (∀h' tk,h'.DictOfH (nk prog w) D (Ju xs ps)->(∀b o,b≠D->h0.get? b=zo o->h'.get? b=zo o)->R (.ok (.ret .none)) {s with heap:=h',toks:=tk})->
   codeAny (aI prog w) A (.builtin "dict.update.loop" ⟨[.ref D,.ref I,aU i,.none],[]⟩) R s:=by
 have W:=Walks.list (prog:=prog) (w:=w) (A:=A.in1) (by simpa using hh) I l b4 j;have nI:∀{i:Nat}{h:Heap},h.IsListIter I l i->∀its,¬IsTup h I its:=by
  rintro i h ⟨o,h1,h2,_⟩ its ⟨o',g1,g2,_⟩;rw[h1]at g1;cases g1;rw[h2]at g2;exact absurd g2 (by decide)
 intro k
 induction k with
|zero=>
  intro i s hk hi O q hD hR;have b2:i=j.size:=by omega
  subst b2;refine bA qp ?_;rw[Around.under_plainId W8 _];show aF _ A.in1 (ao (.ref I)>>=_) _ _ s;refine aD (W.done s _ _ O λh' tk hm=>?_);show aF _ A.in1 (Builtin.Dict.addKeywords D []>>=λ_=>ret bi) _ _ _;refine aD (wpAny_pure (wpAny_pure (hR h' tk ?_ λb o hb e=>hm b o (λz=>hI b o e (by simpa using z)) (q b o hb e))))
  rw[hn,dq]at hD;refine Q2r hD (λo e=>hm D o (λz=>a2 (by simpa using z)) e) λa its x=>?_
  have:a≠I:=λz=>by subst z;exact nI O.1 its x
  obtain⟨o',x1,x2⟩:=x;exact⟨o',hm a o' (by simpa using this) x1,x2⟩
|succ k ih=>
  intro i s hk hi O q hD hR;have a6:i<j.size:=by omega
  refine bA qp ?_;rw[Around.under_plainId W8 _];show aF _ A.in1 (ao (.ref I)>>=_) _ _ s;refine aD (W.item i s _ _ a6 O λv h' tk hP Z hm=>?_);have a4:i<ps.length:=by omega
  obtain⟨a,rfl,ht,S⟩:=hp i v ps[i] hP (O2 a4);have G:∀b o,b≠D->h0.get? b=zo o->h'.get? b=zo o:=λb o hb e=>hm b o (λz=>hI b o e (by simpa using z)) (q b o hb e)
  have a3:∀a its,IsTup h0 a its->IsTup h' a its:=λa its x=>by
   have:a≠D:=λz=>by subst z;exact b8 its x
   obtain⟨o',x1,x2⟩:=x;exact⟨o',G a o' this x1,x2⟩
  have a9:h'.DictOfH (nk prog w) D (Ju xs (ps.take i)):=Q2r hD (λo e=>hm D o (λz=>a2 (by simpa using z)) e) λa its x=>by
   have:a≠I:=λz=>by subst z;exact nI O.1 its x
   obtain⟨o',x1,x2⟩:=x;exact⟨o',hm a o' (by simpa using this) x1,x2⟩
  have a1:(nk prog w).is h' ps[i].1 ps[i].2.1:=⟨KIs.keep a3 5 S.2 S.1,S.2⟩;show aF _ A.in1 (av [bc a] _>>=_) _ _ _;refine aD (ae ?_);obtain⟨ot,Y,b7,nt,a8⟩:=a3 a _ ht;have b6:Shared.TypeIs {s with heap:=h',toks:=tk} (.ref a) "tuple":=⟨ot,Y,b7⟩;refine aD (wpAny_tryCatch ?_);unfold Builtin.Dict.pairItems;refine aD (bG b6 ?_);rw[bU (by decide)];refine aD (bD Y a8 ?_);refine wpAny_pure ?_;show aF _ A.in1 (av [.ref ps[i].2.1,(ps[i]).2.2] (dictSet D (.ref ps[i].2.1) (ps[i]).2.2)) _ _ _;have b3:(Ju xs (ps.take i)).length<=sizeLine:=by
   have:=Q33 xs (ps.take i);have h2:(ps.take i).length<=ps.length:=by rw[cN];omega
   omega
  refine ae (wpAny_dictSet_heap (knd:=nk prog w) (s:={s with heap:=h',toks:=tk}) (k:=(ps[i]).1) hu a1 a9 (λU a5 J=>?_) b3);have b1:∀b o,b≠D->h0.get? b=zo o->U.get? b=zo o:=λb o hb e=>(J.2 b hb).trans (G b o hb e)
  have a7:U.IsListIter I l (i+1)/\U.IsList l j:=⟨Z.1.at λo e=>(J.2 I (Ne.symm a2)).trans e,Z.2.at λo e=>(J.2 l (Ne.symm b5)).trans e⟩;have e1:ps.take (i+1)=ps.take i++[ps[i]]:=by rw[gK,O2 a4];rfl
  have b0:U.DictOfH (nk prog w) D (Ju xs (ps.take (i+1))):=by rw[e1,Q25];exact a5
  exact wpAny_pure ⟨bH W8 _,ih (i+1) _ () a6 a7 b1 b0 λh3 t3 d3 k3=>hR h3 t3 d3 k3⟩
end
variable{X:Cx}
def putAll(kvs:List (HK×V))(ps:List (HK×aB×V)):List (HK×V):=ps.foldl (λacc p=>Kw acc p.1 p.2.2) kvs
def KT.putAll:∀{ps:List (HK×aB×V)}{z:List (HK×aB×aA)}{j:List (HK×V)}{xs:List (HK×aB×aA)},KT H j xs->aR (λ(p:HK×aB×V) (q:HK×aB×aA)=>p.1=q.1/\p.2.1=q.2.1/\KR H p.1 p.2.1/\RelV p.2.2 q.2.2) ps z->KT H (L2.putAll j ps) (Ju xs z)
|_,_,_,_,r,.nil=>r
|p::ps,q::z,_,_,r,.cons ⟨O,G,I,J⟩ t=>by
  show KT H (L2.putAll (Kw _ p.1 p.2.2) ps) (Ju (storedH _ q.1 q.2.1 q.2.2) z);rw[<- O,<- G];exact KT.putAll (r.put p.1 I J) t
def Qbt(j:List (HK×V)):∀ps,(putAll j ps).length<=j.length+ps.length:=by
 intro ps;unfold putAll
 induction ps generalizing j with
|nil=>simp
|cons p ps q=>
  rw[F8,D6];have h1:=q (Kw j p.1 p.2.2);have h2:=jp j p.1 p.2.2;omega
section
variable{prog:aK}{w:aJ}{K:Type}[DecidableEq K]
def Q09 (knd:HeapKind prog w K) (d:aB):
  MeetsIn prog w (Builtin.«dict.clear» ⟨[.ref d],[]⟩) (λ_ R s=>∃xs,s.heap.DictOfH knd d xs/\xs.length<=sizeLine/\
   ∀h',h'.DictOfH knd d []->Heap.SameBut d s.heap h'->R (.ok (.ret .none)) {s with heap:=h'}):=
 .of_wp λA R s ⟨xs,hm,hsz,h⟩=>by
  obtain⟨o,es,ep,z,J,j,G,S,O⟩:=id hm;have I:es.size<=sizeLine:=by have:=size_of_entries G;omega
  unfold Builtin.«dict.clear»;refine aD ?_;unfold Builtin.Dict.noArgs;refine aD (wpAny_notOrdered_dict hm.typeIs ?_);show aF _ _ (pure d) _ _ s;refine wpAny_pure ?_;refine aD (wpAny_dictEntries z j ?_);refine aD ?_;unfold bearsInstanceDictMark;refine aD (wpAny_load z (wpAny_pure ?_));refine aD (wpAny_updateDictKeys (hz:=I) z j ?_);have q:(s.heap.update d (Obj.mapDictKeys λ_=>#[])).DictOfH knd d []:=
   ⟨_,_,ep+1,G7 _ z (Obj.isFreed_of_dict (jK j _)),J.mapDictKeys _,jK j _,rfl,λ_ G=>by simp at G,dC⟩
  split
  ·exact aD (wpAny_letGo (wpAny_pure ⟨.none,rfl,h _ q (Heap.SameBut.update ..)⟩))
  ·exact aD (wpAny_pure (wpAny_pure ⟨.none,rfl,h _ q (Heap.SameBut.update ..)⟩))
end
def Qc7:MtM X "dict.clear" (λx xs H Q=>∃a j,x=.ref a/\xs=[]/\H a=zo (.dT j)/\Q .non (upd H a (.dT []))):=by
 intro pins s σ H x xs v us Q I U rv h;obtain⟨a,j,rfl,rfl,e,q⟩:=h;cases U;have J:=rv.zero;subst J;obtain⟨z,hd,ys,O,dd⟩:=Qmq I.hok e;refine call_meetsIn jL dd.typeIs PySem.F.entry_dict_clear (PySem.F.args_dict_clear_1 _) (Q09 (nk X.prog X.w) a) ⟨ys,dd,by rw[<- Paired.length O];exact z,λh' G hs=>?_⟩;have Z:∃q,h'.get? a=zo q:=let ⟨q,_,_,hq,_⟩:=G;⟨q,hq⟩;exact⟨.non,_,Q2t (t':=s.toks) I (by rw[e];exact True.intro) hs Z (show ObjOk X.prog X.w (upd H a (.dT [])) h' a (.dT [])from⟨G8 _,hd,[],.nil,let ⟨o,es,ep,h1,h2,h3,Y,_,S⟩:=G;⟨o,es,ep,h1,h2,h3,Y,S⟩⟩),rfl,q⟩
end L2
namespace L2
open PySem PySem.Spec PyProof.Rows PySem.W
def PrsAre.perm{Z:List aA}(p:Z.Perm l):∀{ns:List (Int×Str)},PrsAre h l ns->∃j,PrsAre h Z j/\j.Perm ns:=by
 induction p with
|nil=>intro ns h;exact⟨ns,h,cT _⟩
|cons x _ ih=>
  intro ns h;cases h with
  |cons z J hd q=>
   obtain⟨ks,h1,h2⟩:=ih q;exact⟨_,.cons z J hd h1,h2.cons _⟩
|swap x y l=>
  intro ns h;cases h with
  |cons z J hd q=>
   cases q with
   |cons S I Y O=>exact⟨_,.cons S I Y (.cons z J hd O),eU _ _ _⟩
|trans _ _ U G=>
  intro ns h;obtain⟨k1,h1,p1⟩:=G h;obtain⟨k2,h2,p2⟩:=U h1;exact⟨k2,h2,p2.trans p1⟩
def PrsAre.one:∀{vs:List aA}{ns:List (Int×Str)},PrsAre h vs ns->∀i,i<vs.length->PrsAre h [vs.getD i bi] [ns.getD i dQ]
|_,_,.nil,i,hi=>by simp at hi
|_,_,.cons q j hd r,0,_=>.cons q j hd .nil
|_,_,.cons q j hd r,i+1,z=>by simpa using r.one i (by simpa using z)
def PrsAre.app:∀{vs q:List aA}{ns j:List (Int×Str)},PrsAre h vs ns->PrsAre h q j->PrsAre h (vs++q) (ns++j)
|_,_,_,_,.nil,g=>g
|_,_,_,_,.cons G z hd r,g=>.cons G z hd (r.app g)
def PrsAre.pick{vs:List aA}{ns:List (Int×Str)}(r:PrsAre h vs ns):∀(p:List Nat),(∀i∈p,i<vs.length)->PrsAre h (p.map λi=>vs.getD i bi) (p.map λi=>ns.getD i dQ)
|[],_=>.nil
|i::p,q=>(r.one i (q i (by simp))).app (r.pick p λj z=>q j (O3 _ z))
def ye{a:List (Int×Str)}(h:a.Perm b):Xe a=Xe b:=Ks ((Vi a).trans (h.trans (Vi b).symm)) (Wu a) (Wu b)
variable{prog:aK}{A:aO}{E:zAD}{s:aC}
section
variable{w:aJ}
def zn{vs:List aA}:(ba vs.length).map (λi=>vs.getD i bi)=vs:=by
 apply cf;intro i
 by_cases z:i<vs.length
 ·simp[z]
 ·simp[z]
def Q90{es:zAB}{t:aW}{Q:zAD}(hh:A.handled=zl)(x:RawS s.heap d es ep t)(hf:t.fits es.size=zb)(g:Good (byT w) t)(hI:PrsAre s.heap (es.toList.map (·.2)) ns)(a5:es.size<64)(h:∀(J:List aA)(h':Heap)d' tk D k,PrsAre h' J (Xe ns)->J.Perm (es.toList.map (·.2))->s.heap.objs.size<=D->h'.get? D=zo (seqObj "list" J.toArray k)->(∀b o,s.heap.get? b=zo o->h'.get? b=zo o)->Q (.ref D) {s with heap:=h',drawn:=d',toks:=tk}):
  aF (aI prog w) A (call (.builtin "sorted") [.ref d]) Q E s:=by
 have hsz:es.size<=sizeLine:=by rw[sizeLine_eq];omega
 refine Calls.call_function_entry kind_sorted plain_sorted entry_sorted (args_sorted1 _) ?_;unfold Builtin.«sorted»;refine aD (m:=checkCount "sorted" 1 1 _) (wpAny_pure ?_);refine aD (Qax (by simpa using hh) x hf g hsz λvs h1 U G S j Z=>?_)
 have hl:vs.length=es.size:=by rw[S.length_eq];simp
 obtain⟨n1,i1,p1⟩:=PrsAre.perm S hI;refine aD (wpAny_newList ?_ (by rw[sizeLine_eq];omega));have I:(h1.push (seqObj "list" vs.toArray 0)).get? h1.objs.size=zo (seqObj "list" vs.toArray 0):=D4 _ rfl;have keep:∀b o,s.heap.get? b=zo o->(h1.push (seqObj "list" vs.toArray 0)).get? b=zo o:=λb o q=>O4 _ (j b o q)
 show aF _ _ _ _ _ {s with heap:=h1.push (seqObj "list" vs.toArray 0),drawn:=U,toks:=G};have i2:=i1.keep keep;refine aD (ae (af slot_list_sort ⟨_,I,rfl⟩ entry_list_sort ?body (args_list_sort _)))
 case body=>
  refine Q92 (s:={s with heap:=h1.push (seqObj "list" vs.toArray 0),drawn:=U,toks:=G}) I i2 () λp h' k a1 a2 a3 a4=>?_
  have Y:∀i∈p,i<vs.length:=λi hi=>by have:=a1.mem_iff.mp hi;simpa using this
  have e:=Q37 (nss:=n1) (p:=p) (by rw[<- i1.length];exact a1) (λi g1 g2=>a2 i g1 (by rw[i1.length];exact g2))
  have O:=i2.pick p Y;rw[e,ye p1]at O;refine⟨_,rfl,wpAny_pure ⟨_,rfl,h (p.map λi=>vs.getD i bi) h' U G _ k ?_ ?_ Z a3 λb o q=>a4 b o (F0 (D0 (j b o q))) (keep b o q)⟩⟩
  ·exact O.keepT λb o hc q=>a4 b o (λz=>by
    rw[z,I]at q;have q:=bt q;rw[<- q]at hc;exact absurd (show bu "list"=.type "tuple" from hc) (by decide)) q
  ·have:=a1.map (λi=>vs.getD i bi);rw[zn]at this;exact this.trans S
end
def J09(w:aJ)(h:Heap)(a:aB)(bs:List aB):Prop:=∃o es ep t,h.get? a=zo o/\o.ExactSet/\o.data=.set es ep t/\es.toList.map (·.2)=bs.map bc/\t.fits es.size=zb/\Good (byT w) t
def Q6f(w:aJ)(a:aB)(bs:List aB):HO:=.ext λh=>J09 w h a bs
variable{X:Cx}
def Qt9(q:∀k b,KR H k b->(nk P w).is h' k b):∀{es:List (Int×aA)}{ks:List HK},aR (ElH P w (λb=>∃k,KR H k b) h') es ks->∃bs:List aB,es.map (·.2)=bs.map bc/\aR (λb k=>KR H k b) bs ks
|[],_,.nil=>⟨[],rfl,.nil⟩
|e::es,k::ks,.cons ⟨b,G,z,_,k2,j⟩ t=>by
  obtain⟨bs,h1,h2⟩:=Qt9 q t;have:k=k2:=(nk P w).inj z (q k2 b j);exact⟨b::bs,by rw[D3,D3,G,h1],.cons (by rw[this];exact j) h2⟩
def Qgz(hu:X.A.units+9<aS)(hc:X.calm=zb):W6 X (.type "set") (λxs H Q=>∃p vs,∃ks:List HK,xs=[.ref p]/\SqT X.K H p vs/\aR (λv k=>∃b,v=.ref b/\KR H k b) vs ks/\ks.length<=76/\∀l bs j,H l=zl->j.Perm (Yy ks)->aR (λb k=>KR H k b) bs j->Q (.ref l) (upd H l (Q6f X.w l bs))):=by
 intro pins s σ H xs us Q I r h;obtain⟨p,vs,ks,rfl,hq,U,hl,q⟩:=h;obtain⟨u,rfl,O⟩:=Uy r;cases O;obtain⟨its,S,pl,hz⟩:=I.tuple hq;have J:its.length=ks.length:=by rw[<- S.length,Paired.length U]
 refine yf (B:=λb=>∃k,KR H k b) (ks:=ks) hu (I.ok.hd hc) pl (by rw[O8,J]) (λi v e=>?_) hl λh' tk gh k=>?_
 ·have e:its[i]?=zo v:=by simpa using e
  have hi:i<vs.length:=by have:=(O0.mp e).1;rw[S.length];exact this
  obtain⟨x,ex,O⟩:=S.get (O2 hi);rw[e]at ex;cases ex;obtain⟨k,Z,b,Y,G⟩:=Kx U (O2 hi);rw[Y]at O;cases O;exact⟨k,b,Z,rfl,Up I.hok G,k,G⟩
 ·obtain⟨o,es,ep,t,h1,h2,h3,⟨j,p1,r1⟩,h5,h6⟩:=gh;obtain⟨bs,b1,b2⟩:=Qt9 (λk2 b G=>⟨KIs.keep (λa its ⟨o',x1,x2⟩=>⟨o',k a o' x1,x2⟩) 5 (Up I.hok G).2 (Up (P:=X.prog) (w:=X.w) I.hok G).1,(Up (P:=X.prog) (w:=X.w) I.hok G).2⟩) r1
  have sz:J09 X.w h' s.heap.objs.size bs:=⟨o,es,ep,t,h1,h2,h3,b1,by have:=h6.fits;rwa [O1,bj]at this,h6.good⟩;refine⟨.ref s.heap.objs.size,upd H s.heap.objs.size (Q6f X.w s.heap.objs.size bs),I.laid (t':=tk) k (O6 _) ⟨sz,⟨o,h1⟩,λh1 h2 z kk=>?_⟩,rfl,q _ bs j (I.hok.fresh (O6 _)) p1 b2⟩
  obtain⟨o,es,ep,t,g1,g2⟩:=z;exact⟨o,es,ep,t,kk _ g1,g2⟩
def Qj6{H:Hp}(ok:HOk P w H h):∀{bs:List aB}{ns:List (Int×Str)},aR (λb (n:Int×Str)=>H b=zo (.tup [.int n.1,.str n.2])) bs ns->PrsAre h (bs.map bc) ns
|[],_,.nil=>.nil
|b::bs,n::ns,.cons z t=>by
  obtain⟨_,I,j,o,q,G,m,hd⟩:=ok b _ z;cases j with
  |cons x1 j=>
   cases j with
   |cons x2 j=>
    cases j;obtain⟨J,rfl⟩:=x1;obtain⟨O,rfl⟩:=x2;exact .cons q G hd (Qj6 ok t)
def Qjs{H:Hp}{h h':Heap}(ok:HOk P w H h)(kp:∀b o,h.get? b=zo o->h'.get? b=zo o){bs:List aB}(S:aR (λb (n:Int×Str)=>H b=zo (.tup [.int n.1,.str n.2])) bs ns):∀{q:List aA}{ms:List (Int×Str)},PrsAre h' q ms->(∀v∈q,v∈bs.map bc)->∃ds:List V,Vals ds q/\aR (λ(v:V) (n:Int×Str)=>∃b,v=.ref b/\H b=zo (.tup [.int n.1,.str n.2])) ds ms
|[],_,.nil,_=>⟨[],.nil,.nil⟩
|_::q,_::ms,.cons (a:=a) (x:=x) (y:=y) J hc hd r,hm=>by
  obtain⟨ds,Y,d2⟩:=Qjs ok kp S r λv Z=>hm v (O3 _ Z)
  obtain⟨b,hb,e⟩:=E3.mp (hm (.ref a) (by simp));cases e;obtain⟨n,hn,O⟩:=j9 S hb;obtain⟨_,a1,z,o',G,U,m,j⟩:=ok a _ O;rw[kp a o' G]at J;cases J;rw[hd]at j;cases z with
  |cons x1 z=>
   cases z with
   |cons x2 z=>
    cases z;obtain⟨t1,rfl⟩:=x1;obtain⟨t2,rfl⟩:=x2;injection j with I _
    have j:=congrArg fL I;simp only[gL,Value.int.injEq,Value.str.injEq]at j;obtain⟨⟨q1,_⟩,⟨q2,_⟩,_⟩:=j;exact⟨.ref a::ds,.cons rfl Y,.cons ⟨a,rfl,by rw[O,q1,q2]⟩ d2⟩
def Q8g(Z:X.calm=zb):W6 X (.builtin "sorted") (λxs H Q=>∃p bs,∃ns:List (Int×Str),xs=[.ref p]/\H p=zo (Q6f X.w p bs)/\bs.length<64/\aR (λb (n:Int×Str)=>H b=zo (.tup [.int n.1,.str n.2])) bs ns/\∀d ds,H d=zl->aR (λ(v:V) (n:Int×Str)=>∃b,v=.ref b/\H b=zo (.tup [.int n.1,.str n.2])) ds (Xe ns)->Q (.ref d) (upd H d (.lst ds))):=by
 intro pins s σ H xs us Q I r h;obtain⟨p,bs,ns,rfl,hp,hl,z,q⟩:=h;obtain⟨u,rfl,Y⟩:=Uy r;cases Y;obtain⟨⟨o,es,ep,t,ho,hx,hd,G,hf,hg⟩,_,_⟩:=I.hok p _ hp;have hz:es.size=bs.length:=by
  have:=congrArg dL G;simpa using this
 refine Q90 (I.ok.hd Z) ⟨o,ho,hx,hd⟩ hf hg (by rw[G];exact Qj6 I.hok z) () λj h' d' tk D k a1 J S a4 U=>?_
 rw[G]at J;obtain⟨ds,O,d2⟩:=Qjs I.hok U z a1 λv hv=>J.mem_iff.mp hv
 have a7:j.length=bs.length:=by rw[J.length_eq,O1]
 have a6:ds.length=j.length:=O.length;exact⟨.ref D,upd H D (.lst ds),Inv.redraw (I.laid (t':=tk) (o:=.lst ds) U S ⟨by rw[sizeLine_eq];omega,j,k,O,a4⟩) d',rfl,q D ds (I.hok.fresh S) d2⟩
end L2
namespace L2
open PySem PySem.Spec PyProof.Rows
def Qr7:typeLookup (.type "list_reverseiterator") "__len__"=pure zl:=by rw[typeLookup_type,builtinLookup_eq_fast];kernel_rfl
def Qke:typeLookup (.type "list_reverseiterator") "__length_hint__"=pure (zo (.builtin "list_reverseiterator.__length_hint__")):=by rw[typeLookup_type,builtinLookup_eq_fast];kernel_rfl
variable{prog:aK}{A:aO}{E:zAD}{s:aC}
section
variable{w:aJ}
def Qm6{Q:Bool->aC->Prop}(q:s.heap.IsRevIter I l i)(h:Q yo s):aF (aI prog w) A (Builtin.List.listLengthHint (.ref I)) Q E s:=by
 unfold Builtin.List.listLengthHint;refine aD (wpAny_specialOf q.typeIs Qr7 ?_);refine bC (λj=>absurd j (by decide)) (λ_=>?_)
 refine bC (λj=>absurd j (by decide)) (λ_=>?_)
 refine aD (wpAny_specialOf q.typeIs Qke ?_);generalize hid:("list_reverseiterator.__length_hint__":String)=z
 wp_delta
 rw[show splitId z=zo ("list_reverseiterator","__length_hint__")from by subst hid;decide +kernel];subst hid;refine aD (bK (T:="list_reverseiterator") (b:=zb) q.typeIs (by rw[bO];kernel_rfl) ?_);refine bC (λj=>absurd j (by decide)) (λ_=>?_)
 refine bC (λ_=>?_) (λj=>absurd (by decide +kernel) j)
 refine bC (λj=>absurd j (by decide +kernel)) (λ_=>?_)
 exact wpAny_pure h
def Qcq{R:Result->aC->Prop}{j:Array aA}(hh:A.handled=zl)(J:s.heap.IsRevIter I l ((j.size:Int)-1))(hl:s.heap.IsList l j)(a7:j.size<=2^24)S res G(hS:s.heap.get? S=zo {cls:=.type "list",data:=.seq #[] G})(a1:S≠l)(hR:∀h' tk q O,(∀b o,b≠S->b≠I->s.heap.get? b=zo o->h'.get? b=zo o)->h'.get? S=zo {cls:=.type "list",dict:=zl,data:=.seq q O,slots:=#[]}->
   ItemsOf (λi v=>j[j.size-1-i]?=zo v) q j.size->R (.ok (.ret res)) {s with heap:=h',toks:=tk}):
  aF (aI prog w) A.in1 (Builtin.List.listExtendWith (.ref S) (.ref I) res)
   (λfin s'=>match fin with|.done f=>R (.ok f) s' |.again O=>O.quiet=zb/\codeAny (aI prog w) A O R s') (λe s'=>R (.error e) s') s:=by
 have U:S≠I:=λe=>by
  obtain⟨o,h1,h2,_⟩:=J;rw[<- e,hS]at h1;cases h1;have h2:bu "list"=bu "list_reverseiterator":=h2;exact absurd h2 (by decide)
 have a2:l≠I:=λe=>by
  obtain⟨o,h1,h2,_⟩:=J;obtain⟨o',g1,g2,_⟩:=hl;rw[e,h1]at g1;cases g1;rw[h2]at g2;exact absurd g2 (by decide)
 have a4:S∉[I,l]:=λhm=>by
  simp at hm;rcases hm with e|e
  ·exact U e
  ·exact a1 e
 have W:=(Walks.listRev (prog:=prog) (w:=w) (A:=A.in1) hh I l a2 j).toS;have a5:(0:Nat)<=j.size/\s.heap.IsRevIter I l ((j.size:Int)-1-((0:Nat):Int))/\s.heap.IsList l j:=⟨G8 _,by simpa using J,hl⟩;unfold Builtin.List.listExtendWith;refine aD (bG (T:="list_reverseiterator") J.typeIs ?_);have h1:Builtin.List.listSameRef (.ref S) (.ref I)=yo:=by simp[Builtin.List.listSameRef,U]
 have h2:(bu "list_reverseiterator"==bu "list")=yo:=by decide
 have h3:(bu "list_reverseiterator"==bu "tuple")=yo:=by decide
 simp only[h1,h2,h3,dM,F5,if_false];refine aD (wpAny_pyIter_revIter J ?_);refine aD (ae (Qm6 J ?_));refine bC (λa6=>absurd a6 (by decide)) (λ_=>wpAny_pure ⟨bH F.plain_extend_loop _,?_⟩)
 refine codeAny_extend_loopS W (by rw[sizeLine_eq];omega) S a4 res j.size 0 _ #[] G rfl (G8 _) a5 hS (ItemsOf.nil _) λs' q O hm a3 Y=>?_
 rw[Moved.eq_with hm];refine hR s'.heap s'.toks q O (λb o hb Z e=>hm.heap b o (λz=>?_) e) a3 Y
 rcases D7.mp z with e' |z
 ·exact hb e'
 ·exact Z (by simpa using z)
def Qkx{R:Result->aC->Prop}{j:Array aA}(hh:A.handled=zl)(hr:s.heap.IsRevIter I l ((j.size:Int)-1))(hl:s.heap.IsList l j)(Y:j.size<=2^24)S(Z:s.heap.get? S=zo {cls:=.type "list",data:=.seq #[]})(O:S≠l)(hR:∀h' tk q J,(∀b o,b≠S->b≠I->s.heap.get? b=zo o->h'.get? b=zo o)->h'.get? S=zo {cls:=.type "list",dict:=zl,data:=.seq q J,slots:=#[]}->
   ItemsOf (λi v=>j[j.size-1-i]?=zo v) q j.size->R (.ok (.ret .none)) {s with heap:=h',toks:=tk}):
  aF (aI prog w) A.in1 (Builtin.«list.__init__» ⟨[.ref S,.ref I],[]⟩)
   (λfin s'=>match fin with|.done f=>R (.ok f) s' |.again J=>J.quiet=zb/\codeAny (aI prog w) A J R s') (λe s'=>R (.error e) s') s:=by
 have a1:S≠I:=λe=>by
  obtain⟨o,h1,h2,_⟩:=hr;rw[<- e,Z]at h1;cases h1;exact absurd h2 (by decide)
 show aF _ _ (do let old<-Builtin.List.listItems (.ref S);Builtin.List.listUpdate (.ref S) (λ_=>#[]);letGo old.toList.reverse;Builtin.List.listExtendWith (.ref S) (.ref I) .none) _ _ s;refine aD ?_;unfold Builtin.List.listItems;refine aD (bD Z rfl (wpAny_pure ?_));show aF _ _ (updateSeq S (λ_=>#[])>>=λ_=>letGo (#[]:Array aA).toList.reverse>>=λ_=>Builtin.List.listExtendWith (.ref S) (.ref I) .none) _ _ s
 refine aD (wpAny_updateSeq Z rfl ?_);have G:=G7 (bx (λ_=>(#[]:Array aA))) Z rfl
 have z:∀b o,b≠S->s.heap.get? b=zo o->(s.heap.update S (bx (λ_=>(#[]:Array aA)))).get? b=zo o:=
  λb o hb e=>(F6 _ _ (Ne.symm hb)).trans e
 refine aD (wpAny_letGo ?_);refine Qcq hh (hr.at λo e=>z I _ (Ne.symm a1) e) (hl.at λo e=>z l _ (Ne.symm O) e) Y S .none _ G O λh' tk q J hk a3 U=>?_
 exact hR h' tk q J (λb o hb a2 e=>hk b o hb a2 (z b o hb e)) a3 U
def Q5i{Q:zAD}{j:Array aA}(hh:A.handled=zl)(hr:s.heap.IsRevIter I l ((j.size:Int)-1))(hl:s.heap.IsList l j)(O:j.size<=2^24)(hQ:∀h' tk q Y,(∀b o,b≠I->s.heap.get? b=zo o->h'.get? b=zo o)->
   h'.get? s.heap.objs.size=zo {cls:=.type "list",dict:=zl,data:=.seq q Y,slots:=#[]}->ItemsOf (λi v=>j[j.size-1-i]?=zo v) q j.size->Q (.ref s.heap.objs.size) {s with heap:=h',toks:=tk}):
  aF (aI prog w) A (call (.type "list") [.ref I]) Q E s:=by
 refine callType_codes (Q₁:=λobj z=>obj=.ref s.heap.objs.size/\z={s with heap:=s.heap.push {cls:=.type "list",data:=.seq #[]}}) F.called_list (F.typeCall_list_1 _) F.entry_list_init
  (code_list_new _ ⟨rfl,rfl⟩) λobj z J=>?_
 obtain⟨rfl,rfl⟩:=J;have Z:(s.heap.push {cls:=.type "list",data:=.seq #[]}).get? s.heap.objs.size=zo {cls:=.type "list",data:=.seq #[]}:=D4 _ rfl;have U:l<s.heap.objs.size:=let ⟨o,h1,_⟩:=hl;D0 h1;refine⟨⟨_,Z,rfl⟩,F.args_list_init_2 _ _,Qkx (A:=A.in1) hh (hr.at λo e=>O4 _ e) (hl.push _) O _ Z (cC U) λh' tk q Y hk S G=>?_⟩
 exact⟨rfl,hQ h' tk q Y (λb o hb e=>hk b o (F0 (D0 e)) hb (O4 _ e)) S G⟩
end
def Qhe{xs:List V}{its:List aA}(r:Vals xs its){acc:List aA}(z:acc.length=its.length)(h:∀j v,acc[j]?=zo v->its[its.length-1-j]?=zo v):Vals xs.reverse acc:=by
 have:acc=its.reverse:=by
  apply cf;intro j
  by_cases q:j<acc.length
  ·have e:=h j acc[j] (O2 q);rw[O2 q,List.getElem?_reverse (),e]
  ·rw[dE (),dE (by rw[dr];omega)]
 subst this;clear z h
 induction r with
|nil=>exact .nil
|cons a _ G=>rw[du,du];exact G.append (.cons a .nil)
def J1g(ta:TA):TE:=λσ H Q=>ta σ H λvs H1=>∃l ys,vs=[.ref l]/\H1 l=zo (.lst ys)/\ys.length<=1000000/\∀p,H1 p=zl->Q (.ref p) (upd H1 p (.lst ys.reverse))
variable{X:Cx}{a:aH}{ta:TA}{p p' pos pos':Pos}
def Qby (hc:X.calm=zb) (hg:Gl X "list") (hm:X.mg "list"=zl) (Y:Gl X "reversed") (U:X.mg "reversed"=zl) (hb:aX "list"=zo (.type "list")) (a2:aX "reversed"=zo (.type "reversed")) (ha:PA X [a] ta) (hs:aN [a] X.env=[(yo,aM a X.env)]:=by rfl)
  (J:aN [.Call (.Name "reversed" p') [a] [] pos'] X.env=[(yo,aM (.Call (.Name "reversed" p') [a] [] pos') X.env)]:=by rfl):
  PE X (.Call (.Name "list" p) [.Call (.Name "reversed" p') [a] [] pos'] [] pos) (J1g ta):=by
 intro pins s σ H Q I h;refine wpAny_Call_Name_kw (xb I hg hm hb ?_ (by decide) (by decide));refine dg ?_ J rfl;rw[J];refine Calls.spliced_cons ?_;refine Call_ (xb I Y U a2 (dg (thn (ha pos' pins s σ H _ I h) λus s1 ⟨vs,H1,O,r1,q1⟩=>?_) hs rfl))
 obtain⟨l,ys,rfl,hq,hn,q⟩:=q1;cases r1 with
|cons r rr=>
  cases rr;cases r;obtain⟨a1,its,n,r',a4,S⟩:=O.lstM hq;have hL:s1.heap.IsList l its.toArray:=⟨_,S,rfl,n,rfl⟩;have a3:ys.length=its.length:=Vals.length r';refine call_reversed_list hL ?_;refine Calls.spliced_nil ?_;have I2:Inv X pins σ H1 {s1 with heap:=s1.heap.push (revObj l ((its.toArray.size:Int)-1))}:=O.kept (t':=s1.toks) λb ob q=>O4 _ q
  have Z:(s1.heap.push (revObj l ((its.toArray.size:Int)-1))).IsRevIter s1.heap.objs.size l ((its.toArray.size:Int)-1):=⟨_,D4 _ rfl,rfl,rfl⟩;refine Q5i (O.ok.hd hc) Z (hL.push _) (by rw[O8];omega) λh' tk z c' hk hS G=>?_
  have hv:Vals ys.reverse z.toList:=Qhe r' (by rw[bj,G.1,O8]) λj v hj=>by
   have:=G.2 j v (by simpa using hj);simpa using this
  have hsz:(s1.heap.push (revObj l ((its.toArray.size:Int)-1))).objs.size=s1.heap.objs.size+1:=L6 _ _;refine⟨.ref _,_,O.laid (t':=tk) (o:=.lst ys.reverse) (λb u e=>hk b u (F0 (D0 e)) (O4 _ e)) (by rw[hsz];omega) ?_,rfl,q _ (O.hok.fresh (by rw[hsz];omega))⟩;exact⟨by rw[dr];exact a1,z.toList,c',hv,by simpa using hS⟩
end L2
namespace L2
open PySem PySem.Spec PyProof.Rows SeqAt
def Qd1 {X:Cx} (hu:X.A.units+9<aS) (hc:X.calm=zb):W6 X (.type "dict") (λxs H Q=>∃p,∃us,∃ps:List (HK×aB×V),xs=[.ref p]/\H p=zo (.lst us)/\aR (λv (z:HK×aB×V)=>∃c,v=.ref c/\H c=zo (.tup [.ref z.2.1,z.2.2])/\KR H z.1 z.2.1) us ps/\ps.length<=sizeLine/\
  ∀d,H d=zl->Q (.ref d) (upd H d (.dT (putAll [] ps)))):=by
 intro pins s σ H xs b9 Q I rx h;obtain⟨p,us,ps,rfl,hq,b5,hl,q⟩:=h;obtain⟨u,rfl,ru⟩:=Uy rx;cases ru;obtain⟨b3,its,n,r',b8,S⟩:=I.lstM hq;obtain⟨O,Z,G⟩:∃O:List (HK×aB×aA),aR (λ(p:HK×aB×V) (q:HK×aB×aA)=>p.1=q.1/\p.2.1=q.2.1/\KR H p.1 p.2.1/\RelV p.2.2 q.2.2) ps O/\(its.length=O.length/\∀(i:Nat)(v:aA)(p:HK×aB×aA),its[i]?=zo v->O[i]?=zo p->Qez X.prog X.w s.heap v p):=by
  have hok:=I.hok;clear q hl S hq b3 b8
  induction b5 generalizing its with
  |nil=>cases r';exact⟨[],.nil,rfl,λi v p h=>by simp at h⟩
  |cons h1 _ ih=>
   cases r' with
   |cons y1 y2=>
    obtain⟨O,a1,a2,a3⟩:=ih _ y2;obtain⟨c,rfl,b4,hk⟩:=h1;cases y1;obtain⟨_,c1,rj,ht⟩:=hok c _ b4;cases rj with
    |cons x1 rj=>
     cases rj with
     |cons x2 rj=>
      cases rj;cases x1;rename_i zz _ _ _ _ vv;refine⟨(_,_,vv)::O,.cons ⟨rfl,rfl,hk,x2⟩ a1,by simp[a2],λi v p e1 e2=>?_⟩
      cases i with
      |zero=>
       simp at e1 e2;subst e1;subst e2;exact⟨c,rfl,ht,Up hok hk⟩
      |succ i=>exact a3 i v p (by simpa using e1) (by simpa using e2)
 have c0:ps.length=O.length:=Paired.length Z;have hh:=I.ok.hd hc;refine callType_codes (Q₁:=λobj J=>obj=.ref s.heap.objs.size/\J={s with heap:=s.heap.push {cls:=.type "dict",data:=.dict #[]}}) F.kt_called_dict (F.kt_typeCall_dict_1 _) F.entry_dict_init (kt_code_dict_new _ ⟨rfl,rfl⟩) ?_;rintro obj J ⟨rfl,rfl⟩;have a4:(s.heap.push {cls:=.type "dict",data:=.dict #[]}).DictOfH (nk X.prog X.w) s.heap.objs.size []:=Heap.DictOfH.new s.heap;have Y:Shared.TypeIs {s with heap:=s.heap.push {cls:=.type "dict",data:=.dict #[]}} (.ref s.heap.objs.size) "dict":=⟨_,D4 _ rfl,rfl⟩;refine⟨Y,F.args_dict_init_2 _ _,?_⟩;have U:=O4 {cls:=.type "dict",data:=.dict #[]} S;unfold Builtin.«dict.__init__»;refine aD ?_;unfold Builtin.Dict.selfAndRest;refine aD (wpAny_notOrdered_dict Y ?_);show aF _ _ (pure (s.heap.objs.size,[bc p])) _ _ _;refine wpAny_pure ?_
 show aF _ _ (Builtin.Dict.updateFrom "dict.__init__" s.heap.objs.size (.ref p) [] .none) _ _ _;unfold Builtin.Dict.updateFrom;refine aD (bG (T:="list") ⟨_,U,rfl⟩ ?_);rw[bU (by decide)];refine aD (Q5f U (by simpa using hh) λh2 c2 j=>?_)
 rw[bU (by rfl)];have a6:=j _ _ U;have a5:h2.IsList p its.toArray:=⟨_,a6,rfl,n,rfl⟩;have k0:∀b o,s.heap.get? b=zo o->h2.get? b=zo o:=λb o e=>j b o (O4 _ e)
 have a7:h2.DictOfH (nk X.prog X.w) s.heap.objs.size []:=Q2r a4 (λo e=>j _ _ e) λa its x=>let ⟨o',x1,x2⟩:=x;⟨o',j _ _ x1,x2⟩
 have a8:s.heap.objs.size<h2.objs.size:=by
  obtain⟨o,es,ep,ho,r⟩:=a7;exact D0 ho
 refine aD (aD (m:=rule _) (bQ (wpAny_pure (aD (wpAny_pyIter_list a5 ?_)))));refine wpAny_pure ⟨bH W8 _,?_⟩;have sb:∀(h2:Heap)(o:Obj),∀a its,IsTup h2 a its->IsTup (h2.push o) a its:=λh2 o a its x=>let ⟨o',x1,x2⟩:=x;⟨o',O4 _ x1,x2⟩
 refine Qf5 (A:=X.A.in1) (I:=h2.objs.size) (l:=p) (D:=s.heap.objs.size) (xs:=[]) (ps:=O) (h0:=s.heap) (by show X.A.units+1+1+5<aS;omega) (by simpa using hh) (F0 (D0 a6)) (F0 a8) (cC (D0 S)) (λb o e=>F0 (D0 (k0 b o e))) (λits x=>by
   obtain⟨o',x1,_⟩:=x;exact absurd (D0 x1) (N1 _))
  (by rw[O8];exact G.1) (λi v p e1 e2=>G.2 i v p (by simpa using e1) e2) (by simp only[cO];omega) (its.toArray.size-0) 0 _ rfl (G8 _) ⟨⟨_,D4 _ rfl,rfl,rfl⟩,a5.push _⟩ (λb o _ e=>O4 _ (k0 b o e)) ?dk λh' tk d k=>?_
 case dk=>exact Q2r a7 (λo e=>O4 _ e) (sb _ _)
 obtain⟨q1,es,ep,b2,a9,b1,b0,_,b6⟩:=d;have b7:∀b o,s.heap.get? b=zo o->h'.get? b=zo o:=λb o e=>k b o (F0 (D0 e)) e
 refine⟨rfl,.ref s.heap.objs.size,_,I.laid (t':=tk) (o:=.dT (putAll [] ps)) b7 (O6 _) ⟨?_,beq_eq_false_iff_ne.mpr (Ne.symm (F0 I.big)),_,((show KT H [] []from .nil).putAll Z).keeps λc ys ec=>?_,q1,es,ep,b2,a9,b1,b0,b6⟩,rfl,q _ (I.hok.fresh (O6 _))⟩
 ·have:=Qbt [] ps;simp only[cO]at this;omega
 ·have:c≠s.heap.objs.size:=λe=>by
   have:=I.hok.fresh (a:=s.heap.objs.size) (O6 _);rw[<- e,ec]at this;cases this
  rw[Q7 this];exact ec
end L2
namespace Sm
open PySem PySem.Spec L2
section
inductive PV where
|non|bl (b:Bool)|int (i:Int)|str (x:Str)|tup (xs:List PV)|lst (xs:List PV)|fro (xs:List PV)|ref (i:Nat)|dic
inductive Cell where
|lst (xs:List PV)|dic (kvs:List (Key×PV))|dtp (kvs:List (HK×PV))|frd (kvs:List (Key×PV))|frt (kvs:List (HK×PV))
|obj (C:aB) (fs:List (Str×PV))
abbrev Q0:=List Cell
structure Exc where
cls:Str
fs:Option (Str×PV):=zl
inductive Res(α:Type) where
|ok (a:α) (st:Q0)|exc (x:Exc) (st:Q0)|stuck
abbrev Gam:=List (Option PV)
abbrev ME:=Gam->Q0->Res PV
structure Tk where
tr:List aB
hid:List aB
instance:Membership aB Tk:=⟨λt a=>a∈t.tr\/a∈t.hid⟩
def Tk.nil:Tk:=⟨[],[]⟩
def Tk.not_nil a:a∉Tk.nil:=λz=>by rcases z with z|z<;>cases z
def Tk.add(t:Tk)(p:aB):Tk:=⟨t.tr++[p],t.hid⟩
def Tk.hide(t:Tk)(p:aB):Tk:=⟨t.tr,p::t.hid⟩
mutual
def Rep(H:Hp)(ρ:Tk):PV->V->Prop
|.non,v=>v=.non
|.bl b,v=>v=.bl b
|.int i,v=>v=.int i
|.str x,v=>v=.str x
|.tup ps,v=>∃a vs,v=.ref a/\H a=zo (.tup vs)/\a∉ρ/\RepL H ρ ps vs
|.lst ps,v=>∃a vs,v=.ref a/\H a=zo (.lst vs)/\a∉ρ/\RepL H ρ ps vs
|.fro ps,v=>∃a vs,v=.ref a/\Rd H a (.lst vs)/\a∉ρ/\RepL H ρ ps vs
|.ref i,v=>∃a,ρ.tr[i]?=zo a/\v=.ref a
|.dic,v=>∃a,v=.ref a/\H a=zo (.dK [])/\a∉ρ
def RepL(H:Hp)(ρ:Tk):List PV->List V->Prop
|[],vs=>vs=[]
|p::ps,vs=>∃v r,vs=v::r/\Rep H ρ p v/\RepL H ρ ps r
end
structure Ext(H:Hp)(ρ:Tk)(H':Hp)(ρ':Tk):Prop where
pre:ρ.tr<+:ρ'.tr
hidM:∀a,a∈ρ.hid->a∈ρ'.hid
hidN:∀a,a∈ρ'.hid->a∈ρ.hid\/H a=zl
keep:∀a o,H a=zo o->a∉ρ.tr->H' a=zo o
new:∀a,a∈ρ'.tr->a∈ρ.tr\/H a=zl
old:∀a o,H a=zo o->∃o',H' a=zo o'
frz:∀a o u,H a=zo (.frz o u)->H' a=zo (.frz o u)
def Ext.refl H ρ:Ext H ρ H ρ:=⟨dY _,λ_ h=>h,λ_ h=>.inl h,λ_ _ h _=>h,λ_ h=>.inl h,λ_ o h=>⟨o,h⟩,λ_ _ _ h=>h⟩
def Ext.trans(a:Ext H ρ H1 ρ1)(b:Ext H1 ρ1 H2 j):Ext H ρ H2 j where
 pre:=a.pre.trans b.pre
 hidM:=λx h=>b.hidM x (a.hidM x h)
 hidN:=λx h=>by
  rcases b.hidN x h with z|z
  ·exact a.hidN x z
  ·right
   cases q:H x with
   |none=>rfl
   |some o=>
    obtain⟨o',e⟩:=a.old x o q;rw[e]at z;cases z
 keep:=λx o h n=>b.keep x o (a.keep x o h n) λz=>by
  rcases a.new x z with z|z
  ·exact n z
  ·rw[h]at z;cases z
 new:=λx h=>by
  rcases b.new x h with z|z
  ·exact a.new x z
  ·right
   cases q:H x with
   |none=>rfl
   |some o=>
    obtain⟨o',e⟩:=a.old x o q;rw[e]at z;cases z
 old:=λx o h=>by
  obtain⟨o',e⟩:=a.old x o h;exact b.old x o' e
 frz:=λx o u h=>b.frz x o u (a.frz x o u h)
def Ext.add{H:Hp}(h:H p=zl):Ext H ρ (upd H p o) ρ where
 pre:=dY _
 hidM:=λ_ h=>h
 hidN:=λ_ h=>.inl h
 keep:=λa u e _=>by rw[Q7 (Qc e h)];exact e
 new:=λa e=>.inl e
 old:=λa u e=>⟨u,by rw[Q7 (Qc e h)];exact e⟩
 frz:=λa o u e=>by rw[Q7 (Qc e h)];exact e
def Ext.addT{H:Hp}{ρ:Tk}(h:H p=zl):Ext H ρ (upd H p o) (ρ.add p) where
 pre:=dw _ _
 hidM:=λ_ h=>h
 hidN:=λ_ h=>.inl h
 keep:=λa u e _=>by rw[Q7 (Qc e h)];exact e
 new:=λa e=>by
  rcases E9.mp e with z|z
  ·exact .inl z
  ·right
   have:a=p:=by simpa using z
   rw[this];exact h
 old:=λa u e=>⟨u,by rw[Q7 (Qc e h)];exact e⟩
 frz:=λa o u e=>by rw[Q7 (Qc e h)];exact e
def Ext.same(h:Same H H'):Ext H ρ H' ρ:=⟨dY _,λ_ h=>h,λ_ h=>.inl h,λa o e _=>h a o e,λ_ e=>.inl e,λa o e=>⟨o,h a o e⟩,λa o u e=>h a _ e⟩
section
variable{H H':Hp}{ρ ρ':Tk}
def Kj(x:Ext H ρ H' ρ')(h:H a=zo o)(n:a∉ρ):a∉ρ':=λz=>by
 rcases z with z|z
 ·rcases x.new a z with z|z
  ·exact n (.inl z)
  ·rw[h]at z;cases z
 ·rcases x.hidN a z with z|z
  ·exact n (.inr z)
  ·rw[h]at z;cases z
def Ext.kp(x:Ext H ρ H' ρ')(h:H a=zo o)(n:a∉ρ):H' a=zo o:=x.keep a o h λz=>n (.inl z)
mutual
theorem Rep.ext(x:Ext H ρ H' ρ'):∀{p:PV}{v:V},Rep H ρ p v->Rep H' ρ' p v
|.non,_,h=>h
|.bl _,_,h=>h
|.int _,_,h=>h
|.str _,_,h=>h
|.tup ps,v,h=>by
  obtain⟨a,vs,e,s,n,r⟩:=h;exact⟨a,vs,e,x.kp s n,Kj x s n,RepL.ext x r⟩
|.lst ps,v,h=>by
  obtain⟨a,vs,e,s,n,r⟩:=h;exact⟨a,vs,e,x.kp s n,Kj x s n,RepL.ext x r⟩
|.fro ps,v,h=>by
  obtain⟨a,vs,e,s,n,r⟩:=h;rcases s with s|⟨o,s⟩
  ·exact⟨a,vs,e,.inl (x.kp s n),Kj x s n,RepL.ext x r⟩
  ·exact⟨a,vs,e,.inr ⟨o,x.kp s n⟩,Kj x s n,RepL.ext x r⟩
|.ref i,v,h=>by
  obtain⟨a,e,rfl⟩:=h;obtain⟨t,j⟩:=x.pre;refine⟨a,?_,rfl⟩;rw[<- j,O7 (O0.mp e).1];exact e
|.dic,v,h=>by
  obtain⟨a,e,s,n⟩:=h;exact⟨a,e,x.kp s n,Kj x s n⟩
theorem RepL.ext(x:Ext H ρ H' ρ'):∀{ps:List PV}{vs:List V},RepL H ρ ps vs->RepL H' ρ' ps vs
|[],_,h=>h
|p::ps,vs,h=>by
  obtain⟨v,r,e,h1,h2⟩:=h;exact⟨v,r,e,Rep.ext x h1,RepL.ext x h2⟩
end
mutual
theorem Rep.hide(h:H a=zl):∀{p:PV}{v:V},Rep H ρ p v->Rep (upd H a o) (ρ.hide a) p v
|.non,_,r=>r
|.bl _,_,r=>r
|.int _,_,r=>r
|.str _,_,r=>r
|.tup ps,v,⟨b,vs,e,s,n,r⟩=>⟨b,vs,e,by rw [Q7 (Qc s h)];exact s,λz=>by
   rcases z with z|z
   ·exact n (.inl z)
   ·rcases D7.mp z with z|z
    ·exact Qc s h z
    ·exact n (.inr z),RepL.hide h r⟩
|.lst ps,v,⟨b,vs,e,s,n,r⟩=>⟨b,vs,e,by rw [Q7 (Qc s h)];exact s,λz=>by
   rcases z with z|z
   ·exact n (.inl z)
   ·rcases D7.mp z with z|z
    ·exact Qc s h z
    ·exact n (.inr z),RepL.hide h r⟩
|.fro ps,v,⟨b,vs,e,s,n,r⟩=>by
   have ne:b≠a:=by
    rcases s with s|⟨_,s⟩
    ·exact Qc s h
    ·exact Qc s h
   refine⟨b,vs,e,?_,λz=>?_,RepL.hide h r⟩
   ·rcases s with s|⟨u,s⟩
    ·exact .inl (by rw[Q7 ne];exact s)
    ·exact .inr ⟨u,by rw[Q7 ne];exact s⟩
   ·rcases z with z|z
    ·exact n (.inl z)
    ·rcases D7.mp z with z|z
     ·exact ne z
     ·exact n (.inr z)
|.ref i,v,r=>r
|.dic,v,⟨b,e,s,n⟩=>⟨b,e,by rw [Q7 (Qc s h)];exact s,λz=>by
   rcases z with z|z
   ·exact n (.inl z)
   ·rcases D7.mp z with z|z
    ·exact Qc s h z
    ·exact n (.inr z)⟩
theorem RepL.hide(h:H a=zl):∀{ps:List PV}{vs:List V},RepL H ρ ps vs->RepL (upd H a o) (ρ.hide a) ps vs
|[],_,r=>r
|p::ps,_,⟨v,t,e,j,q⟩=>⟨v,t,e,Rep.hide h j,RepL.hide h q⟩
end
mutual
theorem Rep.rehide(h:a∈ρ.hid):∀{p:PV}{v:V},Rep H ρ p v->Rep (upd H a o) ρ p v
|.non,_,r=>r
|.bl _,_,r=>r
|.int _,_,r=>r
|.str _,_,r=>r
|.tup ps,v,⟨b,vs,e,s,n,r⟩=>⟨b,vs,e,by rw[Q7 (show b≠a from λz=>n (.inr (by rw[z];exact h)))];exact s,n,RepL.rehide h r⟩
|.lst ps,v,⟨b,vs,e,s,n,r⟩=>⟨b,vs,e,by rw[Q7 (show b≠a from λz=>n (.inr (by rw[z];exact h)))];exact s,n,RepL.rehide h r⟩
|.fro ps,v,⟨b,vs,e,s,n,r⟩=>by
   have ne:b≠a:=λz=>n (.inr (by rw[z];exact h))
   refine⟨b,vs,e,?_,n,RepL.rehide h r⟩;rcases s with s|⟨u,s⟩
   ·exact .inl (by rw[Q7 ne];exact s)
   ·exact .inr ⟨u,by rw[Q7 ne];exact s⟩
|.ref i,v,r=>r
|.dic,v,⟨b,e,s,n⟩=>⟨b,e,by rw[Q7 (show b≠a from λz=>n (.inr (by rw[z];exact h)))];exact s,n⟩
theorem RepL.rehide(h:a∈ρ.hid):∀{ps:List PV}{vs:List V},RepL H ρ ps vs->RepL (upd H a o) ρ ps vs
|[],_,r=>r
|p::ps,_,⟨v,t,e,j,q⟩=>⟨v,t,e,Rep.rehide h j,RepL.rehide h q⟩
end
mutual
theorem Rep.retr(h:a∈ρ.tr):∀{p:PV}{v:V},Rep H ρ p v->Rep (upd H a o) ρ p v
|.non,_,r=>r
|.bl _,_,r=>r
|.int _,_,r=>r
|.str _,_,r=>r
|.tup ps,v,⟨b,vs,e,s,n,r⟩=>⟨b,vs,e,by rw[Q7 (show b≠a from λz=>n (.inl (by rw[z];exact h)))];exact s,n,RepL.retr h r⟩
|.lst ps,v,⟨b,vs,e,s,n,r⟩=>⟨b,vs,e,by rw[Q7 (show b≠a from λz=>n (.inl (by rw[z];exact h)))];exact s,n,RepL.retr h r⟩
|.fro ps,v,⟨b,vs,e,s,n,r⟩=>by
   have ne:b≠a:=λz=>n (.inl (by rw[z];exact h))
   refine⟨b,vs,e,?_,n,RepL.retr h r⟩;rcases s with s|⟨u,s⟩
   ·exact .inl (by rw[Q7 ne];exact s)
   ·exact .inr ⟨u,by rw[Q7 ne];exact s⟩
|.ref i,v,r=>r
|.dic,v,⟨b,e,s,n⟩=>⟨b,e,by rw[Q7 (show b≠a from λz=>n (.inl (by rw[z];exact h)))];exact s,n⟩
theorem RepL.retr(h:a∈ρ.tr):∀{ps:List PV}{vs:List V},RepL H ρ ps vs->RepL (upd H a o) ρ ps vs
|[],_,r=>r
|p::ps,_,⟨v,t,e,j,q⟩=>⟨v,t,e,Rep.retr h j,RepL.retr h q⟩
end
mutual
theorem Rep.unhide(j:∀a,a∈hs->a∈ρ.hid):∀{p:PV}{v:V},Rep H ρ p v->Rep H ⟨ρ.tr,hs⟩ p v
|.non,_,r=>r
|.bl _,_,r=>r
|.int _,_,r=>r
|.str _,_,r=>r
|.tup ps,v,⟨b,vs,e,s,n,r⟩=>⟨b,vs,e,s,λz=>n (z.imp id (j _)),RepL.unhide j r⟩
|.lst ps,v,⟨b,vs,e,s,n,r⟩=>⟨b,vs,e,s,λz=>n (z.imp id (j _)),RepL.unhide j r⟩
|.fro ps,v,⟨b,vs,e,s,n,r⟩=>⟨b,vs,e,s,λz=>n (z.imp id (j _)),RepL.unhide j r⟩
|.ref i,v,r=>r
|.dic,v,⟨b,e,s,n⟩=>⟨b,e,s,λz=>n (z.imp id (j _))⟩
theorem RepL.unhide(j:∀a,a∈hs->a∈ρ.hid):∀{ps:List PV}{vs:List V},RepL H ρ ps vs->RepL H ⟨ρ.tr,hs⟩ ps vs
|[],_,r=>r
|p::ps,_,⟨v,t,e,q,z⟩=>⟨v,t,e,Rep.unhide j q,RepL.unhide j z⟩
end
def RepL.length:∀{ps:List PV}{vs:List V},RepL H ρ ps vs->ps.length=vs.length
|[],_,h=>by cases h;rfl
|p::ps,_,⟨v,r,rfl,_,h2⟩=>by rw[D6,D6,RepL.length h2]
def RepL.get:∀{ps:List PV}{vs:List V}{i:Nat}{p:PV},RepL H ρ ps vs->ps[i]?=zo p->∃v,vs[i]?=zo v/\Rep H ρ p v
|[],_,_,_,_,e=>by simp at e
|p::ps,_,0,q,⟨v,r,rfl,h1,h2⟩,e=>by simp at e;subst e;exact⟨v,rfl,h1⟩
|p::ps,_,i+1,q,⟨v,r,rfl,h1,h2⟩,e=>by
  obtain⟨u,z,j⟩:=RepL.get (i:=i) h2 (by simpa using e);exact⟨u,by simpa using z,j⟩
def RepL.cons(h:Rep H ρ p v)(r:RepL H ρ ps vs):RepL H ρ (p::ps) (v::vs):=⟨v,vs,rfl,h,r⟩
def RepL.nil:RepL H ρ [] []:=rfl
def RepL.append:∀{ps j:List PV}{vs q:List V},RepL H ρ ps vs->RepL H ρ j q->RepL H ρ (ps++j) (vs++q)
|[],_,_,_,h,g=>by cases h;exact g
|p::ps,_,_,_,⟨v,r,rfl,h1,h2⟩,g=>⟨v,_,rfl,h1,RepL.append h2 g⟩
def RepL.take:∀{ps:List PV}{vs:List V}n,RepL H ρ ps vs->RepL H ρ (ps.take n) (vs.take n)
|_,_,0,_=>rfl
|[],_,n+1,h=>by cases h;rfl
|p::ps,_,n+1,⟨v,r,rfl,h1,h2⟩=>⟨v,_,rfl,h1,RepL.take n h2⟩
def RepL.drop:∀{ps:List PV}{vs:List V}n,RepL H ρ ps vs->RepL H ρ (ps.drop n) (vs.drop n)
|_,_,0,h=>h
|[],_,n+1,h=>by cases h;rfl
|p::ps,_,n+1,⟨v,r,rfl,h1,h2⟩=>RepL.drop n h2
def RepL.set(h:Rep H ρ p v):∀{ps:List PV}{vs:List V}i,RepL H ρ ps vs->RepL H ρ (ps.set i p) (vs.set i v)
|[],_,_,g=>by cases g;rfl
|q::ps,_,0,⟨u,r,rfl,h1,h2⟩=>⟨v,r,rfl,h,h2⟩
|q::ps,_,i+1,⟨u,r,rfl,h1,h2⟩=>⟨u,_,rfl,h1,RepL.set h i h2⟩
def RepL.rep(h:RepL H ρ ps vs):∀n,RepL H ρ (bh n ps).flatten (bh n vs).flatten
|0=>rfl
|n+1=>by rw[cy,cy,dN,dN];exact h.append (RepL.rep h n)
def RepL.toInts:∀{ns:List Int}{vs:List V},RepL H ρ (ns.map .int) vs->vs=ns.map V.int
|[],_,h=>h
|n::ns,_,⟨v,r,rfl,h1,h2⟩=>by
  have e:v=V.int n:=h1;rw[RepL.toInts h2,e];rfl
def RepL.toBls:∀{ns:List Bool}{vs:List V},RepL H ρ (ns.map .bl) vs->vs=ns.map V.bl
|[],_,h=>h
|n::ns,_,⟨v,r,rfl,h1,h2⟩=>by
  have e:v=V.bl n:=h1;rw[RepL.toBls h2,e];rfl
end
def RepD{κ:Type}(H:Hp)(ρ:Tk)(kvs:List (κ×PV))(vs:List (κ×V)):Prop:=vs.map bq=kvs.map bq/\RepL H ρ (kvs.map cU) (vs.map cU)
def RepD.ext{κ:Type}{H H':Hp}{ρ ρ':Tk}{j:List (κ×PV)}{vs:List (κ×V)}(x:Ext H ρ H' ρ')(r:RepD H ρ j vs):RepD H' ρ' j vs:=⟨r.1,r.2.ext x⟩
def RepD.length{κ:Type}{j:List (κ×PV)}{vs:List (κ×V)}(r:RepD H ρ j vs):j.length=vs.length:=by
 have:=congrArg dL r.1;rw[O1,O1]at this;exact this.symm
def CellR(H:Hp)(ρ:Tk)(a:aB):Cell->Prop
|.lst ps=>∃vs,H a=zo (.lst vs)/\RepL H ρ ps vs
|.dic kvs=>∃vs,H a=zo (.dK vs)/\RepD H ρ kvs vs
|.dtp kvs=>∃vs,H a=zo (.dT vs)/\RepD H ρ kvs vs
|.frd kvs=>∃vs,(∃o,H a=zo (.frz o (.dK vs)))/\RepD H ρ kvs vs
|.frt kvs=>∃vs,(∃o,H a=zo (.frz o (.dT vs)))/\RepD H ρ kvs vs
|.obj C fs=>∃vs,(∃dx,H a=zo (.ins C dx vs))/\RepD H ρ fs vs
def CellR.dom{H:Hp}:∀{c:Cell},CellR H ρ a c->∃o,H a=zo o
|.lst _,⟨_,e,_⟩=>⟨_,e⟩
|.dic _,⟨_,e,_⟩=>⟨_,e⟩
|.dtp _,⟨_,e,_⟩=>⟨_,e⟩
|.frd _,⟨_,⟨_,e⟩,_⟩=>⟨_,e⟩
|.frt _,⟨_,⟨_,e⟩,_⟩=>⟨_,e⟩
|.obj _ _,⟨_,⟨_,e⟩,_⟩=>⟨_,e⟩
def CellR.ext{H H':Hp}{ρ ρ':Tk}{a:aB}(x:Ext H ρ H' ρ')(k:∀o,H a=zo o->H' a=zo o):∀{c:Cell},CellR H ρ a c->CellR H' ρ' a c
|.lst _,⟨vs,e,r⟩=>⟨vs,k _ e,r.ext x⟩
|.dic _,⟨vs,e,r⟩=>⟨vs,k _ e,r.ext x⟩
|.dtp _,⟨vs,e,r⟩=>⟨vs,k _ e,r.ext x⟩
|.frd _,⟨vs,⟨o,e⟩,r⟩=>⟨vs,⟨o,k _ e⟩,r.ext x⟩
|.frt _,⟨vs,⟨o,e⟩,r⟩=>⟨vs,⟨o,k _ e⟩,r.ext x⟩
|.obj _ _,⟨vs,⟨o,e⟩,r⟩=>⟨vs,⟨o,k _ e⟩,r.ext x⟩
structure Rel(H:Hp)(ρ:Tk)(st:Q0):Prop where
len:ρ.tr.length=st.length
nd:ρ.tr.Nodup
hd:∀a∈ρ.hid,∃o,H a=zo o/\∀xs,o≠.tup xs
ap:∀a∈ρ.hid,a∉ρ.tr
cell:∀(i:Nat)(a:aB)(c:Cell),ρ.tr[i]?=zo a->st[i]?=zo c->CellR H ρ a c
section
variable{H H':Hp}{ρ ρ':Tk}{st st':Q0}
def Rel.lst(R:Rel H ρ st){i:Nat}{ps:List PV}(h:st[i]?=zo (.lst ps)):∃a vs,ρ.tr[i]?=zo a/\H a=zo (.lst vs)/\RepL H ρ ps vs:=by
 have hi:i<ρ.tr.length:=by rw[R.len];exact(O0.mp h).1
 have e:ρ.tr[i]?=zo ρ.tr[i]:=O2 hi;obtain⟨vs,q,j⟩:=R.cell i _ _ e h;exact⟨_,vs,e,q,j⟩
def Rel.dtp(R:Rel H ρ st){i:Nat}{j:List (HK×PV)}(h:st[i]?=zo (.dtp j)):∃a vs,ρ.tr[i]?=zo a/\H a=zo (.dT vs)/\RepD H ρ j vs:=by
 have hi:i<ρ.tr.length:=by rw[R.len];exact(O0.mp h).1
 have e:ρ.tr[i]?=zo ρ.tr[i]:=O2 hi;obtain⟨vs,z,q⟩:=R.cell i _ _ e h;exact⟨_,vs,e,z,q⟩
def Rel.frt(R:Rel H ρ st){i:Nat}{j:List (HK×PV)}(h:st[i]?=zo (.frt j)):∃a vs o,ρ.tr[i]?=zo a/\H a=zo (.frz o (.dT vs))/\RepD H ρ j vs:=by
 have hi:i<ρ.tr.length:=by rw[R.len];exact(O0.mp h).1
 have e:ρ.tr[i]?=zo ρ.tr[i]:=O2 hi;obtain⟨vs,⟨o,q⟩,e2⟩:=R.cell i _ _ e h;exact⟨_,vs,o,e,q,e2⟩
def Rel.dom(R:Rel H ρ st)(h:a∈ρ.tr):∃o,H a=zo o:=by
 obtain⟨i,hi,e⟩:=L8 h;have hs:i<st.length:=by rw[<- R.len];exact hi
 have q:=R.cell i a st[i] (by rw[O2 hi,e]) (O2 hs);exact q.dom
def Rel.fresh(R:Rel H ρ st)(h:H p=zl):p∉ρ:=λz=>by
 rcases z with z|z
 ·obtain⟨vs,q⟩:=R.dom z;rw[h]at q;cases q
 ·obtain⟨o,q,_⟩:=R.hd p z;rw[h]at q;cases q
def Rel.later(R:Rel H ρ st)(x:Ext H ρ H' ρ)(k:∀a o,a∈ρ.tr->H a=zo o->H' a=zo o):Rel H' ρ st where
 len:=R.len
 nd:=R.nd
 hd:=λa j=>let ⟨o,e,n⟩:=R.hd a j;⟨o,x.keep a o e (R.ap a j),n⟩
 ap:=R.ap
 cell:=λi a c h1 h2=>by
  exact(R.cell i a c h1 h2).ext x λo e=>k a o (E6 h1) e
end
def Rel.add{H:Hp}{st:Q0}(R:Rel H ρ st)(h:H p=zl):Rel (upd H p o) ρ st:=
 R.later (Ext.add h) λa u hm e=>by rw[Q7 (Qc e h)];exact e
def Rel.same{st:Q0}(R:Rel H ρ st)(h:Same H H'):Rel H' ρ st:=R.later (Ext.same h) λa u _ e=>h a u e
def Rel.addC{H:Hp}{ρ:Tk}{st:Q0}(R:Rel H ρ st)(h:H p=zl)(r:CellR (upd H p o) (ρ.add p) p cl):Rel (upd H p o) (ρ.add p) (st++[cl]) where
 len:=by show(ρ.tr++[p]).length=_;rw[O5,O5,R.len];rfl
 nd:=L7.mpr ⟨R.nd,by simp,λa j b G e=>by
  have:b=p:=by simpa using G
  subst this;subst e;exact R.fresh h (.inl j)⟩
 hd:=λa j=>let ⟨o,e,n⟩:=R.hd a j;⟨o,by rw[Q7 (Qc e h)];exact e,n⟩
 ap:=λa j z=>by
  rcases E9.mp z with z|z
  ·exact R.ap a j z
  ·have:a=p:=by simpa using z
   subst this;exact R.fresh h (.inr j)
 cell:=λi a c h1 h2=>by
  have h1:(ρ.tr++[p])[i]?=zo a:=h1
  by_cases hi:i<st.length
  ·rw[O7 (by rw[R.len];exact hi)]at h1;rw[O7 hi]at h2;exact(R.cell i a c h1 h2).ext (Ext.addT h) λu e=>by rw[Q7 (Qc e h)];exact e
  ·rw[E4 (by rw[R.len];omega)]at h1;rw[E4 ()]at h2;have q:i-st.length=0:=by
    rcases gM (i-st.length)with z|z
    ·exact z
    ·rw[dE (by simp;omega)]at h2;cases h2
   rw[R.len,q]at h1;rw[q]at h2;simp at h1 h2;subst h1;subst h2;exact r
def Q63{α:Type}{l:List α}(h:l.Nodup)(hi:i<l.length)(q:j<l.length)(e:l[i]=l[j]):i=j:=by
 rcases Nat.lt_trichotomy i j with z|z|z
 ·exact absurd e ((eT.mp h) i j hi q z)
 ·exact z
 ·exact absurd e.symm ((eT.mp h) j i q hi z)
def Ext.put{H:Hp}{ρ:Tk}(h:a∈ρ.tr)(e:H a=zo o)(j:∀q u,o≠.frz q u:=by intro _ _ z;cases z):Ext H ρ (upd H a o') ρ where
 pre:=dY _
 hidM:=λ_ h=>h
 hidN:=λ_ h=>.inl h
 keep:=λb u q n=>by rw[Q7 (show b≠a from λz=>n (by rw[z];exact h))];exact q
 new:=λb q=>.inl q
 old:=λb u q=>by
  by_cases z:b=a
  ·exact⟨o',by rw[z];exact Qj⟩
  ·exact⟨u,by rw[Q7 z];exact q⟩
 frz:=λb q u k=>by
  by_cases z:b=a
  ·rw[z,e]at k;cases k;exact absurd rfl (j _ _)
  ·rw[Q7 z];exact k
def Rel.putC{H:Hp}{ρ:Tk}{st:Q0}(R:Rel H ρ st)(hi:ρ.tr[i]?=zo a)(e:H a=zo o)(r:CellR (upd H a o') ρ a cl):Rel (upd H a o') ρ (st.set i cl) where
 len:=by rw[L9];exact R.len
 nd:=R.nd
 hd:=λb J=>let ⟨u,q,n⟩:=R.hd b J;⟨u,by rw[Q7 (show b≠a from λz=>R.ap b J (by rw[z];exact E6 hi))];exact q,n⟩
 ap:=R.ap
 cell:=λj b c h1 h2=>by
  by_cases S:i=j
  ·subst S;rw[hi]at h1;cases h1;rw[D9 (by rw[<- R.len];exact(O0.mp hi).1)]at h2;cases h2;exact r
  ·rw[E2 S]at h2;have q:=R.cell j b c h1 h2;have J:b≠a:=λz=>by
    subst z;have Y:=(O0.mp hi);have U:=(O0.mp h1);exact S (Q63 R.nd Y.1 U.1 (Y.2.trans U.2.symm))
   have hm:=E6 hi;cases c with
   |lst ps=>
    obtain⟨vs,I,G⟩:=q;exact⟨vs,by rw[Q7 J];exact I,G.retr hm⟩
   |dic ps=>
    obtain⟨vs,I,G⟩:=q;exact⟨vs,by rw[Q7 J];exact I,G.1,G.2.retr hm⟩
   |dtp ps=>
    obtain⟨vs,I,G⟩:=q;exact⟨vs,by rw[Q7 J];exact I,G.1,G.2.retr hm⟩
   |frd ps=>
    obtain⟨vs,⟨O,I⟩,G⟩:=q;exact⟨vs,⟨O,by rw[Q7 J];exact I⟩,G.1,G.2.retr hm⟩
   |frt ps=>
    obtain⟨vs,⟨O,I⟩,G⟩:=q;exact⟨vs,⟨O,by rw[Q7 J];exact I⟩,G.1,G.2.retr hm⟩
   |obj C ps=>
    obtain⟨vs,⟨O,I⟩,G⟩:=q;exact⟨vs,⟨O,by rw[Q7 J];exact I⟩,G.1,G.2.retr hm⟩
def Rel.put{H:Hp}{ρ:Tk}{st:Q0}(R:Rel H ρ st)(hi:ρ.tr[i]?=zo a)(e:H a=zo o)(r:RepL H ρ ps vs):Rel (upd H a (.lst vs)) ρ (st.set i (.lst ps)):=
 R.putC hi e ⟨vs,Qj,r.retr (E6 hi)⟩
def Rel.hide{H:Hp}{ρ:Tk}{st:Q0}(R:Rel H ρ st)(h:H p=zl)(S:∀xs,o≠.tup xs:=by intro _ z;cases z):Rel (upd H p o) (ρ.hide p) st:=by
 have x:Ext H ρ (upd H p o) ρ:=Ext.add h;have O:=R.add (p:=p) (o:=o) h;refine⟨O.len,O.nd,λa I=>?_,λa I z=>?_,λi a c h1 h2=>?_⟩
 ·rcases D7.mp I with rfl|I
  ·exact⟨o,Qj,S⟩
  ·exact O.hd a I
 ·rcases D7.mp I with rfl|I
  ·exact R.fresh h (.inl z)
  ·exact R.ap a I z
 ·have q:=R.cell i a c h1 h2;cases c with
  |lst ps=>
   obtain⟨vs,j,G⟩:=q;exact⟨vs,by rw[Q7 (Qc j h)];exact j,G.hide h⟩
  |dic ps=>
   obtain⟨vs,j,G⟩:=q;exact⟨vs,by rw[Q7 (Qc j h)];exact j,G.1,G.2.hide h⟩
  |dtp ps=>
   obtain⟨vs,j,G⟩:=q;exact⟨vs,by rw[Q7 (Qc j h)];exact j,G.1,G.2.hide h⟩
  |frd ps=>
   obtain⟨vs,⟨J,j⟩,G⟩:=q;exact⟨vs,⟨J,by rw[Q7 (Qc j h)];exact j⟩,G.1,G.2.hide h⟩
  |frt ps=>
   obtain⟨vs,⟨J,j⟩,G⟩:=q;exact⟨vs,⟨J,by rw[Q7 (Qc j h)];exact j⟩,G.1,G.2.hide h⟩
  |obj C ps=>
   obtain⟨vs,⟨J,j⟩,G⟩:=q;exact⟨vs,⟨J,by rw[Q7 (Qc j h)];exact j⟩,G.1,G.2.hide h⟩
def Rel.rehide{ρ:Tk}{st:Q0}(R:Rel H ρ st)(h:p∈ρ.hid)(J:∀xs,o≠.tup xs:=by intro _ z;cases z):Rel (upd H p o) ρ st:=by
 refine⟨R.len,R.nd,λa O=>?_,R.ap,λi a c h1 h2=>?_⟩
 ·by_cases e:a=p
  ·exact⟨o,by rw[e];exact Qj,J⟩
  ·obtain⟨u,q,n⟩:=R.hd a O;exact⟨u,by rw[Q7 e];exact q,n⟩
 ·have q:=R.cell i a c h1 h2;have ne:a≠p:=λz=>R.ap p h (by rw[<- z];exact E6 h1)
  cases c with
  |lst ps=>
   obtain⟨vs,G,j⟩:=q;exact⟨vs,by rw[Q7 ne];exact G,j.rehide h⟩
  |dic ps=>
   obtain⟨vs,G,j⟩:=q;exact⟨vs,by rw[Q7 ne];exact G,j.1,j.2.rehide h⟩
  |dtp ps=>
   obtain⟨vs,G,j⟩:=q;exact⟨vs,by rw[Q7 ne];exact G,j.1,j.2.rehide h⟩
  |frd ps=>
   obtain⟨vs,⟨I,G⟩,j⟩:=q;exact⟨vs,⟨I,by rw[Q7 ne];exact G⟩,j.1,j.2.rehide h⟩
  |frt ps=>
   obtain⟨vs,⟨I,G⟩,j⟩:=q;exact⟨vs,⟨I,by rw[Q7 ne];exact G⟩,j.1,j.2.rehide h⟩
  |obj C ps=>
   obtain⟨vs,⟨I,G⟩,j⟩:=q;exact⟨vs,⟨I,by rw[Q7 ne];exact G⟩,j.1,j.2.rehide h⟩
def Rel.unhide{ρ:Tk}{st:Q0}(G:∀a,a∈hs->a∈ρ.hid)(R:Rel H ρ st):Rel H ⟨ρ.tr,hs⟩ st:=by
 refine⟨R.len,R.nd,λa I=>R.hd a (G a I),λa I=>R.ap a (G a I),λi a c h1 h2=>?_⟩;have q:=R.cell i a c h1 h2;cases c with
|lst ps=>
  obtain⟨vs,z,j⟩:=q;exact⟨vs,z,RepL.unhide G j⟩
|dic ps=>
  obtain⟨vs,z,j⟩:=q;exact⟨vs,z,j.1,RepL.unhide G j.2⟩
|dtp ps=>
  obtain⟨vs,z,j⟩:=q;exact⟨vs,z,j.1,RepL.unhide G j.2⟩
|frd ps=>
  obtain⟨vs,z,j⟩:=q;exact⟨vs,z,j.1,RepL.unhide G j.2⟩
|frt ps=>
  obtain⟨vs,z,j⟩:=q;exact⟨vs,z,j.1,RepL.unhide G j.2⟩
|obj C ps=>
  obtain⟨vs,z,j⟩:=q;exact⟨vs,z,j.1,RepL.unhide G j.2⟩
def Ext.hide{H:Hp}{ρ:Tk}(h:H p=zl):Ext H ρ (upd H p o) (ρ.hide p) where
 pre:=dY _
 hidM:=λ_ h=>O3 _ h
 hidN:=λa j=>by
  rcases D7.mp j with rfl|j
  ·exact .inr h
  ·exact .inl j
 keep:=λa u e _=>by rw[Q7 (Qc e h)];exact e
 new:=λa e=>.inl e
 old:=λa u e=>⟨u,by rw[Q7 (Qc e h)];exact e⟩
 frz:=λa o u e=>by rw[Q7 (Qc e h)];exact e
def Ext.put0{H:Hp}(x:Ext H ρ H1 ρ1)(h:H p=zl):Ext H ρ (upd H1 p o) ρ1 where
 pre:=x.pre
 hidM:=x.hidM
 hidN:=x.hidN
 keep:=λa u e n=>by rw[Q7 (Qc e h)];exact x.keep a u e n
 new:=x.new
 old:=λa u e=>by rw[Q7 (Qc e h)];exact x.old a u e
 frz:=λa o u e=>by rw[Q7 (Qc e h)];exact x.frz a o u e
def Ext.unhide{ρ ρ1:Tk}(x:Ext H ρ H1 ρ1):Ext H ρ H1 ⟨ρ1.tr,ρ.hid⟩ where
 pre:=x.pre
 hidM:=λ_ h=>h
 hidN:=λ_ h=>.inl h
 keep:=x.keep
 new:=x.new
 old:=x.old
 frz:=x.frz
def EnvR(H:Hp)(ρ:Tk)(Γ:Gam)(σ:St):Prop:=Γ.length=σ.length/\∀(i:Nat)(p:PV),Γ[i]?=zo (zo p)->∃v,σ[i]?=zo (zo v)/\Rep H ρ p v
def EnvR.ext{H H':Hp}{ρ ρ':Tk}{Γ:Gam}{σ:St}(x:Ext H ρ H' ρ')(h:EnvR H ρ Γ σ):EnvR H' ρ' Γ σ:=
 ⟨h.1,λi p e=>let ⟨v,a,b⟩:=h.2 i p e;⟨v,a,b.ext x⟩⟩
def EnvR.hide{H:Hp}{ρ:Tk}(n:H a=zl)(h:EnvR H ρ Γ σ):EnvR (upd H a o) (ρ.hide a) Γ σ:=⟨h.1,λi p e=>let ⟨v,a,b⟩:=h.2 i p e;⟨v,a,b.hide n⟩⟩
def EnvR.rehide{ρ:Tk}(n:a∈ρ.hid)(h:EnvR H ρ Γ σ):EnvR (upd H a o) ρ Γ σ:=⟨h.1,λi p e=>let ⟨v,a,b⟩:=h.2 i p e;⟨v,a,b.rehide n⟩⟩
def EnvR.retr{ρ:Tk}(n:a∈ρ.tr)(h:EnvR H ρ Γ σ):EnvR (upd H a o) ρ Γ σ:=⟨h.1,λi p e=>let ⟨v,a,b⟩:=h.2 i p e;⟨v,a,b.retr n⟩⟩
def EnvR.set{Γ:Gam}{σ:St}(h:EnvR H ρ Γ σ)(r:Rep H ρ p v)i:EnvR H ρ (Γ.set i (zo p)) (σ.set i (zo v)):=by
 refine⟨by rw[L9,L9];exact h.1,λj q e=>?_⟩;rw[jM]at e;rw[jM]
 by_cases G:i=j
 ·subst G;simp only[if_true]at e ⊢
  by_cases z:i<Γ.length
  ·rw[bU z]at e;cases e;rw[bU (by rw[<- h.1];exact z)];exact⟨v,rfl,r⟩
  ·rw[bV z]at e;cases e
 ·rw[bV G]at e ⊢;exact h.2 j q e
end
def Res.bind{α β:Type}(r:Res α)(f:α->Q0->Res β):Res β:=match r with
|.ok a st=>f a st
|.exc x st=>.exc x st
|.stuck=>.stuck
def okO{α:Type}(st:Q0):Option α->Res α
|some a=>.ok a st
|none=>.stuck
section
variable(X:Cx)
def WE(e:aH):TE:=λσ H Q=>∀(pins:zAA)(s:aC),Inv X pins σ H s->aF (aI X.prog X.w) X.A (aM e X.env) (EP X pins σ Q) X.xe s
def WT(e:aH):TT:=λσ H Q=>∀(pins:zAA)(s:aC),Inv X pins σ H s->aF (aI X.prog X.w) X.A (isTrue e X.env (aM e X.env)) (TP X pins σ Q) X.xe s
def WW(e:aH):TT:=λσ H Q=>∀(wh:Sem aA)(pins:zAA)(s:aC),Inv X pins σ H s->aF (aI X.prog X.w) X.A (isTrue e X.env wh) (TP X pins σ Q) X.xe s
def WA(es:List aH):TA:=λσ H Q=>∀(pos:Pos)(pins:zAA)(s:aC),Inv X pins σ H s->aF (aI X.prog X.w) X.A (spliced (aY pos (aN es X.env))) (AP X pins σ Q) X.xe s
def WS(st:aL):TS:=λD σ H=>∀(pins:zAA)(s:aC),Inv X pins σ H s->aF (aI X.prog X.w) X.A (exec st X.env) (SP X pins D) X.xe s
def WB(st:List aL):TS:=λD σ H=>∀(pins:zAA)(s:aC),Inv X pins σ H s->aF (aI X.prog X.w) X.A (execs st X.env) (SP X pins D) X.xe s
def WI (tg iter:aH):TI:=λσ H R=>∀(pins:zAA)(s:aC),Inv X pins σ H s->
  aF (aI X.prog X.w) X.A (aM iter X.env) (λv s1=>aF (aI X.prog X.w) X.A (pyIter v) (PIE X pins σ tg R) X.xe s1) X.xe s
def WO(f:aA->aA->Sem aA):R2:=λx y H Q=>∀(pins:zAA)(s:aC)(σ:St)(v u:aA),Inv X pins σ H s->RelV x v->RelV y u->aF (aI X.prog X.w) X.A (f v u) (EP X pins σ Q) X.xe s
def WC(f:aA):List V->Hp->VK->Prop:=λxs H Q=>∀(pins:zAA)(s:aC)(σ:St)(us:List aA),Inv X pins σ H s->Vals xs us->aF (aI X.prog X.w) X.A (call f us) (EP X pins σ Q) X.xe s
end
variable{X:Cx}
def Jc:PE X e (WE X e):=λpins s _ _ _ I h=>h pins s I
def Q9j:PT X e (WT X e):=λpins s _ _ _ I h=>h pins s I
def Qy6:PW X e (WW X e):=λj pins s _ _ _ I h=>h j pins s I
def Q3s:PA X es (WA X es):=λpos pins s _ _ _ I h=>h pos pins s I
def Qy7{st:aL}:PS X st (WS X st):=λpins s _ _ _ I h=>h pins s I
def Q3i{st:List aL}:PSs X st (WB X st):=λpins s _ _ _ I h=>h pins s I
def Qua:PI X tg iter (WI X tg iter):=λpins s _ _ _ I h=>h pins s I
def Qbz:OpR X f (WO X f):=λpins s σ _ _ _ v u _ I j q h=>h pins s σ v u I j q
def Qmx:W6 X f (WC X f):=λpins s σ _ _ j _ I r h=>h pins s σ j I r
def WE.of{t:TE}(h:PE X e t)(q:t σ H Q):WE X e σ H Q:=λpins s I=>h pins s σ H Q I q
def WT.of{t:TT}(h:PT X e t)(q:t σ H Q):WT X e σ H Q:=λpins s I=>h pins s σ H Q I q
def WW.of{t:TT}(h:PW X e t)(q:t σ H Q):WW X e σ H Q:=λj pins s I=>h j pins s σ H Q I q
def WA.of{t:TA}(h:PA X es t)(q:t σ H Q):WA X es σ H Q:=λpos pins s I=>h pos pins s σ H Q I q
def WS.of{st:aL}{t:TS}(h:PS X st t)(q:t D σ H):WS X st D σ H:=λpins s I=>h pins s σ H D I q
def WB.of{st:List aL}{t:TS}(h:PSs X st t)(q:t D σ H):WB X st D σ H:=λpins s I=>h pins s σ H D I q
def WI.of{t:TI}(h:PI X tg iter t)(q:t σ H R):WI X tg iter σ H R:=λpins s I=>h pins s σ H R I q
def WO.of{r:R2}(h:OpR X f r)(q:r x y H Q):WO X f x y H Q:=λpins s σ v u I j z=>h pins s σ H x y v u Q I j z q
def WC.of{r:List V->Hp->VK->Prop}(h:W6 X f r)(q:r xs H Q):WC X f xs H Q:=λpins s σ z I j=>h pins s σ H xs z Q I j q
def XFs(H:Hp)(ρ:Tk):Option (Str×PV)->Option aB->Prop
|none,dv=>dv=zl
|some (n,p),dv=>∃dx v,dv=zo dx/\H dx=zo (.xd [(n,v)])/\dx∉ρ/\Rep H ρ p v
def Acc{α:Type}(mg:zAE)(E:XK)(H:Hp)(ρ:Tk)(P:α->Q0->Hp->Tk->Prop):Res α->Prop
|.ok a st=>∀H' ρ',Ext H ρ H' ρ'->Rel H' ρ' st->P a st H' ρ'
|.exc x st=>∀C dv H' ρ',mg x.cls=zo (.ref C)->Ext H ρ H' ρ'->Rel H' ρ' st->XFs H' ρ' x.fs dv->E (.ref C) dv H'
|.stuck=>False
variable{α β:Type}{mg:zAE}{E:XK}{H H1:Hp}{ρ ρ1:Tk}
def Acc.mono{P z:α->Q0->Hp->Tk->Prop}(h:Acc mg E H ρ P r)(x:Ext H ρ H1 ρ1)(k:∀a st H' ρ',P a st H' ρ'->z a st H' ρ'):Acc mg E H1 ρ1 z r:=by
 cases r with
|ok a st=>exact λH' ρ' q j=>k _ _ _ _ (h H' ρ' (x.trans q) j)
|exc e st=>exact λC G H' ρ' m q j f=>h C G H' ρ' m (x.trans q) j f
|stuck=>exact h
def Acc.later(h:Acc mg E H ρ P r)(x:Ext H ρ H1 ρ1):Acc mg E H1 ρ1 P r:=h.mono x λ_ _ _ _ p=>p
def Acc.bind{r:Res α}{f:α->Q0->Res β}(h:Acc mg E H ρ P (r.bind f)):Acc mg E H ρ (λa j H1 ρ1=>Acc mg E H1 ρ1 P (f a j)) r:=by
 cases r with
|ok a st=>exact λH' ρ' q z=>Acc.later (show Acc mg E H ρ P (f a st)from h) q
|exc e st=>exact h
|stuck=>exact h
abbrev QV(Q:VK):PV->Q0->Hp->Tk->Prop:=λp _ H' ρ'=>∀v,Rep H' ρ' p v->Q v H'
abbrev QL(Q:List V->Hp->Prop):List PV->Q0->Hp->Tk->Prop:=λps _ H' ρ'=>∀vs,RepL H' ρ' ps vs->Q vs H'
abbrev QB(Q:Bool->Hp->Prop):Bool->Q0->Hp->Tk->Prop:=λb _ H' _=>Q b H'
structure SimE(X:Cx)(E:XK)(e:aH)(m:ME):Prop where
run:∀(Γ:Gam)(σ:St)(H:Hp)(ρ:Tk)(st:Q0)(Q:VK),Rel H ρ st->EnvR H ρ Γ σ->Acc X.mg E H ρ (QV Q) (m Γ st)->WE X e σ H Q
structure SimT(X:Cx)(E:XK)(e:aH)(m:Gam->Q0->Res Bool):Prop where
run:∀(Γ:Gam)(σ:St)(H:Hp)(ρ:Tk)(st:Q0)(Q:Bool->Hp->Prop),Rel H ρ st->EnvR H ρ Γ σ->Acc X.mg E H ρ (QB Q) (m Γ st)->WT X e σ H Q
structure SimW(X:Cx)(E:XK)(e:aH)(m:Gam->Q0->Res Bool):Prop where
run:∀(Γ:Gam)(σ:St)(H:Hp)(ρ:Tk)(st:Q0)(Q:Bool->Hp->Prop),Rel H ρ st->EnvR H ρ Γ σ->Acc X.mg E H ρ (QB Q) (m Γ st)->WW X e σ H Q
structure SimA(X:Cx)(E:XK)(es:List aH)(m:Gam->Q0->Res (List PV)):Prop where
run:∀(Γ:Gam)(σ:St)(H:Hp)(ρ:Tk)(st:Q0)(Q:List V->Hp->Prop),Rel H ρ st->EnvR H ρ Γ σ->Acc X.mg E H ρ (QL Q) (m Γ st)->WA X es σ H Q
abbrev OP:=Q0->PV->PV->Res PV
structure OpS(X:Cx)(E:XK)(f:aA->aA->Sem aA)(o:OP):Prop where
run:∀(H:Hp)(ρ:Tk)(st:Q0)(p q:PV)(x y:V)(Q:VK),Rel H ρ st->Rep H ρ p x->Rep H ρ q y->Acc X.mg E H ρ (QV Q) (o st p q)->WO X f x y H Q
abbrev CF:=Q0->List PV->Res PV
structure CallS(X:Cx)(E:XK)(f:aA)(o:CF):Prop where
run:∀(H:Hp)(ρ:Tk)(st:Q0)(ps:List PV)(xs:List V)(Q:VK),Rel H ρ st->RepL H ρ ps xs->Acc X.mg E H ρ (QV Q) (o st ps)->WC X f xs H Q
variable{Γ:Gam}{σ:St}{st:Q0}
def SimE.use{m:ME}(s:SimE X E e m){P:PV->Q0->Hp->Tk->Prop}{Q:VK}(R:Rel H ρ st)(G:EnvR H ρ Γ σ)(h:Acc X.mg E H ρ P (m Γ st))(k:∀p j H1 ρ1 v,Ext H ρ H1 ρ1->Rel H1 ρ1 j->EnvR H1 ρ1 Γ σ->Rep H1 ρ1 p v->P p j H1 ρ1->Q v H1):WE X e σ H Q:=by
 refine s.run Γ σ H ρ st Q R G ?_;cases r:m Γ st with
|ok p j=>rw[r]at h;exact λH' ρ' q z v I=>k p j H' ρ' v q z (G.ext q) I (h H' ρ' q z)
|exc e st=>rw[r]at h;exact h
|stuck=>rw[r]at h;exact h
def SimE.use'{m:ME}(s:SimE X E e m){P:PV->Q0->Hp->Tk->Prop}{Q:VK}(R:Rel H ρ st)(G:EnvR H ρ Γ σ)(h:Acc X.mg E H ρ P (m Γ st))(k:∀p j H1 ρ1 v,m Γ st=.ok p j->Ext H ρ H1 ρ1->Rel H1 ρ1 j->EnvR H1 ρ1 Γ σ->Rep H1 ρ1 p v->P p j H1 ρ1->Q v H1):WE X e σ H Q:=by
 refine s.run Γ σ H ρ st Q R G ?_;cases r:m Γ st with
|ok p j=>rw[r]at h;exact λH' ρ' q z v I=>k p j H' ρ' v r q z (G.ext q) I (h H' ρ' q z)
|exc e st=>rw[r]at h;exact h
|stuck=>rw[r]at h;exact h
def SimA.use'{m:Gam->Q0->Res (List PV)}(s:SimA X E es m){P:List PV->Q0->Hp->Tk->Prop}{Q:List V->Hp->Prop}(R:Rel H ρ st)(G:EnvR H ρ Γ σ)(h:Acc X.mg E H ρ P (m Γ st))(k:∀ps j H1 ρ1 vs,m Γ st=.ok ps j->Ext H ρ H1 ρ1->Rel H1 ρ1 j->EnvR H1 ρ1 Γ σ->RepL H1 ρ1 ps vs->P ps j H1 ρ1->Q vs H1):WA X es σ H Q:=by
 refine s.run Γ σ H ρ st Q R G ?_;cases r:m Γ st with
|ok p j=>rw[r]at h;exact λH' ρ' q z v I=>k p j H' ρ' v r q z (G.ext q) I (h H' ρ' q z)
|exc e st=>rw[r]at h;exact h
|stuck=>rw[r]at h;exact h
def SimT.use{m:Gam->Q0->Res Bool}(s:SimT X E e m){P:Bool->Q0->Hp->Tk->Prop}{Q:Bool->Hp->Prop}(R:Rel H ρ st)(G:EnvR H ρ Γ σ)(h:Acc X.mg E H ρ P (m Γ st))(k:∀p j H1 ρ1,Ext H ρ H1 ρ1->Rel H1 ρ1 j->EnvR H1 ρ1 Γ σ->P p j H1 ρ1->Q p H1):WT X e σ H Q:=by
 refine s.run Γ σ H ρ st Q R G ?_;cases r:m Γ st with
|ok p j=>rw[r]at h;exact λH' ρ' q z=>k p j H' ρ' q z (G.ext q) (h H' ρ' q z)
|exc e st=>rw[r]at h;exact h
|stuck=>rw[r]at h;exact h
def SimT.use'{m:Gam->Q0->Res Bool}(s:SimT X E e m){P:Bool->Q0->Hp->Tk->Prop}{Q:Bool->Hp->Prop}(R:Rel H ρ st)(G:EnvR H ρ Γ σ)(h:Acc X.mg E H ρ P (m Γ st))(k:∀p j H1 ρ1,m Γ st=.ok p j->Ext H ρ H1 ρ1->Rel H1 ρ1 j->EnvR H1 ρ1 Γ σ->P p j H1 ρ1->Q p H1):WT X e σ H Q:=by
 refine s.run Γ σ H ρ st Q R G ?_;cases r:m Γ st with
|ok p j=>rw[r]at h;exact λH' ρ' q z=>k p j H' ρ' r q z (G.ext q) (h H' ρ' q z)
|exc e st=>rw[r]at h;exact h
|stuck=>rw[r]at h;exact h
def SimW.use{m:Gam->Q0->Res Bool}(s:SimW X E e m){P:Bool->Q0->Hp->Tk->Prop}{Q:Bool->Hp->Prop}(R:Rel H ρ st)(G:EnvR H ρ Γ σ)(h:Acc X.mg E H ρ P (m Γ st))(k:∀p j H1 ρ1,Ext H ρ H1 ρ1->Rel H1 ρ1 j->EnvR H1 ρ1 Γ σ->P p j H1 ρ1->Q p H1):WW X e σ H Q:=by
 refine s.run Γ σ H ρ st Q R G ?_;cases r:m Γ st with
|ok p j=>rw[r]at h;exact λH' ρ' q z=>k p j H' ρ' q z (G.ext q) (h H' ρ' q z)
|exc e st=>rw[r]at h;exact h
|stuck=>rw[r]at h;exact h
def SimA.use{m:Gam->Q0->Res (List PV)}(s:SimA X E es m){P:List PV->Q0->Hp->Tk->Prop}{Q:List V->Hp->Prop}(R:Rel H ρ st)(G:EnvR H ρ Γ σ)(h:Acc X.mg E H ρ P (m Γ st))(k:∀ps j H1 ρ1 vs,Ext H ρ H1 ρ1->Rel H1 ρ1 j->EnvR H1 ρ1 Γ σ->RepL H1 ρ1 ps vs->P ps j H1 ρ1->Q vs H1):WA X es σ H Q:=by
 refine s.run Γ σ H ρ st Q R G ?_;cases r:m Γ st with
|ok p j=>rw[r]at h;exact λH' ρ' q z v I=>k p j H' ρ' v q z (G.ext q) I (h H' ρ' q z)
|exc e st=>rw[r]at h;exact h
|stuck=>rw[r]at h;exact h
def OpS.use{o:OP}(s:OpS X E f o){P:PV->Q0->Hp->Tk->Prop}{Q:VK}{p:PV}(R:Rel H ρ st)(I:Rep H ρ p x)(O:Rep H ρ q y)(h:Acc X.mg E H ρ P (o st p q))(k:∀p j H1 ρ1 v,Ext H ρ H1 ρ1->Rel H1 ρ1 j->Rep H1 ρ1 p v->P p j H1 ρ1->Q v H1):WO X f x y H Q:=by
 refine s.run H ρ st p q x y Q R I O ?_;cases r:o st p q with
|ok p j=>rw[r]at h;exact λH' ρ' z G v J=>k p j H' ρ' v z G J (h H' ρ' z G)
|exc e st=>rw[r]at h;exact h
|stuck=>rw[r]at h;exact h
end Sm
namespace Sm
open PySem PySem.Spec L2 SeqAt
mutual
def peq:PV->PV->Bool
|.non,.non=>zb
|.bl a,.bl b=>a==b
|.bl a,.int b=>(if a then 1 else 0)==b
|.int a,.bl b=>a==(if b then 1 else 0)
|.int a,.int b=>a==b
|.str a,.str b=>a==b
|.tup xs,.tup ys=>peqL xs ys
|.lst xs,.lst ys=>peqL xs ys
|.lst xs,.fro ys=>peqL xs ys
|.fro xs,.lst ys=>peqL xs ys
|.fro xs,.fro ys=>peqL xs ys
|_,_=>yo
def peqL:List PV->List PV->Bool
|[],[]=>zb
|x::xs,y::ys=>peq x y&&peqL xs ys
|_,_=>yo
end
def good:Nat->PV->Bool
|_,.ref _=>yo
|_,.dic=>yo
|0,.tup _=>yo
|0,.lst _=>yo
|0,.fro _=>yo
|n+1,.tup xs=>xs.all (good n)
|n+1,.lst xs=>xs.all (good n)
|n+1,.fro xs=>xs.all (good n)
|_,_=>zb
def Q3m:∀{xs ys:List PV},xs.length≠ys.length->peqL xs ys=yo
|[],[],h=>absurd rfl h
|[],_::_,_=>rfl
|_::_,[],_=>rfl
|x::xs,y::ys,h=>by
  show(peq x y&&peqL xs ys)=yo;rw[Q3m (xs:=xs) (ys:=ys) λe=>h (by simp[e]),jN]
def Q3p:∀{xs ys:List PV},xs.length=ys.length->peqL xs ys=(ba xs.length).all λj=>peq (xs.getD j .non) (ys.getD j .non)
|[],[],_=>rfl
|[],_::_,h=>by simp at h
|_::_,[],h=>by simp at h
|x::xs,y::ys,h=>by
  show(peq x y&&peqL xs ys)=_;rw[Q3p (xs:=xs) (ys:=ys) (by simpa using h),D6,fo,cP,cH];rfl
variable{X:Cx}{pins:zAA}{σ:St}{H:Hp}{s:aC}{ρ:Tk}
mutual
theorem Q9b:∀{p q:PV}{x:V}{n:Nat},good n p=zb->good n q=zb->Rep H ρ p x->Rep H ρ q x->peq p q=zb
|.non,q,x,n,_,G,h1,h2=>by
  cases h1;cases q<;>first|rfl|(cases n<;>cases G;done)|(cases h2;done)|(obtain⟨_,_,e,_⟩:=h2;cases e)|(obtain⟨_,_,e⟩:=h2;cases e)
|.bl b,q,x,n,_,G,h1,h2=>by
  cases h1;cases q<;>first|(cases n<;>cases G;done)|(cases h2;exact beq_self_eq_true _)|(obtain⟨_,_,e,_⟩:=h2;done)|(obtain⟨_,_,e,_⟩:=h2;cases e;done)|(obtain⟨_,_,e⟩:=h2;cases e)
|.int b,q,x,n,_,G,h1,h2=>by
  cases h1;cases q<;>first|(cases n<;>cases G;done)|(cases h2;exact beq_self_eq_true _)|(obtain⟨_,_,e,_⟩:=h2;done)|(obtain⟨_,_,e,_⟩:=h2;cases e;done)|(obtain⟨_,_,e⟩:=h2;cases e)
|.str b,q,x,n,_,G,h1,h2=>by
  cases h1;cases q<;>first|(cases n<;>cases G;done)|(cases h2;exact beq_self_eq_true _)|(obtain⟨_,_,e,_⟩:=h2;done)|(obtain⟨_,_,e,_⟩:=h2;cases e;done)|(obtain⟨_,_,e⟩:=h2;cases e)
|.tup ps,q,x,0,I,_,_,_=>by cases I
|.tup ps,q,x,n+1,I,G,⟨a,vs,e,z,_,r⟩,h2=>by
  subst e;cases q with
  |tup S=>
   obtain⟨b,O,e,j,_,J⟩:=h2;cases e;rw[z]at j;cases j;exact repL_same I G r J
  |lst S=>obtain⟨b,O,e,j,_⟩:=h2;cases e;rw[z]at j;cases j
  |fro S=>obtain⟨b,O,e,j,_⟩:=h2;cases e;rcases j with j|⟨o,j⟩<;>(rw[z]at j;cases j)
  |ref i=>cases G
  |dic=>cases G
  |_=>cases h2
|.lst ps,q,x,0,I,_,_,_=>by cases I
|.lst ps,q,x,n+1,I,G,⟨a,vs,e,z,_,r⟩,h2=>by
  subst e;cases q with
  |lst S=>
   obtain⟨b,O,e,j,_,J⟩:=h2;cases e;rw[z]at j;cases j;exact repL_same I G r J
  |tup S=>obtain⟨b,O,e,j,_⟩:=h2;cases e;rw[z]at j;cases j
  |fro S=>
   obtain⟨b,O,e,j,_,J⟩:=h2;cases e;rcases j with j|⟨o,j⟩
   ·rw[z]at j;cases j;exact repL_same I G r J
   ·rw[z]at j;cases j
  |ref i=>cases G
  |dic=>cases G
  |_=>cases h2
|.fro ps,q,x,0,I,_,_,_=>by cases I
|.fro ps,q,x,n+1,I,G,⟨a,vs,e,z,_,r⟩,h2=>by
  subst e;cases q with
  |lst S=>
   obtain⟨b,O,e,j,_,J⟩:=h2;cases e;rcases z with z|⟨o,z⟩
   ·rw[z]at j;cases j;exact repL_same I G r J
   ·rw[z]at j;cases j
  |tup S=>obtain⟨b,O,e,j,_⟩:=h2;cases e;rcases z with z|⟨o,z⟩<;>(rw[z]at j;cases j)
  |fro S=>
   obtain⟨b,O,e,j,_,J⟩:=h2;cases e;have:vs=O:=by
    rcases z with z|⟨o,z⟩<;>rcases j with j|⟨o',j⟩<;>(rw[z]at j;cases j)<;>rfl
   subst this;exact repL_same I G r J
  |ref i=>cases G
  |dic=>cases G
  |_=>cases h2
|.ref i,_,_,n,I,_,_,_=>by cases n<;>cases I
|.dic,_,_,n,I,_,_,_=>by cases n<;>cases I
theorem repL_same:∀{ps j:List PV}{vs:List V}{n:Nat},ps.all (good n)=zb->j.all (good n)=zb->RepL H ρ ps vs->RepL H ρ j vs->peqL ps j=zb
|[],j,vs,n,_,_,h1,h2=>by
  cases h1;cases j with
  |nil=>rfl
  |cons q j=>obtain⟨_,_,e,_⟩:=h2;cases e
|p::ps,j,vs,n,z,g2,⟨v,r,e,h1,I⟩,h2=>by
  subst e;cases j with
  |nil=>cases h2
  |cons q j=>
   obtain⟨_,_,e,h2,G⟩:=h2;cases e;rw[cP,F3]at z g2;show(peq _ _&&peqL _ _)=zb;rw[Q9b z.1 g2.1 h1 h2,repL_same z.2 g2.2 I G];rfl
end
inductive Kd(H:Hp)(ρ:Tk)(s:aC):PV->aA->Prop where
|non:Kd H ρ s .non .none
|bl (b):Kd H ρ s (.bl b) (.bool b)
|int (i t):Kd H ρ s (.int i) (.int i t)
|str (x t):Kd H ρ s (.str x) (.str x t)
|tup (ps a) (vs:List V) (its:List aA):H a=zo (.tup vs)->RepL H ρ ps vs->Vals vs its->s.heap.IsTuple a its.toArray->Kd H ρ s (.tup ps) (.ref a)
|lst (p ps a) (vs:List V) (its:List aA):(p=.lst ps\/p=.fro ps)->RepL H ρ ps vs->Vals vs its->s.heap.IsList a its.toArray->Kd H ρ s p (.ref a)
def Qec(I:Inv X pins σ H s)(g:good n p=zb)(r:Rep H ρ p x)(ru:RelV x u):Kd H ρ s p u:=by
 cases p with
|non=>cases r;cases ru;exact .non
|bl b=>cases r;cases ru;exact .bl b
|int i=>cases r;obtain⟨t,rfl⟩:=ru;exact .int i t
|str i=>cases r;obtain⟨t,rfl⟩:=ru;exact .str i t
|tup ps=>
  obtain⟨a,vs,rfl,j,_,q⟩:=r;cases ru;obtain⟨its,z,p1,_⟩:=I.tuple (SqT.of (K:=X.K) j);exact .tup ps a vs its j q z p1
|lst ps=>
  obtain⟨a,vs,rfl,j,_,q⟩:=r;cases ru;obtain⟨its,z,p1,_⟩:=I.list (SqL.of (K:=X.K) j);exact .lst _ ps a vs its (.inl rfl) q z p1.isList
|fro ps=>
  obtain⟨a,vs,rfl,j,_,q⟩:=r;cases ru;obtain⟨its,z,p1,_⟩:=I.list (show SqL X.K H a vs from .inl j);exact .lst _ ps a vs its (.inr rfl) q z p1.isList
|ref i=>cases n<;>cases g
|dic=>cases n<;>cases g
def zn{ps:List PV}{its:List aA}(r:RepL H ρ ps vs)(v:Vals vs its)(h:j<its.length):∃x,Rep H ρ (ps.getD j .non) x/\RelV x its[j]:=by
 have O:=r.length;have S:=v.length;have z:j<ps.length:=by omega
 obtain⟨x,J,G⟩:=r.get (O2 z);obtain⟨u,q,I⟩:=v.get J;rw[O2 h]at q;cases q;refine⟨x,?_,I⟩;rw[dO,O2 z];exact G
def zm{ps:List PV}(g:ps.all (good n)=zb)j(q:j<ps.length):good n (ps.getD j .non)=zb:=by
 rw[dO,O2 q];exact(F4.mp g) _ (L5 q)
def Qbv{ps q:List PV}:((ba (min ps.length q.length)).all (λj=>peq (ps.getD j .non) (q.getD j .non))&&ps.length==q.length)=peqL ps q:=by
 by_cases e:ps.length=q.length
 ·rw[Q3p e,<- e,Nat.min_self,beq_self_eq_true,jO]
 ·rw[Q3m e,beq_eq_false_iff_ne.mpr e,jN]
def Qem:∀n{A:aO}{p q:PV}{x y:V}{u v:aA},Inv X pins σ H s->good n p=zb->good n q=zb->A.units+n<aS->Rep H ρ p x->RelV x u->Rep H ρ q y->RelV y v->
  EqAt A s u v (peq p q)/\RcAt A s u v (peq p q)/\RcNeAt A s u v (!peq p q):=by
 intro n
 induction n with
|zero=>
  intro A p q x y u v I U J hu rp ru rq rv;have k1:=Qec I U rp ru;have k2:=Qec I J rq rv;have hu:A.units<aS:=by omega
  cases k1 with
  |tup=>cases U
  |lst p ps a vs its h=>rcases h with rfl|rfl<;>cases U
  |non=>cases k2 with
   |tup=>cases J
   |lst p ps a vs its h=>rcases h with rfl|rfl<;>cases J
   |non=>exact⟨EqAt.same _,RcAt.none_none,RcNeAt.none_none⟩
   |bl b=>exact⟨EqAt.none_bool _,RcAt.none_bool _,RcNeAt.none_bool _⟩
   |int i t=>exact⟨EqAt.none_int _ _,RcAt.none_int _ _,RcNeAt.none_int _ _⟩
   |str i t=>exact⟨EqAt.none_str _ _,RcAt.none_str _ _,RcNeAt.none_str _ _⟩
  |bl a=>cases k2 with
   |tup=>cases J
   |lst p ps a vs its h=>rcases h with rfl|rfl<;>cases J
   |non=>exact⟨EqAt.bool_none _,RcAt.bool_none _,RcNeAt.bool_none _⟩
   |bl b=>exact⟨EqAt.bool_bool _ _,RcAt.bool_bool _ _,RcNeAt.bool_bool _ _⟩
   |int i t=>exact⟨EqAt.bool_int _ _ _,RcAt.bool_int _ _ _,RcNeAt.bool_int _ _ _⟩
   |str i t=>exact⟨EqAt.bool_str _ _ _,RcAt.bool_str _ _ _,RcNeAt.bool_str _ _ _⟩
  |int a a4=>cases k2 with
   |tup=>cases J
   |lst p ps a vs its h=>rcases h with rfl|rfl<;>cases J
   |non=>exact⟨EqAt.int_none _ _,RcAt.int_none _ _,RcNeAt.int_none _ _⟩
   |bl b=>exact⟨EqAt.int_bool _ _ _,RcAt.int_bool _ _ _,RcNeAt.int_bool _ _ _⟩
   |int i t=>exact⟨EqAt.int_int _ _ _ _,RcAt.int_int _ _ _ _,RcNeAt.int_int _ _ _ _⟩
   |str i t=>exact⟨EqAt.int_str _ _ _ _,RcAt.int_str _ _ _ _,RcNeAt.int_str _ _ _ _⟩
  |str a a4=>cases k2 with
   |tup=>cases J
   |lst p ps a vs its h=>rcases h with rfl|rfl<;>cases J
   |non=>exact⟨EqAt.str_none _ _,RcAt.str_none _ _,RcNeAt.str_none _ _⟩
   |bl b=>exact⟨EqAt.str_bool _ _ _,RcAt.str_bool _ _ _,RcNeAt.str_bool _ _ _⟩
   |int i t=>exact⟨EqAt.str_int _ _ _ _,RcAt.str_int _ _ _ _,RcNeAt.str_int _ _ _ _⟩
   |str i t=>exact⟨EqAt.str_str _ _ _ _,RcAt.str_str _ _ _ _,RcNeAt.str_str _ _ _ _⟩
|succ n ih=>
  intro A p q x y u v I U J hu rp ru rq rv;have k1:=Qec I U rp ru;have k2:=Qec I J rq rv;have z:A.units<aS:=by omega
  have a5:A.in1.units+n<aS:=by show A.units+1+n<aS;omega
  cases k1 with
  |non=>cases k2 with
   |non=>exact⟨EqAt.same _,RcAt.none_none,RcNeAt.none_none⟩
   |bl b=>exact⟨EqAt.none_bool _,RcAt.none_bool _,RcNeAt.none_bool _⟩
   |int i t=>exact⟨EqAt.none_int _ _,RcAt.none_int _ _,RcNeAt.none_int _ _⟩
   |str i t=>exact⟨EqAt.none_str _ _,RcAt.none_str _ _,RcNeAt.none_str _ _⟩
   |tup ps a vs its ha r S p1=>exact⟨EqAt.none_tuple p1 z,RcAt.none_tuple p1 z,RcNeAt.none_tuple p1 z⟩
   |lst p ps a vs its h r S p1=>rcases h with rfl|rfl<;>exact⟨EqAt.none_list p1 z,RcAt.none_list p1 z,RcNeAt.none_list p1 z⟩
  |bl a=>cases k2 with
   |non=>exact⟨EqAt.bool_none _,RcAt.bool_none _,RcNeAt.bool_none _⟩
   |bl b=>exact⟨EqAt.bool_bool _ _,RcAt.bool_bool _ _,RcNeAt.bool_bool _ _⟩
   |int i t=>exact⟨EqAt.bool_int _ _ _,RcAt.bool_int _ _ _,RcNeAt.bool_int _ _ _⟩
   |str i t=>exact⟨EqAt.bool_str _ _ _,RcAt.bool_str _ _ _,RcNeAt.bool_str _ _ _⟩
   |tup ps a vs its ha r S p1=>exact⟨EqAt.bool_tuple _ p1 z,RcAt.bool_tuple _ p1 z,RcNeAt.bool_tuple _ p1 z⟩
   |lst p ps a vs its h r S p1=>rcases h with rfl|rfl<;>exact⟨EqAt.bool_list _ p1 z,RcAt.bool_list _ p1 z,RcNeAt.bool_list _ p1 z⟩
  |int a a4=>cases k2 with
   |non=>exact⟨EqAt.int_none _ _,RcAt.int_none _ _,RcNeAt.int_none _ _⟩
   |bl b=>exact⟨EqAt.int_bool _ _ _,RcAt.int_bool _ _ _,RcNeAt.int_bool _ _ _⟩
   |int i t=>exact⟨EqAt.int_int _ _ _ _,RcAt.int_int _ _ _ _,RcNeAt.int_int _ _ _ _⟩
   |str i t=>exact⟨EqAt.int_str _ _ _ _,RcAt.int_str _ _ _ _,RcNeAt.int_str _ _ _ _⟩
   |tup ps a vs its ha r S p1=>exact⟨EqAt.int_tuple _ _ p1 z,RcAt.int_tuple _ _ p1 z,RcNeAt.int_tuple _ _ p1 z⟩
   |lst p ps a vs its h r S p1=>rcases h with rfl|rfl<;>exact⟨EqAt.int_list _ _ p1 z,RcAt.int_list _ _ p1 z,RcNeAt.int_list _ _ p1 z⟩
  |str a a4=>cases k2 with
   |non=>exact⟨EqAt.str_none _ _,RcAt.str_none _ _,RcNeAt.str_none _ _⟩
   |bl b=>exact⟨EqAt.str_bool _ _ _,RcAt.str_bool _ _ _,RcNeAt.str_bool _ _ _⟩
   |int i t=>exact⟨EqAt.str_int _ _ _ _,RcAt.str_int _ _ _ _,RcNeAt.str_int _ _ _ _⟩
   |str i t=>exact⟨EqAt.str_str _ _ _ _,RcAt.str_str _ _ _ _,RcNeAt.str_str _ _ _ _⟩
   |tup ps a vs its ha r S p1=>exact⟨EqAt.str_tuple _ _ p1 z,RcAt.str_tuple _ _ p1 z,RcNeAt.str_tuple _ _ p1 z⟩
   |lst p ps a vs its h r S p1=>rcases h with rfl|rfl<;>exact⟨EqAt.str_list _ _ p1 z,RcAt.str_list _ _ p1 z,RcNeAt.str_list _ _ p1 z⟩
  |tup ps a vs its ha r S p1=>cases k2 with
   |non=>exact⟨EqAt.tuple_none p1 z,RcAt.tuple_none p1 z,RcNeAt.tuple_none p1 z⟩
   |bl b=>exact⟨EqAt.tuple_bool _ p1 z,RcAt.tuple_bool _ p1 z,RcNeAt.tuple_bool _ p1 z⟩
   |int i t=>exact⟨EqAt.tuple_int _ _ p1 z,RcAt.tuple_int _ _ p1 z,RcNeAt.tuple_int _ _ p1 z⟩
   |str i t=>exact⟨EqAt.tuple_str _ _ p1 z,RcAt.tuple_str _ _ p1 z,RcNeAt.tuple_str _ _ p1 z⟩
   |tup O b us G hb Y Z p2=>
    have l1:its.toArray.size=ps.length:=by rw[O8,<- S.length,r.length]
    have l2:G.toArray.size=O.length:=by rw[O8,<- Z.length,Y.length]
    have he:∀j(h1:j<its.toArray.size)(h2:j<G.toArray.size),EqAt A.in1 s its.toArray[j] G.toArray[j] (peq (ps.getD j .non) (O.getD j .non)):=λj h1 h2=>by
     obtain⟨x1,a1,b1⟩:=zn r S (j:=j) (by simpa using h1);obtain⟨x2,a2,b2⟩:=zn Y Z (j:=j) (by simpa using h2);exact(ih I (zm U j ()) (zm J j ()) a5 a1 b1 a2 b2).1
    have rc:=RcAt.tuples p1 p2 z he;have rn:=RcNeAt.tuples p1 p2 z he;rw[l1,l2,Qbv]at rc rn;refine⟨?_,rc,rn⟩
    by_cases e:a=b
    ·subst e;have:peqL ps O=zb:=by
      rw[ha]at hb;cases hb;exact repL_same U J r Y
     show EqAt A s _ _ (peqL ps O);rw[this];exact EqAt.same _
    ·exact EqAt.of_refs e rc
   |lst q O b us G h Y Z p2=>rcases h with rfl|rfl<;>exact⟨EqAt.tuple_list p1 p2 z,RcAt.tuple_list p1 p2 z,RcNeAt.tuple_list p1 p2 z⟩
  |lst p ps a vs its h r S p1=>cases k2 with
   |non=>rcases h with rfl|rfl<;>exact⟨EqAt.list_none p1 z,RcAt.list_none p1 z,RcNeAt.list_none p1 z⟩
   |bl b=>rcases h with rfl|rfl<;>exact⟨EqAt.list_bool _ p1 z,RcAt.list_bool _ p1 z,RcNeAt.list_bool _ p1 z⟩
   |int i t=>rcases h with rfl|rfl<;>exact⟨EqAt.list_int _ _ p1 z,RcAt.list_int _ _ p1 z,RcNeAt.list_int _ _ p1 z⟩
   |str i t=>rcases h with rfl|rfl<;>exact⟨EqAt.list_str _ _ p1 z,RcAt.list_str _ _ p1 z,RcNeAt.list_str _ _ p1 z⟩
   |tup O b us G hb Y Z p2=>rcases h with rfl|rfl<;>exact⟨EqAt.list_tuple p1 p2 z,RcAt.list_tuple p1 p2 z,RcNeAt.list_tuple p1 p2 z⟩
   |lst q O b us G h2 Y Z p2=>
    have l1:its.toArray.size=ps.length:=by rw[O8,<- S.length,r.length]
    have l2:G.toArray.size=O.length:=by rw[O8,<- Z.length,Y.length]
    have a7:ps.all (good n)=zb:=by rcases h with rfl|rfl<;>exact U
    have a8:O.all (good n)=zb:=by rcases h2 with rfl|rfl<;>exact J
    have ep:peq p q=peqL ps O:=by rcases h with rfl|rfl<;>rcases h2 with rfl|rfl<;>rfl
    have he:∀j(h1:j<its.toArray.size)(h2:j<G.toArray.size),EqAt A.in1 s its.toArray[j] G.toArray[j] (peq (ps.getD j .non) (O.getD j .non)):=λj h1 h2=>by
     obtain⟨x1,a1,b1⟩:=zn r S (j:=j) (by simpa using h1);obtain⟨x2,a2,b2⟩:=zn Y Z (j:=j) (by simpa using h2);exact(ih I (zm a7 j ()) (zm a8 j ()) a5 a1 b1 a2 b2).1
    rw[ep];have a3:RcAt A s (.ref a) (.ref b) (peqL ps O)/\RcNeAt A s (.ref a) (.ref b) (!peqL ps O):=by
     by_cases e:ps.length=O.length
     ·have rc:=RcAt.lists p1 p2 (by rw[l1,l2,e]) z he;have rn:=RcNeAt.lists p1 p2 (by rw[l1,l2,e]) z he;rw[l1,<- Q3p e]at rc rn;exact⟨rc,rn⟩
     ·have e':(its.toArray.size !=G.toArray.size)=zb:=by rw[l1,l2];simpa using e
      rw[Q3m e];exact⟨RcAt.lists_lengths p1 p2 e' z,RcNeAt.lists_lengths p1 p2 e' z⟩
    refine⟨?_,a3.1,a3.2⟩
    by_cases e:a=b
    ·subst e;have a6:peq p q=zb:=by
      have b0:=rp;have a9:=rq;have xa:x=.ref a:=by
       rcases h with rfl|rfl<;>(obtain⟨b',_,rfl,_⟩:=rp;cases ru;rfl)
      have ya:y=.ref a:=by
       rcases h2 with rfl|rfl<;>(obtain⟨b',_,rfl,_⟩:=rq;cases rv;rfl)
      subst xa;subst ya;exact Q9b U J rp rq
     rw[<- ep,a6];exact EqAt.same _
    ·exact EqAt.of_refs e a3.1
end Sm
namespace Sm
open PySem PySem.Spec L2
def lim:Nat:=1000000
def Q7x:lim<=sizeLine:=by decide
def Yi(h:n<=lim):n<=sizeLine:=E8 h Q7x
def Vf(st:Q0):PV->Option (List PV)
|.lst xs=>zo xs
|.ref i=>match st[i]? with
  |some (.lst xs)=>zo xs
  |_=>zl
|_=>zl
def V2(st:Q0):PV->Option (List PV)
|.fro xs=>zo xs
|p=>Vf st p
def Wv(st:Q0):PV->Option (List PV)
|.tup xs=>zo xs
|p=>V2 st p
def der(st:Q0):PV->PV
|.ref i=>match st[i]? with
  |some (.lst xs)=>.lst xs
  |_=>.ref i
|p=>p
variable{H:Hp}{ρ:Tk}{st:Q0}{p:PV}{v:V}{xs:List PV}
def x8(R:Rel H ρ st)(r:Rep H ρ p v)(e:Vf st p=zo xs):∃a vs,v=.ref a/\H a=zo (.lst vs)/\RepL H ρ xs vs:=by
 cases p with
|lst ys=>
  obtain⟨a,vs,q,j,_,I⟩:=r;cases e;exact⟨a,vs,q,j,I⟩
|ref i=>
  obtain⟨a,q,j⟩:=r;simp only[Vf]at e
  split at e
  ·rename_i ys hs;cases e;obtain⟨b,vs,z,J,G⟩:=R.lst hs;rw[q]at z;cases z;exact⟨a,vs,j,J,G⟩
  ·cases e
|_=>cases e
def Zv(R:Rel H ρ st)(r:Rep H ρ p v)(e:V2 st p=zo xs):∃a vs,v=.ref a/\Rd H a (.lst vs)/\RepL H ρ xs vs:=by
 cases p with
|fro ys=>
  obtain⟨a,vs,z,q,_,j⟩:=r;cases e;exact⟨a,vs,z,q,j⟩
|_=>
  obtain⟨a,vs,z,q,j⟩:=x8 R r e;exact⟨a,vs,z,.inl q,j⟩
def Q0v{K:bZ}(R:Rel H ρ st)(r:Rep H ρ p v)(e:Wv st p=zo xs):∃(t:Bool)(a:aB)(vs:List V),v=.ref a/\SqK K t H a vs/\RepL H ρ xs vs:=by
 cases p with
|tup ys=>
  obtain⟨a,vs,z,q,_,j⟩:=r;cases e;exact⟨zb,a,vs,z,show SqT K H a vs from SqT.of q,j⟩
|_=>
  obtain⟨a,vs,z,q,j⟩:=Zv R r e;exact⟨yo,a,vs,z,show SqL K H a vs from .inl q,j⟩
def Qhw{K:bZ}(h:SqK K t H a vs):SqL K H a vs\/SqT K H a vs:=by
 cases t with
|true=>exact .inr h
|false=>exact .inl h
mutual
theorem Qdq:∀{n:Nat}{q:PV}{u:V},good n q=zb->Rep H ρ q u->Rep H Tk.nil q u
|_,.non,_,_,r=>r
|_,.bl _,_,_,r=>r
|_,.int _,_,_,r=>r
|_,.str _,_,_,r=>r
|0,.tup _,_,g,_=>by cases g
|0,.lst _,_,g,_=>by cases g
|0,.fro _,_,g,_=>by cases g
|n+1,.tup _,_,g,⟨a,vs,e,h,_,r⟩=>⟨a,vs,e,h,Tk.not_nil _,repL_nil g r⟩
|n+1,.lst _,_,g,⟨a,vs,e,h,_,r⟩=>⟨a,vs,e,h,Tk.not_nil _,repL_nil g r⟩
|n+1,.fro _,_,g,⟨a,vs,e,h,_,r⟩=>⟨a,vs,e,h,Tk.not_nil _,repL_nil g r⟩
|0,.ref _,_,g,_=>by cases g
|_+1,.ref _,_,g,_=>by cases g
|0,.dic,_,g,_=>by cases g
|_+1,.dic,_,g,_=>by cases g
theorem repL_nil:∀{n:Nat}{j:List PV}{z:List V},j.all (good n)=zb->RepL H ρ j z->RepL H Tk.nil j z
|_,[],_,_,r=>r
|n,q::j,_,g,⟨v,r,e,h1,h2⟩=>by
  rw[cP,F3]at g;exact⟨v,r,e,Qdq g.1 h1,repL_nil g.2 h2⟩
end
def zt(R:Rel H ρ st)(g:good n (der st p)=zb)(r:Rep H ρ p v):Rep H Tk.nil (der st p) v:=by
 cases p with
|ref i=>
  obtain⟨a,G,q⟩:=r;simp only[der]at g ⊢
  split at g
  ·rename_i ys hs;obtain⟨b,vs,j,I,z⟩:=R.lst hs;rw[G]at j;cases j;cases n with
   |zero=>cases g
   |succ n=>exact⟨a,vs,q,I,Tk.not_nil _,repL_nil g z⟩
  ·cases n<;>cases g
|_=>exact Qdq g r
def Q07{Q:VK}(R:Rel H ρ st)(h:Acc mg E H ρ (QV Q) (.ok (.tup ps) st))(r:RepL H ρ ps vs):∀p,H p=zl->Q (.ref p) (upd H p (.tup vs)):=
 λp j=>h _ ρ (Ext.add j) (R.add j) _ ⟨p,vs,rfl,Qj,R.fresh j,r.ext (Ext.add j)⟩
def ze{Q:VK}(R:Rel H ρ st)(h:Acc mg E H ρ (QV Q) (.ok (.lst ps) st))(r:RepL H ρ ps vs):∀p,H p=zl->Q (.ref p) (upd H p (.lst vs)):=
 λp j=>h _ ρ (Ext.add j) (R.add j) _ ⟨p,vs,rfl,Qj,R.fresh j,r.ext (Ext.add j)⟩
def now{Q:VK}(R:Rel H ρ st)(h:Acc mg E H ρ (QV Q) (.ok p st))(r:Rep H ρ p v):Q v H:=h H ρ (Ext.refl _ _) R v r
section
variable{X:Cx}{E:XK}{pos:Pos}
def Q2(i:Nat):ME:=λΓ st=>match Γ[i]? with
|some (zo p)=>.ok p st
|_=>.stuck
def mC(p:PV):ME:=λ_ st=>.ok p st
def Qt i(I:X.N[i]?=zo x:=by rfl)(q:Vis X.env.scope x:=by first|exact .inl rfl|exact .inr (.inl rfl)|exact .inr (.inr rfl))(hd:(x==("__debug__":Str))=yo:=by decide)(j:(x==("__classdict__":Str))=yo:=by decide):SimE X E (.Name x pos) (Q2 i):=⟨λΓ σ H ρ st Q R G h=>WE.of (Qjf I q hd j) (by
 unfold Q2 at h
 split at h
 ·rename_i p e;obtain⟨v,z,r⟩:=G.2 i p e;exact⟨v,z,now R h r⟩
 ·exact h.elim)⟩
def Jz:SimE X E (.Constant (.int i) j pos) (mC (.int i)):=⟨λΓ σ H ρ st Q R G h=>WE.of Qjj (now R h rfl)⟩
def Q5v:SimE X E (.Constant (.bool b) j pos) (mC (.bl b)):=⟨λΓ σ H ρ st Q R G h=>WE.of Qjp (now R h rfl)⟩
def Qtv:SimE X E (.Constant .none j pos) (mC .non):=⟨λΓ σ H ρ st Q R G h=>WE.of Qbw (now R h rfl)⟩
def Qts:SimE X E (.Constant (.str x) j pos) (mC (.str x)):=⟨λΓ σ H ρ st Q R G h=>WE.of Q7f (now R h rfl)⟩
def Qph(j:Gl X x)(hm:X.mg x=zo (.int i t))(hd:(x==("__debug__":Str))=yo):SimE X E (.Name x pos) (mC (.int i)):=
 ⟨λΓ σ H ρ st Q R G h=>WE.of (Z5 j hm (v:=.int i) ⟨t,rfl⟩ hd) (now R h rfl)⟩
variable{a b c:aH}{ma mb mc:ME}
def mOp(o:OP)(ma mb:ME):ME:=λΓ st=>(ma Γ st).bind λx st1=>(mb Γ st1).bind λy st2=>o st2 x y
def Q8m{st:Q0}{P:PV->Q0->Hp->Tk->Prop}{Q:VK}(ho:OpS X E f o)(Z:SimE X E a ma)(hb:SimE X E b mb)(R:Rel H ρ st)(G:EnvR H ρ Γ σ)(h:Acc X.mg E H ρ P (mOp o ma mb Γ st))(k:∀p j H1 ρ1 v,Ext H ρ H1 ρ1->Rel H1 ρ1 j->Rep H1 ρ1 p v->P p j H1 ρ1->Q v H1):tOp (WO X f) (WE X a) (WE X b) σ H Q:=by
 refine Z.use R G h.bind λp j H1 ρ1 v x1 R1 O S h1=>?_
 refine hb.use R1 O h1.bind λq a1 H2 a2 u x2 R2 G2 Y h2=>?_
 exact ho.use R2 (S.ext x2) Y h2 λw J H3 I z x3 U r3 p3=>k w J H3 I z (x1.trans (x2.trans x3)) U r3 p3
def Qxx(I:OpS X E (aZ op) o)(z:SimE X E a ma)(j:SimE X E b mb):SimE X E (.BinOp a op b pos) (mOp o ma mb):=
 ⟨λΓ σ H ρ st Q R G h=>WE.of (Qjh Qbz Jc Jc) (Q8m I z j R G h λ_ _ _ _ v _ _ r q=>q v r)⟩
def Qtz(I:OpS X E (aV op) o)(z:SimE X E a ma)(j:SimE X E b mb)(hm:bM op b=yo):SimE X E (.Compare a [op] [b] pos) (mOp o ma mb):=
 ⟨λΓ σ H ρ st Q R G h=>WE.of (Q7g Qbz Jc Jc hm) (Q8m I z j R G h λ_ _ _ _ v _ _ r q=>q v r)⟩
def asB(p:PV)(st:Q0):Res Bool:=match p with
|.bl k=>.ok k st
|_=>.stuck
def toB(m:ME):Gam->Q0->Res Bool:=λΓ st=>(m Γ st).bind asB
def Qey{st:Q0}{P:Bool->Q0->Hp->Tk->Prop}(R:Rel H ρ st)(r:Rep H ρ p v)(h:Acc mg E H ρ P (asB p st)):∃k,v=.bl k/\P k st H ρ:=by
 cases p with
|bl k=>exact⟨k,r,h H ρ (Ext.refl _ _) R⟩
|_=>exact h.elim
def Qbh(S:OpS X E (aV op) o)(J:SimE X E a ma)(I:SimE X E b mb)(hm:bM op b=yo:=by first|exact Q41 _|rfl):SimT X E (.Compare a [op] [b] pos) (toB (mOp o ma mb)):=
 ⟨λΓ σ H ρ st Q R G h=>WT.of (Q2k Qbz Jc Jc hm) (Q8m S J I R G h.bind λ_ O _ _ v _ j r q=>by
  obtain⟨k,e,z⟩:=Qey j r q;exact⟨k,e,z⟩)⟩
def Qbg{e:aH}(h:SimE X E e m)(J:∀j,isTrue e X.env j=(do let v<-j;standAt e.pos;av [v] (truthy v)):=by intro _;rfl):SimT X E e (toB m):=
 ⟨λΓ σ H ρ st Q R G S=>WT.of (Qiy Jc J) (h.use R G S.bind λp O H1 ρ1 v x1 q U I h1=>by
  obtain⟨k,e,z⟩:=Qey q I h1;exact⟨k,e,z⟩)⟩
def qb(o o':OP)(ma mb mc:ME):ME:=λΓ st=>(ma Γ st).bind λx st1=>(mb Γ st1).bind λy st2=>(o st2 x y).bind λk st3=>match k with
|.bl zb=>(mc Γ st3).bind λz st4=>o' st4 y z
|.bl yo=>.ok (.bl yo) st3
|_=>.stuck
def Q6n{st:Q0}{P:PV->Q0->Hp->Tk->Prop}{Q:VK}(ho:OpS X E (aV op) o)(U:OpS X E (aV I) o')(ha:SimE X E a ma)(hb:SimE X E b mb)(hc:SimE X E c mc)(R:Rel H ρ st)(G:EnvR H ρ Γ σ)(h:Acc X.mg E H ρ P (qb o o' ma mb mc Γ st))(k:∀p j H1 ρ1 v,Ext H ρ H1 ρ1->Rel H1 ρ1 j->Rep H1 ρ1 p v->P p j H1 ρ1->Q v H1):Qbe (WO X (aV op)) (WO X (aV I)) (WE X a) (WE X b) (WE X c) σ H Q:=by
 refine ha.use R G h.bind λp j H1 ρ1 v x1 R1 G1 r1 h1=>?_
 refine hb.use R1 G1 h1.bind λq a3 H2 a5 u x2 R2 G2 r2 h2=>?_
 refine ho.use R2 (r1.ext x2) r2 h2.bind λw a4 H3 J z O S r3 h3=>?_
 cases w with
|bl b=>
  refine⟨b,r3,?_⟩;cases b with
  |true=>
   rw[bU rfl];refine hc.use S (G2.ext O) h3.bind λy a1 H4 a2 yv x4 R4 G4 r4 h4=>?_
   exact U.use R4 (r2.ext (O.trans x4)) r4 h4 λw Y H5 Z z x5 R5 r5 p5=>k w Y H5 Z z (x1.trans (x2.trans (O.trans (x4.trans x5)))) R5 r5 p5
  |false=>
   rw[bV O9];exact k (.bl yo) _ H3 J _ (x1.trans (x2.trans O)) S rfl (h3 H3 J (Ext.refl _ _) S)
|_=>exact h3.elim
def Qia(S:OpS X E (aV op) o)(z:OpS X E (aV j) o')(O:SimE X E a ma)(I:SimE X E b mb)(J:SimE X E c mc)(hm:lastMarks [op,j] [b,c]=yo):SimE X E (.Compare a [op,j] [b,c] pos) (qb o o' ma mb mc):=
 ⟨λΓ σ H ρ st Q R G h=>WE.of (Qjn Qbz Qbz Jc Jc Jc hm) (Q6n S z O I J R G h λ_ _ _ _ v _ _ r q=>q v r)⟩
def Qhq(Y:OpS X E (aV op) o)(I:OpS X E (aV j) o')(U:SimE X E a ma)(O:SimE X E b mb)(S:SimE X E c mc)(hm:lastMarks [op,j] [b,c]=yo):SimT X E (.Compare a [op,j] [b,c] pos) (toB (qb o o' ma mb mc)):=
 ⟨λΓ σ H ρ st Q R G h=>WT.of (Qj0 Qbz Qbz Jc Jc Jc hm) (Q6n Y I U O S R G h.bind λ_ Z _ _ v _ J r q=>by
  obtain⟨k,e,z⟩:=Qey J r q;exact⟨k,e,z⟩)⟩
variable{rest:List aH}
def yz(ma mb:ME):ME:=λΓ st=>(ma Γ st).bind λx st1=>match x with
|.bl zb=>mb Γ st1
|.bl yo=>.ok (.bl yo) st1
|_=>.stuck
def mOr(ma mb:ME):ME:=λΓ st=>(ma Γ st).bind λx st1=>match x with
|.bl zb=>.ok (.bl zb) st1
|.bl yo=>mb Γ st1
|_=>.stuck
def Qvd(ma:ME):ME:=λΓ st=>(ma Γ st).bind λx st1=>match x with
|.bl k=>.ok (.bl (!k)) st1
|_=>.stuck
def Qtt(j:SimE X E a ma):SimE X E (.BoolOp op [a] pos) ma:=⟨λΓ σ H ρ st Q R G h=>WE.of (Qug Jc) (j.use R G h λ_ _ _ _ v _ _ _ r q=>q v r)⟩
def Qu0(O:SimE X E a ma)(z:SimE X E (.BoolOp .And (b::rest) pos) mb):SimE X E (.BoolOp .And (a::b::rest) pos) (yz ma mb):=
 ⟨λΓ σ H ρ st Q R G h=>WE.of (Quk Jc Jc) (O.use R G h.bind λp S H1 ρ1 v x1 j I J h1=>by
  cases p with
  |bl k=>
   refine⟨k,J,?_⟩;cases k with
   |true=>rw[bU rfl];exact z.use j I h1 λ_ _ _ _ v _ _ _ r q=>q v r
   |false=>rw[bV O9];exact now j h1 rfl
  |_=>exact h1.elim)⟩
def Qxw(O:SimE X E a ma)(z:SimE X E (.BoolOp .Or (b::rest) pos) mb):SimE X E (.BoolOp .Or (a::b::rest) pos) (mOr ma mb):=
 ⟨λΓ σ H ρ st Q R G h=>WE.of (Qya Jc Jc) (O.use R G h.bind λp S H1 ρ1 v x1 j I J h1=>by
  cases p with
  |bl k=>
   refine⟨k,J,?_⟩;cases k with
   |true=>rw[bU rfl];exact now j h1 rfl
   |false=>rw[bV O9];exact z.use j I h1 λ_ _ _ _ v _ _ _ r q=>q v r
  |_=>exact h1.elim)⟩
def Qtu(z:SimE X E a ma):SimE X E (.UnaryOp .Not a pos) (Qvd ma):=
 ⟨λΓ σ H ρ st Q R G h=>WE.of (Quh Jc) (z.use R G h.bind λp I H1 ρ1 v x1 j J q h1=>by
  cases p with
  |bl k=>exact⟨k,q,now j h1 rfl⟩
  |_=>exact h1.elim)⟩
abbrev MT:=Gam->Q0->Res Bool
variable{ta tb:MT}
def qw(ta tb:MT):MT:=λΓ st=>(ta Γ st).bind λk st1=>if k=zb then tb Γ st1 else .ok yo st1
def Kr(ta tb:MT):MT:=λΓ st=>(ta Γ st).bind λk st1=>if k=zb then .ok zb st1 else tb Γ st1
def Zx(ta:MT):MT:=λΓ st=>(ta Γ st).bind λk st1=>.ok (!k) st1
def SimW.t(h:SimW X E e ta):SimT X E e ta:=⟨λΓ σ H ρ st Q R G q pins s I=>h.run Γ σ H ρ st Q R G q _ pins s I⟩
def Qnv(j:SimT X E a ta):SimW X E (.BoolOp .And [a] pos) ta:=⟨λΓ σ H ρ st Q R G h=>WW.of (Qpt Q9j) (j.use R G h λ_ _ _ _ _ _ _ q=>q)⟩
def Qtk(j:SimT X E a ta):SimW X E (.BoolOp .Or [a] pos) ta:=⟨λΓ σ H ρ st Q R G h=>WW.of (Qiu Q9j) (j.use R G h λ_ _ _ _ _ _ _ q=>q)⟩
def Qtm(J:SimT X E a ta)(z:SimW X E (.BoolOp .And (b::rest) pos) tb):SimW X E (.BoolOp .And (a::b::rest) pos) (qw ta tb):=
 ⟨λΓ σ H ρ st Q R G h=>WW.of (Qu8 Q9j Qy6) (J.use R G h.bind λk O H1 ρ1 x1 j I h1=>by
  cases k with
  |true=>rw[bU rfl]at h1 ⊢;exact z.use j I h1 λ_ _ _ _ _ _ _ q=>q
  |false=>rw[bV O9]at h1 ⊢;exact h1 H1 ρ1 (Ext.refl _ _) j)⟩
def Qxs(J:SimT X E a ta)(z:SimW X E (.BoolOp .Or (b::rest) pos) tb):SimW X E (.BoolOp .Or (a::b::rest) pos) (Kr ta tb):=
 ⟨λΓ σ H ρ st Q R G h=>WW.of (Qsv Q9j Qy6) (J.use R G h.bind λk O H1 ρ1 x1 j I h1=>by
  cases k with
  |true=>rw[bU rfl]at h1 ⊢;exact h1 H1 ρ1 (Ext.refl _ _) j
  |false=>rw[bV O9]at h1 ⊢;exact z.use j I h1 λ_ _ _ _ _ _ _ q=>q)⟩
def Qtn(q:SimT X E a ta):SimT X E (.UnaryOp .Not a pos) (Zx ta):=
 ⟨λΓ σ H ρ st Q R G h=>WT.of (Qiz Q9j) (q.use R G h.bind λk z H1 ρ1 x1 j I h1=>h1 H1 ρ1 (Ext.refl _ _) j)⟩
variable{e:aH}{es:List aH}{m:ME}{mr:Gam->Q0->Res (List PV)}
def Q6:Gam->Q0->Res (List PV):=λ_ st=>.ok [] st
def Q1(m:ME)(mr:Gam->Q0->Res (List PV)):Gam->Q0->Res (List PV):=λΓ st=>(m Γ st).bind λp st1=>(mr Γ st1).bind λps st2=>.ok (p::ps) st2
def J7:SimA X E [] Q6:=⟨λΓ σ H ρ st Q R G h=>WA.of Jb (h H ρ (Ext.refl _ _) R [] rfl)⟩
def Qg(S:SimE X E e m)(q:SimA X E es mr)(hs:aN (e::es) X.env=(yo,aM e X.env)::aN es X.env:=by rfl):SimA X E (e::es) (Q1 m mr):=
 ⟨λΓ σ H ρ st Q R G h=>WA.of (Qk Jc Q3s hs) (S.use R G h.bind λp U H1 ρ1 v x1 z J O h1=>q.use z J h1.bind λps Y H2 j vs x2 R2 Z I h2=>
  h2 H2 j (Ext.refl _ _) R2 (v::vs) ⟨v,vs,rfl,O.ext x2,I⟩)⟩
def Yr(mr:Gam->Q0->Res (List PV)):ME:=λΓ st=>(mr Γ st).bind λps st1=>if ps.length<=lim then .ok (.tup ps) st1 else .stuck
def yy(mr:Gam->Q0->Res (List PV)):ME:=λΓ st=>(mr Γ st).bind λps st1=>if ps.length<=lim then .ok (.lst ps) st1 else .stuck
def yp(h:SimA X E es mr):SimE X E (.Tuple es k pos) (Yr mr):=
 ⟨λΓ σ H ρ st Q R G J=>WE.of (Quf Q3s) (h.use R G J.bind λps I H1 ρ1 vs x1 z O q h1=>by
  by_cases j:ps.length<=lim
  ·rw[bU j]at h1;exact⟨by rw[<- q.length];exact Yi j,Q07 z h1 q⟩
  ·rw[bV j]at h1;exact h1.elim)⟩
def Qbm(h:SimA X E es mr):SimE X E (.List es pos) (yy mr):=
 ⟨λΓ σ H ρ st Q R G J=>WE.of (Qbx Q3s) (h.use R G J.bind λps I H1 ρ1 vs x1 z O q h1=>by
  by_cases j:ps.length<=lim
  ·rw[bU j]at h1;exact⟨by rw[<- q.length];exact Yi j,ze z h1 q⟩
  ·rw[bV j]at h1;exact h1.elim)⟩
end
end Sm
namespace HT
open PySem PySem.Spec PyProof.Rows
variable{prog:aK}{A:aO}{E:aA->aC->Prop}{s:aC}
section
variable{w:aJ}
def getItem_tuple_whole {t I:aB} {j:Array aA} {Y U:aA} {lo hi:Option Int} {Q:aA->aC->Prop} (q:IsTup s.heap t j) (hs:s.heap.IsSliceOf I Y U .none) (pl:IsPart Y lo) (Z:IsPart U hi)
  (S:sIx j.size 0 lo=0/\sIx j.size j.size hi=j.size)
  (h:Q (.ref t) s):aF (aI prog w) A (getItem (.ref t) (.ref I)) Q E s:=by
 obtain⟨os,J,G,a1⟩:=id hs;have O:s.TypeIs (.ref I) "slice":=⟨os,J,G⟩;unfold getItem
 try with_reducible refine ae ?_
 first|refine aD (wpAny_pure ?_)|skip
 refine aD (wpAny_sequenceKey q.typeIs (by decide) ?_);refine aD (wpAny_callSpecial?_slot (name:=cY "__getitem__") q.typeIs eK
  (af eK q.typeIs entry_tuple_getitem ?_ (args_tuple_getitem _ _)))
 show aF _ _ (Builtin.Tuple.tupleItemsOf (.ref t)>>=_) _ _ s;refine aD (tupleItemsOf_ q ?_);refine aD (bG O ?_);rw[bU (by decide)];refine aD (Kg hs pl Z ?_);have z:(((sIx j.size 0 lo:Nat):Int)==0&&(1:Int)==1&&(sIx j.size j.size hi-sIx j.size 0 lo)==j.size)=zb:=by
  rw[S.1,S.2];simp
 show aF _ _ (if(((sIx j.size 0 lo:Nat):Int)==0&&(1:Int)==1&&(sIx j.size j.size hi-sIx j.size 0 lo)==j.size)=zb then _ else _) _ _ s;rw[bU z];refine aD (aD (bG q.typeIs (wpAny_pure ?_)));rw[bU (by rfl)];exact aD (bQ (wpAny_pure ⟨_,rfl,wpAny_pure h⟩))
end
end HT
namespace L2
open PySem PySem.Spec PyProof.Rows
def J1p(K:bZ):V->Option Int->Option Int->Hp->VK->Prop:=λx lo hi H Q=>∃a xs,x=.ref a/\SqT K H a xs/\
 (HT.sIx xs.length 0 lo=0/\HT.sIx xs.length xs.length hi=xs.length)/\Q (.ref a) H
def sl_whole{X:Cx}:SlR X (J1p X.K):=by
 intro pins s σ H x v Z vu lo hi Y Q I S hs U J h;obtain⟨a,xs,rfl,O,G,q⟩:=h;cases S;obtain⟨its,r,z,hz⟩:=I.tuple O;have j:its.toArray.size=xs.length:=by rw[O8];exact r.length.symm
 refine⟨"tuple",_,PyProof.Rows.slot_tuple_getitem.lookup,z.typeIs,?_⟩;exact HT.getItem_tuple_whole z hs U J (by rw[j];exact G) ⟨.ref a,H,I,rfl,q⟩
end L2
namespace Sm
open PySem PySem.Spec L2
variable{X:Cx}{E:XK}{pos:Pos}
def oI(g:Int->Int->PV):OP:=λst p q=>match p,q with
|.int a,.int b=>.ok (g a b) st
|_,_=>.stuck
def Zu:OP:=λst p q=>match p,q with
|.int a,.int b=>.ok (.int (a+b)) st
|.str a,.str b=>if a.length+b.length<=lim then .ok (.str (a++b)) st else .stuck
|.tup xs,.tup ys=>if xs.length+ys.length<=lim then .ok (.tup (xs++ys)) st else .stuck
|p,q=>match Vf st p,Vf st q with
  |some xs,zo ys=>if xs.length+ys.length<=lim then .ok (.lst (xs++ys)) st else .stuck
  |_,_=>.stuck
def Qut:OpS X E (aZ .Add) Zu:=⟨λH ρ st p q x y Q R U Y h=>by
 unfold Zu at h
 split at h
 ·cases U;cases Y;exact WO.of Qv1 ⟨_,_,rfl,rfl,now R h rfl⟩
 ·cases U;cases Y
  split at h
  ·rename_i O;exact WO.of Qc0 ⟨_,_,rfl,rfl,Yi O,now R h rfl⟩
  ·exact h.elim
 ·split at h
  ·rename_i xs ys O;obtain⟨a,vs,rfl,S,na,j⟩:=U;obtain⟨b,J,rfl,I,nb,G⟩:=Y;refine WO.of Qqj ?_
   by_cases e:xs=[]
   ·subst e;cases j;exact .inr ⟨a,b,J,rfl,rfl,SqT.of S,SqT.of I,now R h ⟨b,J,rfl,I,nb,G⟩⟩
   ·refine .inl ⟨a,b,vs,J,rfl,rfl,SqT.of S,SqT.of I,λz=>e ?_,by rw[<- j.length,<- G.length];exact Yi O,λz=>?_,λz=>Q07 R h (j.append G)⟩
    ·subst z;cases xs with
     |nil=>rfl
     |cons _ _=>have:=j.length;simp at this
    ·subst z;have:ys=[]:=by
      cases ys with
      |nil=>rfl
      |cons _ _=>have:=G.length;simp at this
     subst this;rw[G9]at h;exact now R h ⟨a,vs,rfl,S,na,j⟩
  ·exact h.elim
 ·split at h
  ·rename_i xs ys Z e2
   split at h
   ·rename_i O;obtain⟨a,vs,rfl,S,j⟩:=x8 R U Z;obtain⟨b,J,rfl,I,G⟩:=x8 R Y e2;exact WO.of yt ⟨a,b,vs,J,rfl,rfl,S,I,by rw[<- j.length,<- G.length];exact Yi O,ze R h (j.append G)⟩
   ·exact h.elim
  ·exact h.elim⟩
def Qum:OpS X E (aZ .Sub) (oI λa b=>.int (a-b)):=⟨λH ρ st p q x y Q R z j h=>by
 unfold oI at h
 split at h
 ·cases z;cases j;exact WO.of Quu ⟨_,_,rfl,rfl,now R h rfl⟩
 ·exact h.elim⟩
def jb:OP:=λst p q=>match p,q with
|.int a,.int b=>if(-(2^64)<a/\a<2^64)\/(-(2^64)<b/\b<2^64)then .ok (.int (a*b)) st else .stuck
|.tup xs,.int b=>if xs≠[]/\1<=b/\xs.length*b.toNat<=4096 then .ok (.tup (bh b.toNat xs).flatten) st else .stuck
|p,.int b=>match Vf st p with
  |some xs=>if -(2^63)<=b/\b<2^63/\xs.length*b.toNat<=lim then .ok (.lst (bh b.toNat xs).flatten) st else .stuck
  |none=>.stuck
|_,_=>.stuck
def Qup:OpS X E (aZ .Mult) jb:=⟨λH ρ st p q x y Q R O S h=>by
 unfold jb at h
 split at h
 ·cases O;cases S
  split at h
  ·rename_i j;exact WO.of Qux ⟨_,_,rfl,rfl,j,now R h rfl⟩
  ·exact h.elim
 ·cases S
  split at h
  ·rename_i xs b j;obtain⟨a,vs,rfl,I,U,G⟩:=O;refine WO.of Qqh ⟨a,b,vs,rfl,rfl,SqT.of I,λz=>j.1 ?_,j.2.1,by rw[<- G.length];exact j.2.2,λz=>?_,λz=>Q07 R h (G.rep _)⟩
   ·subst z;cases xs with
    |nil=>rfl
    |cons _ _=>have:=G.length;simp at this
   ·subst z;have J:(bh (jP 1) xs).flatten=xs:=by simp
    rw[J]at h;exact now R h ⟨a,vs,rfl,I,U,G⟩
  ·exact h.elim
 ·cases S
  split at h
  ·rename_i xs J
   split at h
   ·rename_i j;obtain⟨a,vs,rfl,I,G⟩:=x8 R O J;exact WO.of Quv ⟨a,_,vs,rfl,rfl,I,j.1,j.2.1,by rw[<- G.length];exact Yi j.2.2,ze R h (G.rep _)⟩
   ·exact h.elim
  ·exact h.elim
 ·exact h.elim⟩
def yw:OP:=λst p q=>match p,q with
|.int a,.int b=>if 0<b then .ok (.int (a%b)) st else .stuck
|_,_=>.stuck
def Quq:OpS X E (aZ .Mod) yw:=⟨λH ρ st p q x y Q R G z h=>by
 unfold yw at h
 split at h
 ·cases G;cases z
  split at h
  ·rename_i j;exact WO.of Quy ⟨_,_,rfl,rfl,j,now R h rfl⟩
  ·exact h.elim
 ·exact h.elim⟩
def Qg1:OP:=λst p q=>match p,q with
|.int a,.int b=>if 0<=b/\b<=1000000/\a.natAbs<2^64 then .ok (.int (a^b.toNat)) st else .stuck
|_,_=>.stuck
def Qun:OpS X E (aZ .Pow) Qg1:=⟨λH ρ st p q x y Q R G z h=>by
 unfold Qg1 at h
 split at h
 ·cases G;cases z
  split at h
  ·rename_i j;exact WO.of Quw ⟨_,_,rfl,rfl,j,now R h rfl⟩
  ·exact h.elim
 ·exact h.elim⟩
def Qc3{g:Int->Int->Bool}(I:OpR X (aV op) (rI0 λi j=>.bl (g i j))):OpS X E (aV op) (oI λa b=>.bl (g a b)):=⟨λH ρ st p q x y Q R G z h=>by
 unfold oI at h
 split at h
 ·cases G;cases z;exact WO.of I ⟨_,_,rfl,rfl,now R h rfl⟩
 ·exact h.elim⟩
def Qyd:OpS X E (aV .LtE) (oI λa b=>.bl (decide (a<=b))):=Qc3 Qt0
def Qye:OpS X E (aV .Gt) (oI λa b=>.bl (decide (b<a))):=Qc3 Qyj
def Qyf:OpS X E (aV .GtE) (oI λa b=>.bl (decide (b<=a))):=Qc3 Qyk
def K4:List PV->Option (List Int)
|[]=>zo []
|.int i::ps=>(K4 ps).map (i :: ·)
|_::_=>zl
def Q0s:List PV->Option (List Bool)
|[]=>zo []
|.bl i::ps=>(Q0s ps).map (i :: ·)
|_::_=>zl
def Q4j(ns:List Int):K4 (ns.map .int)=zo ns:=by
 induction ns with
|nil=>rfl
|cons n ns j=>rw[D3,K4,j];rfl
def Qeu(ns:List Bool):Q0s (ns.map .bl)=zo ns:=by
 induction ns with
|nil=>rfl
|cons n ns j=>rw[D3,Q0s,j];rfl
def Q2q:∀{ps:List PV}{ns:List Int},K4 ps=zo ns->ps=ns.map .int
|[],ns,h=>by cases h;rfl
|.int i::ps,ns,h=>by
  rw[K4]at h;cases e:K4 ps with
  |none=>rw[e]at h;cases h
  |some ms=>rw[e]at h;cases h;rw[Q2q e];rfl
|.non::_,_,h|.bl _::_,_,h|.str _::_,_,h|.tup _::_,_,h|.lst _::_,_,h|.fro _::_,_,h|.ref _::_,_,h|.dic::_,_,h=>by cases h
def Qn8:∀{ps:List PV}{ns:List Bool},Q0s ps=zo ns->ps=ns.map .bl
|[],ns,h=>by cases h;rfl
|.bl i::ps,ns,h=>by
  rw[Q0s]at h;cases e:Q0s ps with
  |none=>rw[e]at h;cases h
  |some ms=>rw[e]at h;cases h;rw[Qn8 e];rfl
|.non::_,_,h|.int _::_,_,h|.str _::_,_,h|.tup _::_,_,h|.lst _::_,_,h|.fro _::_,_,h|.ref _::_,_,h|.dic::_,_,h=>by cases h
def oLt:OP:=λst p q=>match p,q with
|.int a,.int b=>.ok (.bl (decide (a<b))) st
|.tup xs,.tup ys=>match K4 xs,K4 ys with
  |some ns,zo ms=>.ok (.bl (HT.lexLt ns ms)) st
  |_,_=>.stuck
|_,_=>.stuck
def Qyc(hu:X.A.units+64<aS):OpS X E (aV .Lt) oLt:=⟨λH ρ st p q x y Q R z J h=>by
 unfold oLt at h
 split at h
 ·cases z;cases J;exact WO.of Qyi ⟨_,_,rfl,rfl,now R h rfl⟩
 ·split at h
  ·rename_i ns ms S U;obtain⟨a,vs,rfl,I,na,O⟩:=z;obtain⟨b,Y,rfl,j,Z,G⟩:=J;rw[Q2q S]at O;rw[Q2q U]at G;rw[O.toInts]at I;rw[G.toInts]at j;exact WO.of (Quz ()) ⟨a,b,ns,ms,rfl,rfl,SqT.of I,SqT.of j,now R h rfl⟩
  ·exact h.elim
 ·exact h.elim⟩
def dep:Nat:=12
def oEq:OP:=λst p q=>if good dep (der st p)=zb/\good dep (der st q)=zb then .ok (.bl (peq (der st p) (der st q))) st else .stuck
def oNe:OP:=λst p q=>if good dep (der st p)=zb/\good dep (der st q)=zb then .ok (.bl (!peq (der st p) (der st q))) st else .stuck
def Qyg(J:X.A.units+64<aS):OpS X E (aV .Eq) oEq:=⟨λH ρ st p q x y Q R j G h=>by
 unfold oEq at h
 split at h
 ·rename_i g;intro pins s σ v u I z ru;exact(Qem dep I g.1 g.2 (by unfold dep;omega) (zt R g.1 j) z (zt R g.2 G) ru).2.1 _ _ _ _ ⟨.bl _,H,I,rfl,now R h rfl⟩
 ·exact h.elim⟩
def Qsy(J:X.A.units+64<aS):OpS X E (aV .NotEq) oNe:=⟨λH ρ st p q x y Q R j G h=>by
 unfold oNe at h
 split at h
 ·rename_i g;intro pins s σ v u I z ru;exact(Qem dep I g.1 g.2 (by unfold dep;omega) (zt R g.1 j) z (zt R g.2 G) ru).2.2 _ _ _ _ ⟨.bl _,H,I,rfl,now R h rfl⟩
 ·exact h.elim⟩
def Qah:PV->Bool
|.non=>zb
|_=>yo
def Qgi(r:Rep H ρ p x):decide (x=.non)=Qah p:=by
 cases p with
|non=>cases r;rfl
|bl _=>cases r;rfl
|int _=>cases r;rfl
|str _=>cases r;rfl
|tup _=>obtain⟨_,_,rfl,_⟩:=r;rfl
|lst _=>obtain⟨_,_,rfl,_⟩:=r;rfl
|fro _=>obtain⟨_,_,rfl,_⟩:=r;rfl
|ref _=>obtain⟨_,_,rfl⟩:=r;rfl
|dic=>obtain⟨_,rfl,_⟩:=r;rfl
def oIs:OP:=λst p q=>match q with
|.non=>.ok (.bl (Qah p)) st
|.bl c=>match p with
  |.bl b=>.ok (.bl (b==c)) st
  |_=>.stuck
|_=>.stuck
def K0:OP:=λst p q=>match q with
|.non=>.ok (.bl (!Qah p)) st
|.bl c=>match p with
  |.bl b=>.ok (.bl (b !=c)) st
  |_=>.stuck
|_=>.stuck
def Qjt:OpS X E (aV .IsNot) K0:=⟨λH ρ st p q x y Q R z j h=>by
 unfold K0 at h
 split at h
 ·cases j;refine WO.of Qqi ⟨rfl,?_⟩;rw[Qgi z];exact now R h rfl
 ·split at h
  ·cases z;cases j;exact WO.of Q9s ⟨_,_,rfl,rfl,now R h rfl⟩
  ·exact h.elim
 ·exact h.elim⟩
def oIn(neg:Bool):OP:=λst p q=>match Wv st q with
|some xs=>if good dep (der st p)=zb/\xs.all (good dep)=zb then .ok (.bl ((xs.any λy=>peq y (der st p)) !=neg)) st else .stuck
|none=>.stuck
open Classical in
def Qaj{A:aO}{st:Q0}{xs:List PV}{its:List aA}(I:Inv X pins σ H s)(Y:A.units+dep<aS)(R:Rel H ρ st)(gp:good dep (der st p)=zb)(gx:xs.all (good dep)=zb)(rp:Rep H ρ p x)(rv:RelV x v)(ra:RepL H ρ xs vs)(Z:Vals vs its):∃e:aA->Bool,(∀u,u∈its.toArray->SeqAt.EqAt A s u v (e u))/\its.toArray.any e=xs.any λy=>peq y (der st p):=by
 have a2:∀u∈its,∃q∈xs,∃y,Rep H Tk.nil q y/\RelV y u:=λu Y=>by
  obtain⟨j,hj,rfl⟩:=L8 Y;have l1:=Z.length;have l2:=ra.length;obtain⟨y,e1,e2⟩:=(repL_nil gx ra).get (O2 (show j<xs.length by omega));obtain⟨w,S,e4⟩:=Z.get e1;rw[O2 hj]at S;cases S;exact⟨_,L5 _,y,e2,e4⟩
 refine⟨λu=>decide (∃q∈xs,∃y,Rep H Tk.nil q y/\RelV y u/\peq q (der st p)=zb),λu hm=>?_,?_⟩
 ·have a1:u∈its:=by simpa using hm
  by_cases z:∃q∈xs,∃y,Rep H Tk.nil q y/\RelV y u/\peq q (der st p)=zb
  ·show SeqAt.EqAt A s u v (decide _);rw[bY z];obtain⟨q,G,y,J,O,e⟩:=z;have:=(Qem dep I ((F4.mp gx) q G) gp Y J O (zt R gp rp) rv).1;rw[e]at this;exact this
  ·show SeqAt.EqAt A s u v (decide _);rw[bW z];obtain⟨q,G,y,J,O⟩:=a2 u a1;have:=(Qem dep I ((F4.mp gx) q G) gp Y J O (zt R gp rp) rv).1;cases e:peq q (der st p)with
   |true=>exact absurd ⟨q,G,y,J,O,e⟩ z
   |false=>rw[e]at this;exact this
 ·rw[cV,Array.any_eq_true,dF];constructor
  ·rintro ⟨j,hj,e⟩;obtain⟨q,G,y,J,O,e⟩:=of_decide_eq_true e;exact⟨q,G,e⟩
  ·rintro ⟨q,G,e⟩;obtain⟨j,hj,rfl⟩:=L8 G;have l1:=Z.length;have l2:=ra.length;have U:j<its.length:=by omega
   obtain⟨y,e1,e2⟩:=(repL_nil gx ra).get (O2 hj);obtain⟨w,S,e4⟩:=Z.get e1;refine⟨j,by simpa using U,bY ⟨_,G,y,e2,?_,e⟩⟩;rw[O2 U]at S;cases S;simpa using e4
def Qsz(Z:X.A.units+64<aS):OpS X E (aV .In) (oIn yo):=⟨λH ρ st p q x y Q R J Y h=>by
 unfold oIn at h
 split at h
 ·rename_i xs es
  split at h
  ·rename_i g;obtain⟨t,a,vs,rfl,U,O⟩:=Q0v (K:=X.K) R Y es;intro pins s σ v u I S ru;cases ru;rw[dy]at h;cases t with
   |true=>
    obtain⟨its,r,G,hz⟩:=I.tuple U;obtain⟨e,j,z⟩:=Qaj (A:=X.A.in1) I (by show X.A.units+1+dep<aS;unfold dep;omega) R g.1 g.2 J S O r;refine SeqAt.in_tupleAt e G j ⟨.bl _,H,I,rfl,?_⟩;rw[z];exact now R h rfl
   |false=>
    obtain⟨its,r,G,hz⟩:=I.list U;obtain⟨e,j,z⟩:=Qaj (A:=X.A.in1) I (by show X.A.units+1+dep<aS;unfold dep;omega) R g.1 g.2 J S O r;refine SeqAt.in_listAt e G.isList j ⟨.bl _,H,I,rfl,?_⟩;rw[z];exact now R h rfl
  ·exact h.elim
 ·exact h.elim⟩
variable{H:Hp}{ρ:Tk}
def RepL.atI(r:RepL H ρ ps vs)(e:atI ps i=zo p):∃v,L2.atI vs i=zo v/\Rep H ρ p v:=by
 unfold L2.atI at e ⊢;rw[<- r.length];cases q:ixN ps.length i with
|none=>rw[q]at e;cases e
|some j=>
  rw[q]at e;exact r.get e
def cut{α:Type}(xs:List α)(lo hi:Option Int):List α:=(xs.drop (HT.sIx xs.length 0 lo)).take (HT.sIx xs.length xs.length hi-HT.sIx xs.length 0 lo)
def RepL.cut(r:RepL H ρ ps vs)lo hi:RepL H ρ (Sm.cut ps lo hi) (Qau vs lo hi):=by
 unfold Sm.cut Qau;rw[<- r.length];exact(r.drop _).take _
section
variable{X:Cx}{E:XK}{pos:Pos}{a b:aH}{ma mb:ME}
def oIx:OP:=λst p q=>match Wv st p,q with
|some xs,.int i=>okO st (atI xs i)
|_,_=>.stuck
def Qdn(Z:SimE X E a ma)(hb:SimE X E b mb)(hs:Q2w b:=by exact λ_ _=>rfl):SimE X E (.Subscript a b pos) (mOp oIx ma mb):=
 ⟨λΓ σ H ρ st Q R G h=>WE.of (Qji Qku Jc Jc hs) (Z.use R G h.bind λp a3 H1 ρ1 v x1 R1 S U h1=>hb.use R1 S h1.bind λq a1 H2 a2 u x2 R2 G2 Y h2=>by
  unfold oIx at h2
  split at h2
  ·rename_i xs i e;cases Y;cases j:atI xs i with
   |none=>rw[j]at h2;exact h2.elim
   |some w=>
    rw[j]at h2;obtain⟨t,b,vs,rfl,O,ra⟩:=Q0v (K:=X.K) R2 (U.ext x2) e;obtain⟨z,J,I⟩:=ra.atI j;cases t with
    |true=>exact .inr (.inl ⟨b,vs,i,z,rfl,rfl,O,J,now R2 h2 I⟩)
    |false=>exact .inl ⟨b,vs,i,z,rfl,rfl,O,J,now R2 h2 I⟩
  ·exact h2.elim)⟩
structure SimO(X:Cx)(E:XK)(o:Option aH)(m:Gam->Q0->Res (Option Int)):Prop where
run:∀(Γ:Gam)(σ:St)(H:Hp)(ρ:Tk)(st:Q0)(P:Option Int->Q0->Hp->Tk->Prop)(Q:Option Int->Hp->Prop),Rel H ρ st->EnvR H ρ Γ σ->Acc X.mg E H ρ P (m Γ st)->
 (∀i st1 H1 ρ1,Ext H ρ H1 ρ1->Rel H1 ρ1 st1->EnvR H1 ρ1 Γ σ->P i st1 H1 ρ1->Q i H1)->∃t,PO X o t/\t σ H Q
def zg:Gam->Q0->Res (Option Int):=λ_ st=>.ok zl st
def Q1u(m:ME):Gam->Q0->Res (Option Int):=λΓ st=>(m Γ st).bind λp st1=>match p with
|.int i=>.ok (zo i) st1
|_=>.stuck
def Qp5:SimO X E zl zg:=⟨λΓ σ H ρ st P Q R G h k=>⟨_,Qq2,k zl st H ρ (Ext.refl _ _) R G (h H ρ (Ext.refl _ _) R)⟩⟩
def Qp4(J:SimE X E a ma):SimO X E (zo a) (Q1u ma):=⟨λΓ σ H ρ st P Q R G h k=>⟨_,Qq1 Jc,J.use R G h.bind λp j H1 ρ1 v x1 q z I h1=>by
 cases p with
|int i=>exact⟨i,I,k (zo i) j H1 ρ1 x1 q z (h1 H1 ρ1 (Ext.refl _ _) q)⟩
|_=>exact h1.elim⟩⟩
def oSl(st:Q0)(p:PV)(lo hi:Option Int):Res PV:=match p with
|.tup xs=>.ok (.tup (cut xs lo hi)) st
|p=>match V2 st p with
  |some xs=>.ok (.lst (cut xs lo hi)) st
  |none=>.stuck
def mSl(ma:ME)(ml mh:Gam->Q0->Res (Option Int)):ME:=λΓ st=>(ma Γ st).bind λp st1=>(ml Γ st1).bind λlo st2=>(mh Γ st2).bind λhi st3=>oSl st3 p lo hi
def TO.w(X:Cx)(o:Option aH):TO:=λσ H Q=>∃t,PO X o t/\t σ H Q
def Qy8:PO X o (TO.w X o):=λpins s σ H Q I ⟨t,h,q⟩=>h pins s σ H Q I q
def Qi8{lo:Option aH}(q:SimE X E a ma)(hl:SimO X E lo Y)(hh:SimO X E hi Z):SimE X E (.Subscript a (.Slice lo hi zl p2) pos) (mSl ma Y Z):=
 ⟨λΓ σ H ρ st Q R G h=>WE.of (Qjg (sl_tup.or (sl_whole.or Qp8)) Jc Qy8 Qy8) (q.use R G h.bind λp U H1 ρ1 v x1 R1 G1 r1 h1=>by
  refine hl.run Γ σ H1 ρ1 U _ _ R1 G1 h1.bind λl O H2 S x2 R2 G2 h2=>?_
  refine hh.run Γ σ H2 S O _ _ R2 G2 h2.bind λu a2 H3 a1 x3 I G3 j=>?_
  have r3:=r1.ext (x2.trans x3);unfold oSl at j
  split at j
  ·rename_i xs;obtain⟨a,vs,rfl,q,na,z⟩:=r3
   by_cases J:HT.sIx vs.length 0 l=0/\HT.sIx vs.length vs.length u=vs.length
   ·refine .inr (.inl ⟨a,vs,rfl,SqT.of q,J,?_⟩);have e:cut xs l u=xs:=by
     unfold cut;rw[z.length,J.1,J.2,eZ,jQ,<- z.length,dq]
    rw[e]at j;exact now I j ⟨a,vs,rfl,q,na,z⟩
   ·exact .inl ⟨a,vs,rfl,SqT.of q,J,Q07 I j (z.cut l u)⟩
  ·split at j
   ·rename_i xs e;obtain⟨a,vs,rfl,q,z⟩:=Zv I r3 e;exact .inr (.inr ⟨a,vs,rfl,.inl q,ze I j (z.cut l u)⟩)
   ·exact j.elim)⟩
variable{es:List aH}{e:aH}{mr:Gam->Q0->Res (List PV)}
def Qx(o:CF)(mr:Gam->Q0->Res (List PV)):ME:=λΓ st=>(mr Γ st).bind λps st1=>o st1 ps
def CallS.use{o:CF}(s:CallS X E f o){P:PV->Q0->Hp->Tk->Prop}{Q:VK}{st:Q0}(R:Rel H ρ st)(G:RepL H ρ ps xs)(h:Acc X.mg E H ρ P (o st ps))(k:∀p j H1 ρ1 v,Ext H ρ H1 ρ1->Rel H1 ρ1 j->Rep H1 ρ1 p v->P p j H1 ρ1->Q v H1):WC X f xs H Q:=by
 refine s.run H ρ st ps xs Q R G ?_;cases r:o st ps with
|ok p j=>rw[r]at h;exact λH' ρ' q z v I=>k p j H' ρ' v q z I (h H' ρ' q z)
|exc e st=>rw[r]at h;exact h
|stuck=>rw[r]at h;exact h
def Qib{id:String}(O:CallS X E (.builtin id) o)(J:Gl X x)(hm:X.mg x=zl)(S:aX x=zo (.builtin id))(Z:SimA X E (e::es) mr)(hn:x≠"__name__":=by decide)(j:(x==("__debug__":Str))=yo)(Y:aN (e::es) X.env=(yo,aM e X.env)::aN es X.env)(z:(aY pos (aN es X.env)).any (·.1)=yo):SimE X E (.Call (.Name x p) (e::es) [] pos) (Qx o mr):=
 ⟨λΓ σ H ρ st Q R G h=>WE.of (Jd Qmx J hm S Q3s hn j Y z) (Z.use R G h.bind λps a1 H1 ρ1 vs x1 I G1 U h1=>O.use I U h1 λ_ _ _ _ v _ _ r q=>q v r)⟩
def Kh(O:CallS X E (.type T) o)(J:Gl X x)(hm:X.mg x=zl)(S:aX x=zo (.type T))(Z:SimA X E (e::es) mr)(hn:x≠"__name__":=by decide)(j:(x==("__debug__":Str))=yo:=by decide)(Y:aN (e::es) X.env=(yo,aM e X.env)::aN es X.env:=by rfl)(z:(aY pos (aN es X.env)).any (·.1)=yo:=by rfl):SimE X E (.Call (.Name x p) (e::es) [] pos) (Qx o mr):=
 ⟨λΓ σ H ρ st Q R G h=>WE.of (zc Qmx J hm S Q3s hn j Y z) (Z.use R G h.bind λps a1 H1 ρ1 vs x1 I G1 U h1=>O.use I U h1 λ_ _ _ _ v _ _ r q=>q v r)⟩
def Zc(r:RepL H ρ [p] xs):∃v,xs=[v]/\Rep H ρ p v:=by
 obtain⟨v,t,rfl,h1,h2⟩:=r;cases h2;exact⟨v,rfl,h1⟩
def Qik(r:RepL H ρ [p,q] xs):∃v u,xs=[v,u]/\Rep H ρ p v/\Rep H ρ q u:=by
 obtain⟨v,t,rfl,h1,h2⟩:=r;obtain⟨u,rfl,j⟩:=Zc h2;exact⟨v,u,rfl,h1,j⟩
def Yc:CF:=λst ps=>match ps with
|[p]=>match Wv st p with
  |some xs=>.ok (.int xs.length) st
  |none=>match p with
   |.str x=>if x.length<=lim then .ok (.int x.length) st else .stuck
   |_=>.stuck
|_=>.stuck
def Qw8:CallS X E (.builtin "len") Yc:=⟨λH ρ st ps xs Q R q h=>by
 unfold Yc at h
 split at h
 ·rename_i p;obtain⟨v,rfl,r⟩:=Zc q
  split at h
  ·rename_i ys e;obtain⟨t,a,vs,rfl,j,z⟩:=Q0v (K:=X.K) R r e;rw[z.length]at h;exact WC.of Q8j ⟨a,vs,rfl,Qhw j,now R h rfl⟩
  ·split at h
   ·cases r
    split at h
    ·rename_i G;exact WC.of Q8i ⟨_,rfl,Yi G,now R h rfl⟩
    ·exact h.elim
   ·exact h.elim
 ·exact h.elim⟩
def yk(g:List Int->Option PV):CF:=λst ps=>match ps with
|[p]=>match (Wv st p).bind K4 with
  |some ns=>okO st (g ns)
  |none=>.stuck
|_=>.stuck
def jw(g:List Bool->PV):CF:=λst ps=>match ps with
|[p]=>match (Wv st p).bind Q0s with
  |some ns=>.ok (g ns) st
  |none=>.stuck
|_=>.stuck
def Qkw{K:bZ}{st:Q0}{ns:List Int}(R:Rel H ρ st)(r:Rep H ρ p v)(e:(Wv st p).bind K4=zo ns):∃(t:Bool)(a:aB),v=.ref a/\SqK K t H a (ns.map V.int):=by
 cases q:Wv st p with
|none=>rw[q]at e;cases e
|some xs=>
  rw[q]at e;obtain⟨t,a,vs,rfl,j,z⟩:=Q0v (K:=K) R r q;rw[Q2q e]at z;rw[z.toInts]at j;exact⟨t,a,rfl,j⟩
def Qs9{K:bZ}{st:Q0}{ns:List Bool}(R:Rel H ρ st)(r:Rep H ρ p v)(e:(Wv st p).bind Q0s=zo ns):∃(t:Bool)(a:aB),v=.ref a/\SqK K t H a (ns.map V.bl):=by
 cases q:Wv st p with
|none=>rw[q]at e;cases e
|some xs=>
  rw[q]at e;obtain⟨t,a,vs,rfl,j,z⟩:=Q0v (K:=K) R r q;rw[Qn8 e]at z;rw[z.toBls]at j;exact⟨t,a,rfl,j⟩
def Qw9(j:X.calm=zb):CallS X E (.builtin "all") (jw λns=>.bl (ns.all id)):=⟨λH ρ st ps xs Q R q h=>by
 unfold jw at h
 split at h
 ·obtain⟨v,rfl,r⟩:=Zc q
  split at h
  ·rename_i ns e;obtain⟨t,a,rfl,z⟩:=Qs9 (K:=X.K) R r e;exact WC.of (Qmy t j) ⟨a,ns,rfl,z,now R h rfl⟩
  ·exact h.elim
 ·exact h.elim⟩
def J21:List Int->Option Int
|[]=>zl
|n::ns=>zo (ns.foldl (λa b=>if b>a then b else a) n)
def Qv8:List Int->Option Int
|[]=>zl
|n::ns=>zo (ns.foldl (λa b=>if b<a then b else a) n)
def Q1k:∀(ns:List Int)n,(ns.foldl (λa b=>if b<a then b else a) n=n\/ns.foldl (λa b=>if b<a then b else a) n∈ns)/\ns.foldl (λa b=>if b<a then b else a) n<=n/\∀k∈ns,ns.foldl (λa b=>if b<a then b else a) n<=k
|[],n=>⟨.inl rfl,jR _,λk h=>by cases h⟩
|m::ns,n=>by
  obtain⟨h1,h2,q⟩:=Q1k ns (if m<n then m else n);rw[F8];refine⟨?_,?_,λk j=>?_⟩
  ·rcases h1 with e|e
   ·by_cases hm:m<n
    ·rw[bU hm]at e ⊢;exact .inr (by rw[e];exact E7)
    ·rw[bV hm]at e ⊢;exact .inl e
   ·exact .inr (O3 _ e)
  ·by_cases hm:m<n
   ·rw[bU hm]at h2 ⊢;omega
   ·rw[bV hm]at h2 ⊢;exact h2
  ·rcases D7.mp j with rfl|j
   ·by_cases hm:k<n
    ·rw[bU hm]at h2 ⊢;exact h2
    ·rw[bV hm]at h2 ⊢;omega
   ·exact q k j
def J2b:CF:=λst ps=>match ps with
|[.int a,.int b]=>.ok (.int (if b>a then b else a)) st
|ps=>yk (λns=>(J21 ns).map .int) st ps
def Qh3:CF:=λst ps=>match ps with
|[.int a,.int b]=>.ok (.int (if b<a then b else a)) st
|ps=>yk (λns=>(Qv8 ns).map .int) st ps
def Qw7(j:X.calm=zb):CallS X E (.builtin "min") Qh3:=⟨λH ρ st ps xs Q R q h=>by
 unfold Qh3 at h
 split at h
 ·obtain⟨v,u,rfl,I,G⟩:=Qik q;cases I;cases G;exact WC.of (Qh1 j) ⟨_,_,rfl,now R h rfl⟩
 ·unfold yk at h
  split at h
  ·obtain⟨v,rfl,r⟩:=Zc q
   split at h
   ·rename_i ns e;cases ns with
    |nil=>exact h.elim
    |cons n ns=>
     obtain⟨t,a,rfl,S⟩:=Qkw (K:=X.K) R r e;refine WC.of (Qh0 t j) ⟨a,_,rfl,S,by simp,λm hm z=>?_⟩;have J:m=ns.foldl (λa b=>if b<a then b else a) n:=by
      obtain⟨h1,h2,O⟩:=Q1k ns n;have U:m<=ns.foldl (λa b=>if b<a then b else a) n:=by
       rcases h1 with e|e
       ·rw[e];exact z _ E7
       ·exact z _ (O3 _ e)
      have g2:ns.foldl (λa b=>if b<a then b else a) n<=m:=by
       rcases D7.mp hm with rfl|hm
       ·exact h2
       ·exact O m hm
      omega
     subst J;exact now R h rfl
   ·exact h.elim
  ·exact h.elim⟩
def Wh:CF:=λst ps=>match ps with
|[p]=>match Wv st p with
  |some xs=>.ok (.tup xs) st
  |none=>.stuck
|_=>.stuck
def Q4u:CallS X E (.type "tuple") Wh:=⟨λH ρ st ps xs Q R z h=>by
 unfold Wh at h
 split at h
 ·rename_i p;obtain⟨v,rfl,r⟩:=Zc z
  split at h
  ·rename_i ys e;cases p with
   |tup zs=>
    cases e;obtain⟨a,vs,rfl,j,G,q⟩:=r;exact WC.of yj ⟨a,vs,rfl,.inr ⟨SqT.of j,now R h ⟨a,vs,rfl,j,G,q⟩⟩⟩
   |_=>
    obtain⟨a,vs,rfl,j,q⟩:=Zv R r e;exact WC.of yj ⟨a,vs,rfl,.inl ⟨.inl j,Q07 R h q⟩⟩
  ·exact h.elim
 ·exact h.elim⟩
def tyN:PV->String
|.non=>"NoneType"
|.bl _=>"bool"
|.int _=>"int"
|.str _=>"str"
|.tup _=>"tuple"
|.lst _=>"list"
|.fro _=>"list"
|.ref _=>"list"
|.dic=>"dict"
def dpv(st:Q0):PV->PV
|.ref i=>match st[i]? with
  |some (.dic _)=>.dic
  |some (.dtp _)=>.dic
  |_=>.ref i
|p=>p
def isI(T:String)(p:PV):Bool:=tyN p==T||(T=="int"&&tyN p=="bool")
def Xc(st:Q0):PV->Bool
|.ref i=>match st[i]? with
  |some (.frd _)=>zb
  |some (.frt _)=>zb
  |some (.obj _ _)=>zb
  |_=>yo
|_=>yo
def Qxc{K:bZ}{st:Q0}(z:Xc st p=yo)(R:Rel H ρ st)(r:Rep H ρ p v):TyOf K H v (.type (tyN (dpv st p))):=by
 cases p with
|non=>cases r;exact .non
|bl b=>cases r;exact .bl b
|int i=>cases r;exact .int i
|str x=>cases r;exact .str x
|tup ps=>obtain⟨a,vs,rfl,h,_⟩:=r;exact .tup h
|lst ps=>obtain⟨a,vs,rfl,h,_⟩:=r;exact .lst h
|fro ps=>
  obtain⟨a,vs,rfl,h,_⟩:=r;rcases h with h|⟨o,h⟩
  ·exact .lst h
  ·exact .frz h
|ref i=>
  obtain⟨a,e,rfl⟩:=r;have G:i<st.length:=by rw[<- R.len];exact(O0.mp e).1
  have hs:=O2 G;have q:=R.cell i a st[i] e hs;cases j:st[i]with
  |lst xs=>rw[j]at q hs;simp only[dpv,hs];obtain⟨vs,h,_⟩:=q;exact .lst h
  |dic xs=>rw[j]at q hs;simp only[dpv,hs];obtain⟨vs,h,_⟩:=q;exact .dK h
  |dtp xs=>rw[j]at q hs;simp only[dpv,hs];obtain⟨vs,h,_⟩:=q;exact .dT h
  |frd xs=>rw[j]at hs;simp only[Xc,hs]at z;cases z
  |frt xs=>rw[j]at hs;simp only[Xc,hs]at z;cases z
  |obj C xs=>rw[j]at hs;simp only[Xc,hs]at z;cases z
|dic=>obtain⟨a,rfl,h,_⟩:=r;exact .dK h
def Q4g:List String:=["int","bool","str","tuple","list","dict"]
def Qvn K(j:T∈Q4g)p:br K (.type (tyN p)) (.type T)=zo (isI T p):=by
 have j:T="int"\/T="bool"\/T="str"\/T="tuple"\/T="list"\/T="dict":=by simpa[Q4g]using j
 rcases j with rfl|rfl|rfl|rfl|rfl|rfl<;>cases p<;>first|rfl|kernel_rfl
def jj(T:String)(m:ME):ME:=λΓ st=>(m Γ st).bind λp st1=>if Xc st1 p=zb then .stuck else .ok (.bl (isI T (dpv st1 p))) st1
def Qtx(hT:T∈Q4g)(ha:SimE X E a ma)(hg:Gl X "isinstance")(hm:X.mg "isinstance"=zl)(S:Gl X j)(J:X.mg j=zl)(I:aX j=zo (.type T))(hn:j≠"__name__":=by decide)(hd:(j==("__debug__":Str))=yo)(he:aN [a,.Name j tp] X.env=(yo,aM a X.env)::aN [.Name j tp] X.env)(O:aN [.Name j tp] X.env=(yo,aM (.Name j tp) X.env)::aN [] X.env)(U:(aY pos (aN [.Name j tp] X.env)).any (·.1)=yo):
  SimE X E (.Call (.Name "isinstance" p) [a,.Name j tp] [] pos) (jj T ma):=
 ⟨λΓ σ H ρ st Q R G h=>WE.of (Jd Qb1 hg hm Qm (Qk Jc (Qk (Qdw S J I (v:=.ty T) rfl hn hd) Jb O) he) (by decide) (by decide) he U)
  (ha.use R G h.bind λq z H1 ρ1 v x1 Z G1 r1 h1=>by
   by_cases Y:Xc z q=zb
   ·rw[bU Y]at h1;exact h1.elim
   ·rw[bV Y]at h1;exact⟨v,.ty T,.type T,_,_,rfl,rfl,Qxc (by simpa using Y) Z r1,Qvn X.K hT (dpv z q),now Z h1 rfl⟩)⟩
end
abbrev GA:=PV->Gam->Option Gam
abbrev GAs:=List PV->Gam->Option Gam
structure SimG(X:Cx)(tg:aH)(ga:GA):Prop where
run:∀(Γ Γ':Gam)(σ:St)(H:Hp)(ρ:Tk)(p:PV)(v:V)(Q:St->Hp->Prop),EnvR H ρ Γ σ->Rep H ρ p v->ga p Γ=zo Γ'->(∀σ',EnvR H ρ Γ' σ'->Q σ' H)->∃t,PG X tg t/\t v σ H Q
structure SimGs(X:Cx)(tgs:List aH)(n:Nat)(ga:GAs):Prop where
run:∀(Γ Γ':Gam)(σ:St)(H:Hp)(ρ:Tk)(ps:List PV)(vs:List V)(Q:St->Hp->Prop),EnvR H ρ Γ σ->RepL H ρ ps vs->ga ps Γ=zo Γ'->(∀σ',EnvR H ρ Γ' σ'->Q σ' H)->∃t,PGs X tgs t/\t vs σ H Q
len:∀ps Γ Γ',ga ps Γ=zo Γ'->ps.length=n
def Qb(i:Nat):GA:=λp Γ=>zo (Γ.set i (zo p))
def Q4p:GAs:=λps Γ=>match ps with
|[]=>zo Γ
|_=>zl
def Vt(g:GA)(gs:GAs):GAs:=λps Γ=>match ps with
|p::r=>(g p Γ).bind (gs r)
|[]=>zl
def Q4n(gs:GAs):GA:=λp Γ=>match p with
|.tup ps=>gs ps Γ
|_=>zl
def W7(I:X.N.Nodup)(hi:X.N[i]?=zo x:=by rfl)(z:Loc X.env.scope x:=by first|exact .inl rfl|exact .inr rfl)(q:X.fn x=zb\/X.env.scope.names.lookup x=zo .local:=by first|exact .inl rfl|exact .inr rfl):SimG X (.Name x pos) (Qb i):=
 ⟨λΓ j σ H ρ p v Q G r e k=>⟨_,Qq8 I hi z q,by cases e;exact k _ (G.set r i)⟩⟩
def Qdm:SimGs X [] 0 Q4p:=⟨λΓ j σ H ρ ps vs Q G r e k=>⟨_,Qq6,by
 cases ps with
|nil=>cases e;cases r;exact⟨rfl,k σ G⟩
|cons _ _=>cases e⟩,λps Γ j e=>by
 cases ps with
|nil=>rfl
|cons _ _=>cases e⟩
def WGx(X:Cx)(tg:aH):TG:=λv σ H Q=>∃t,PG X tg t/\t v σ H Q
def Qq7:PG X tg (WGx X tg):=λpins s σ H v u Q I r ⟨t,h,q⟩=>h pins s σ H v u Q I r q
def J2e(X:Cx)(tgs:List aH):TGs:=λv σ H Q=>∃t,PGs X tgs t/\t v σ H Q
def Qsx:PGs X j (J2e X j):=λpins s σ H v u Q I r ⟨t,h,q⟩=>h pins s σ H v u Q I r q
def qy(h1:SimG X e g)(h2:SimGs X es n gs)(hs:(az (e::es) X.env).map (·.2)=assign e X.env::(az es X.env).map (·.2):=by rfl):SimGs X (e::es) (n+1) (Vt g gs):=
 ⟨λΓ j σ H ρ ps vs Q G r eq k=>⟨_,Qjd Qq7 Qsx hs,by
  cases ps with
  |nil=>cases eq
  |cons p ps=>
   obtain⟨v,t,rfl,S,J⟩:=r;have eq:(g p Γ).bind (gs ps)=zo j:=eq;cases z:g p Γ with
   |none=>rw[z]at eq;cases eq
   |some q=>
    rw[z]at eq;exact⟨v,t,rfl,h1.run Γ q σ H ρ p v _ G S z λI O=>h2.run q j I H ρ ps t _ O J eq k⟩⟩,λps Γ j e=>by
  cases ps with
  |nil=>cases e
  |cons p ps=>
   have e:(g p Γ).bind (gs ps)=zo j:=e;cases z:g p Γ with
   |none=>rw[z]at e;cases e
   |some q=>rw[z]at e;rw[D6,h2.len ps q j e]⟩
def Qi2(J:X.calm=zb)(h:SimGs X es n gs)(O:(az es X.env).length=n:=by rfl)(z:(az es X.env).findIdx? (·.1)=zl:=by rfl):SimG X (.Tuple es k pos) (Q4n gs):=
 ⟨λΓ j σ H ρ p v Q G r e q=>⟨_,Qud J Qsx O z,by
  cases p with
  |tup ps=>
   obtain⟨a,vs,rfl,S,U,I⟩:=r;exact⟨a,vs,rfl,SqT.of S,by rw[<- I.length];exact h.len ps Γ j e,h.run Γ j σ H ρ ps vs Q G I e q⟩
  |_=>cases e⟩⟩
abbrev Wt:=List (Nat×Cell)
def wOk(w:Wt)(st:Q0):Prop:=∀x∈w,st[x.1]?=zo x.2
def Qr st:wOk [] st:=λx h=>by cases h
structure Src(J:It)(items:List PV)(w:Wt)(H:Hp)(ρ:Tk):Prop where
stop:∀H2 ρ2 st2,Ext H ρ H2 ρ2->Rel H2 ρ2 st2->wOk w st2->J.stop items.length H2
go:∀H2 ρ2 st2,Ext H ρ H2 ρ2->Rel H2 ρ2 st2->wOk w st2->∀i,i<items.length->J.go i H2
yld:∀H2 ρ2 st2,Ext H ρ H2 ρ2->Rel H2 ρ2 st2->wOk w st2->∀i p,items[i]?=zo p->∀x H3,J.yld i H2 x H3->Same H2 H3/\Rep H3 ρ2 p x
abbrev MI:=Gam->Q0->Res (List PV×Wt)
structure SimI(X:Cx)(E:XK)(tg iter:aH)(mi:MI):Prop where
run:∀(Γ:Gam)(σ:St)(H:Hp)(ρ:Tk)(st:Q0)(P:List PV×Wt->Q0->Hp->Tk->Prop)(R':It->Hp->Prop),Rel H ρ st->EnvR H ρ Γ σ->Acc X.mg E H ρ P (mi Γ st)->
 (∀iw st1 H1 ρ1 J,mi Γ st=.ok iw st1->Ext H ρ H1 ρ1->Rel H1 ρ1 st1->EnvR H1 ρ1 Γ σ->wOk iw.2 st1->iw.1.length<=sizeLine->Src J iw.1 iw.2 H1 ρ1->P iw st1 H1 ρ1->R' J H1)->WI X tg iter σ H R'
def Ve(st:Q0):PV->Option (List PV×Wt)
|.tup xs=>zo (xs,[])
|.lst xs=>zo (xs,[])
|.fro xs=>zo (xs,[])
|.ref i=>match st[i]? with
  |some (.lst xs)=>zo (xs,[(i,.lst xs)])
  |_=>zl
|_=>zl
def Qbj{K:bZ}{st:Q0}(R:Rel H ρ st)(r:Rep H ρ p v)(e:Ve st p=zo (xs,w)):
  wOk w st/\∃(t:Bool)(a:aB),v=.ref a/\(t=zb->∃ys,p=.tup ys)/\(t=yo->∀ys,p≠.tup ys)/\∀H2 j q,Ext H ρ H2 j->Rel H2 j q->wOk w q->∃vs,SqK K t H2 a vs/\RepL H2 j xs vs:=by
 cases p with
|tup ys=>
  obtain⟨a,vs,rfl,G,I,J⟩:=r;cases e;exact⟨Qr _,zb,a,rfl,λ_=>⟨_,rfl⟩,(λz=>by cases z),λH2 j q x R2 _=>⟨vs,show SqT K H2 a vs from SqT.of (x.kp G I),J.ext x⟩⟩
|lst ys=>
  obtain⟨a,vs,rfl,G,I,J⟩:=r;cases e;exact⟨Qr _,yo,a,rfl,(λz=>by cases z),(λ_ _ z=>by cases z),λH2 j q x R2 _=>⟨vs,show SqL K H2 a vs from SqL.of (x.kp G I),J.ext x⟩⟩
|fro ys=>
  obtain⟨a,vs,rfl,G,I,J⟩:=r;cases e;refine⟨Qr _,yo,a,rfl,(λz=>by cases z),(λ_ _ z=>by cases z),λH2 j q x R2 _=>⟨vs,show SqL K H2 a vs from ?_,J.ext x⟩⟩
  rcases G with G|⟨o,G⟩
  ·exact .inl (.inl (x.kp G I))
  ·exact .inl (.inr ⟨o,x.kp G I⟩)
|ref i=>
  obtain⟨a,U,rfl⟩:=r;simp only[Ve]at e
  split at e
  ·rename_i ys hs;cases e;refine⟨λx Z=>?_,yo,a,rfl,(λz=>by cases z),(λ_ _ z=>by cases z),λH2 j q x R2 ok=>?_⟩
   ·have:x=(i,.lst xs):=by simpa using Z
    subst this;exact hs
   ·have O:=ok (i,.lst xs) (by simp);obtain⟨b,vs,S,f2,Y⟩:=R2.lst O;obtain⟨t,et⟩:=x.pre;rw[<- et,O7 (O0.mp U).1,U]at S;cases S;exact⟨vs,show SqL K H2 a vs from SqL.of f2,Y⟩
  ·cases e
|_=>cases e
section
variable{X:Cx}{E:XK}{pos:Pos}{tg:aH}{e:aH}{m:ME}
def W1(m:ME):MI:=λΓ st=>(m Γ st).bind λp st1=>match Ve st1 p with
|some (xs,w)=>if xs.length<=lim then .ok (xs,w) st1 else .stuck
|none=>.stuck
def RepL.i{H:Hp}{ρ:Tk}{ps:List PV}{vs:List V}{i:Nat}{p:PV}{x:V}(r:RepL H ρ ps vs)(h:ps[i]?=zo p)(h':vs[i]?=zo x):Rep H ρ p x:=by
 obtain⟨v,e,q⟩:=r.get h;rw[h']at e;cases e;exact q
def Qdj{K:bZ}{H:Hp}{ρ:Tk}{t:Bool}{a:aB}{xs:List PV}{w:Wt}(h:∀H2 j q,Ext H ρ H2 j->Rel H2 j q->wOk w q->∃vs,SqK K t H2 a vs/\RepL H2 j xs vs):Src (if t=zb then Itt K a else Itl K a) xs w H ρ:=by
 cases t with
|true=>
  rw[bU rfl];refine⟨λH2 j q x R ok=>?_,λH2 j q x R ok i hi=>?_,λH2 j q x R ok i p J y O G=>?_⟩
  ·obtain⟨vs,s,r⟩:=h H2 j q x R ok;exact⟨vs,s,by rw[r.length];exact O6 _⟩
  ·obtain⟨vs,s,r⟩:=h H2 j q x R ok;have z:i<vs.length:=by rw[<- r.length];exact hi
   exact⟨vs,vs[i],s,O2 z⟩
  ·obtain⟨vs,s,r⟩:=h H2 j q x R ok;obtain⟨rfl,I⟩:=G;exact⟨Same.refl _,r.i J (I vs s)⟩
|false=>
  rw[bV O9];refine⟨λH2 j q x R ok=>?_,λH2 j q x R ok i hi=>?_,λH2 j q x R ok i p J y O G=>?_⟩
  ·obtain⟨vs,s,r⟩:=h H2 j q x R ok;exact⟨vs,s,by rw[r.length];exact O6 _⟩
  ·obtain⟨vs,s,r⟩:=h H2 j q x R ok;have z:i<vs.length:=by rw[<- r.length];exact hi
   exact⟨vs,vs[i],s,O2 z⟩
  ·obtain⟨vs,s,r⟩:=h H2 j q x R ok;obtain⟨rfl,I⟩:=G;exact⟨Same.refl _,r.i J (I vs s)⟩
def Qe4{st:Q0}{P:List PV×Wt->Q0->Hp->Tk->Prop}(R:Rel H ρ st)(h:Acc mg E H ρ P (match Ve st p with|some (xs,w)=>if xs.length<=lim then .ok (xs,w) st else .stuck|none=>.stuck)):
  ∃xs w,Ve st p=zo (xs,w)/\xs.length<=lim/\P (xs,w) st H ρ:=by
 split at h
 ·rename_i xs w e
  split at h
  ·rename_i j;exact⟨xs,w,e,j,h H ρ (Ext.refl _ _) R⟩
  ·exact h.elim
 ·exact h.elim
def Qi0(ha:SimE X E e m):SimI X E tg e (W1 m):=⟨λΓ σ H ρ st P R' R G h k=>by
 have Z:Acc X.mg E H ρ _ (m Γ st):=Acc.bind h
 by_cases Y:∃ys j,m Γ st=.ok (.tup ys) j
 ·obtain⟨ys,a1,U⟩:=Y;refine WI.of (Qub Jc) (ha.use' R G Z λp j H1 ρ1 v eq x1 q J O h1=>?_);obtain⟨xs,w,e,z,S⟩:=Qe4 q h1;obtain⟨ok,t,a,rfl,t1,t2,I⟩:=Qbj (K:=X.K) q O e;have ep:p=.tup ys:=by rw[eq]at U;injection U
  cases t with
  |false=>exact absurd ep (t2 rfl ys)
  |true=>
   obtain⟨vs,s,_⟩:=I H1 ρ1 j (Ext.refl _ _) q ok;exact⟨a,rfl,⟨vs,s⟩,k (xs,w) j H1 ρ1 _ (by simp only[W1,eq,Res.bind,e,bU z]) x1 q J ok (Yi z) (Qdj I) S⟩
 ·refine WI.of (Qq4 Jc) (ha.use' R G Z λp j H1 ρ1 v eq x1 q J O h1=>?_);obtain⟨xs,w,e,z,S⟩:=Qe4 q h1;obtain⟨ok,t,a,rfl,t1,t2,I⟩:=Qbj (K:=X.K) q O e;cases t with
  |true=>
   obtain⟨ys,rfl⟩:=t1 rfl;exact absurd ⟨ys,j,eq⟩ Y
  |false=>
   obtain⟨vs,s,_⟩:=I H1 ρ1 j (Ext.refl _ _) q ok;exact⟨a,rfl,⟨vs,s⟩,k (xs,w) j H1 ρ1 _ (by simp only[W1,eq,Res.bind,e,bU z]) x1 q J ok (Yi z) (Qdj I) S⟩⟩
def Vq(lo:Int)(n:Nat):List PV:=(ba n).map λ(k:Nat)=>PV.int (lo+(k:Int))
def Qfb{lo:Int}:Src (Itr lo n) (Vq lo n) [] H ρ:=by
 have I:(Vq lo n).length=n:=by unfold Vq;rw[O1,F9]
 refine⟨λH2 j q x R ok=>?_,λH2 j q x R ok i hi=>?_,λH2 j q x R ok i p z y J G=>?_⟩
 ·show n<=(Vq lo n).length;omega
 ·show i<n;omega
 ·obtain⟨rfl,rfl⟩:=G;have hi:i<n:=by rw[<- I];exact(O0.mp z).1
  unfold Vq at z;rw[D8,gH hi]at z;cases z;exact⟨Same.refl _,rfl⟩
def Zm(mr:Gam->Q0->Res (List PV)):MI:=λΓ st=>(mr Γ st).bind λps st1=>match ps with
|[.int j]=>if -(lim:Int)<=j/\j<=lim then .ok (Vq 0 j.toNat,[]) st1 else .stuck
|_=>.stuck
variable{a b:aH}{mr:Gam->Q0->Res (List PV)}{p:Pos}
def Qbs lo n:(Vq lo n).length=n:=by unfold Vq;rw[O1,F9]
def Vj(I:Gl X "range")(hm:X.mg "range"=zl)(S:SimA X E [a] mr)(hs:aN [a] X.env=[(yo,aM a X.env)]:=by rfl):SimI X E tg (.Call (.Name "range" p) [a] [] pos) (Zm mr):=⟨λΓ σ H ρ st P R' R G h k=>by
 refine WI.of (Qft I hm Q3s hs) (S.use' R G h.bind λps q H1 ρ1 vs eq x1 z J O h1=>?_)
 split at h1
 ·rename_i j
  split at h1
  ·rename_i Y;obtain⟨v,rfl,U⟩:=Zc O;cases U;have Z:(lim:Int)=1000000:=rfl;refine⟨j,rfl,by omega,by omega,k (Vq 0 j.toNat,[]) q H1 ρ1 _ (by simp only[Zm,eq,Res.bind,bU Y]) x1 z J (Qr _) ?_ Qfb (h1 H1 ρ1 (Ext.refl _ _) z)⟩;show(Vq 0 j.toNat).length<=sizeLine;rw[Qbs];exact Yi ()
  ·exact h1.elim
 ·exact h1.elim⟩
def Us:Nat->List PV->List PV
|_,[]=>[]
|n,x::xs=>.tup [.int n,x]::Us (n+1) xs
def zr:∀n(xs:List PV),(Us n xs).length=xs.length
|_,[]=>rfl
|n,x::xs=>by rw[Us,D6,zr (n+1) xs,D6]
def Q6h:∀{n:Nat}{xs:List PV}{i:Nat}{p:PV},(Us n xs)[i]?=zo p->∃x,p=.tup [.int (n+i:Nat),x]/\xs[i]?=zo x
|n,[],i,p,h=>by simp[Us]at h
|n,x::xs,0,p,h=>by
  simp[Us]at h;exact⟨x,h.symm,rfl⟩
|n,x::xs,i+1,p,h=>by
  rw[Us,eX]at h;obtain⟨y,q,j⟩:=Q6h h;exact⟨y,by rw[q,show n+1+i=n+(i+1) by omega],by simpa using j⟩
def Qa9(mr:Gam->Q0->Res (List PV)):MI:=λΓ st=>(mr Γ st).bind λps st1=>match ps with
|[p]=>match Ve st1 p with
  |some (xs,w)=>if xs.length<=lim then .ok (Us 0 xs,w) st1 else .stuck
  |none=>.stuck
|_=>.stuck
def Qhv{K:bZ}{H:Hp}{ρ:Tk}{t:Bool}{a:aB}{xs:List PV}{w:Wt}(h:∀H2 j z,Ext H ρ H2 j->Rel H2 j z->wOk w z->∃vs,SqK K t H2 a vs/\RepL H2 j xs vs):Src (Ite K t a) (Us 0 xs) w H ρ:=by
 refine⟨λH2 j z x R ok=>?_,λH2 j z x R ok i hi=>?_,λH2 j z x R ok i p U y Y O=>?_⟩
 ·obtain⟨vs,s,r⟩:=h H2 j z x R ok;exact⟨vs,s,by rw[zr,r.length];exact O6 _⟩
 ·obtain⟨vs,s,r⟩:=h H2 j z x R ok;rw[zr,r.length]at hi;exact⟨vs,vs[i],s,O2 hi⟩
 ·obtain⟨vs,s,r⟩:=h H2 j z x R ok;obtain⟨q,u,I,rfl,rfl,S⟩:=O;have J:=S vs s;obtain⟨Z,rfl,p1⟩:=Q6h U;have G:Same H2 (upd H2 q (.tup [.int i,u])):=Qie I;exact⟨G,q,[.int i,u],rfl,Qj,R.fresh I,RepL.cons (by rw[gC];rfl) (RepL.cons ((r.i p1 J).ext (Ext.same G)) RepL.nil)⟩
def Qp9(hg:Gl X "enumerate")(hm:X.mg "enumerate"=zl)(ha:SimA X E [a] mr)(hs:aN [a] X.env=[(yo,aM a X.env)]):
  SimI X E (.Tuple elts kt tp) (.Call (.Name "enumerate" p) [a] [] pos) (Qa9 mr):=⟨λΓ σ H ρ st P R' R G h k=>by
 have hb:Acc X.mg E H ρ _ (mr Γ st):=Acc.bind h;have q:∀I:Bool,(∀p j,mr Γ st=.ok [p] j->(I=zb<->∃ys,p=.tup ys))->WI X (.Tuple elts kt tp) (.Call (.Name "enumerate" p) [a] [] pos) σ H R':=λI ht=>by
  refine WI.of (Qq5 I hg hm Q3s hs) (ha.use' R G hb λps j H1 ρ1 vs eq x1 S G1 r1 h1=>?_)
  split at h1
  ·rename_i p'
   split at h1
   ·rename_i xs w e1
    split at h1
    ·rename_i hl;obtain⟨v,rfl,rv⟩:=Zc r1;obtain⟨O,b1,a1,rfl,z1,Y,J⟩:=Qbj (K:=X.K) S rv e1;have U:=ht _ _ eq;have Z:b1=I:=by
      cases b1 with
      |true=>exact(U.mpr (z1 rfl)).symm
      |false=>
       cases I with
       |false=>rfl
       |true=>obtain⟨ys,e⟩:=U.mp rfl;exact absurd e (Y rfl ys)
     subst Z;obtain⟨a2,s1,_⟩:=J H1 ρ1 j (Ext.refl _ _) S O;refine⟨a1,a2,rfl,s1,k (Us 0 xs,w) j H1 ρ1 _ (by simp only[Qa9,eq,Res.bind,e1,bU hl]) x1 S G1 O ?_ (Qhv J) (h1 H1 ρ1 (Ext.refl _ _) S)⟩;show(Us 0 xs).length<=sizeLine;rw[zr];exact Yi hl
    ·exact h1.elim
   ·exact h1.elim
  ·exact h1.elim
 have tt:∀p:PV,∃t:Bool,t=zb<->∃ys,p=.tup ys:=λp=>by
  cases p with
  |tup ys=>exact⟨zb,λ_=>⟨ys,rfl⟩,λ_=>rfl⟩
  |_=>exact⟨yo,⟨λz=>(by cases z),λ⟨_,z⟩=>(by cases z)⟩⟩
 by_cases hz:∃p j,mr Γ st=.ok [p] j
 ·obtain⟨p0,a3,e0⟩:=hz;obtain⟨I,U⟩:=tt p0;refine q I λp j e=>?_
  rw[e0]at e;cases e;exact U
 ·exact q zb λp j e=>absurd ⟨p,j,e⟩ hz⟩
end
section
abbrev ML:=Gam->Q0->Res (List PV)
structure SimN(X:Cx)(E:XK)(e:aH)(m:ML):Prop where
run:∀(Γ:Gam)(σ:St)(H:Hp)(ρ:Tk)(st:Q0)(P:List PV->Q0->Hp->Tk->Prop)(Q:VK),Rel H ρ st->EnvR H ρ Γ σ->Acc X.mg E H ρ P (m Γ st)->
 (∀ps st1 H1 ρ1 a vs,m Γ st=.ok ps st1->Ext H ρ H1 ρ1->Rel H1 ρ1 st1->a∈ρ1.hid->H a=zl->H1 a=zo (.lst vs)->RepL H1 ρ1 ps vs->Q (.ref a) H1)->WE X e σ H Q
def V1(m:ML):ME:=λΓ st=>(m Γ st).bind λps st1=>.ok (.lst ps) st1
def qu(m:ML):ME:=λΓ st=>(m Γ st).bind λps st1=>.ok (.ref st1.length) (st1++[.lst ps])
section
variable{H0 H:Hp}{ρ0 ρ:Tk}{st:Q0}{a:aB}{ps:List PV}{vs:List V}
def Qdy(q:Rel H0 ρ0 st)(x:Ext H0 ρ0 H ρ)(R:Rel H ρ j)(hm:a∈ρ.hid)(I:H0 a=zl)(G:H a=zo (.lst vs))(r:RepL H ρ ps vs):
  Ext H0 ρ0 H ⟨ρ.tr,ρ0.hid⟩/\Rel H ⟨ρ.tr,ρ0.hid⟩ j/\Rep H ⟨ρ.tr,ρ0.hid⟩ (.lst ps) (.ref a):=
 ⟨x.unhide,R.unhide x.hidM,a,vs,rfl,G,(λz=>by
  rcases z with z|z
  ·exact R.ap a hm z
  ·obtain⟨o,e,_⟩:=q.hd a z;rw[I]at e;cases e),r.unhide x.hidM⟩
mutual
theorem Rep.trk(j:b∈ρ.hid)(q:∀c,c∈hs->c∈ρ.hid):∀{p:PV}{v:V},Rep H ρ p v->Rep H ⟨ρ.tr++[b],hs⟩ p v
|.non,_,r=>r
|.bl _,_,r=>r
|.int _,_,r=>r
|.str _,_,r=>r
|.tup ps,v,⟨c,vs,e,s,n,r⟩=>⟨c,vs,e,s,λz=>by
   rcases z with z|z
   ·rcases E9.mp z with z|z
    ·exact n (.inl z)
    ·have:c=b:=by simpa using z
     subst this;exact n (.inr j)
   ·exact n (.inr (q _ z)),RepL.trk j q r⟩
|.lst ps,v,⟨c,vs,e,s,n,r⟩=>⟨c,vs,e,s,λz=>by
   rcases z with z|z
   ·rcases E9.mp z with z|z
    ·exact n (.inl z)
    ·have:c=b:=by simpa using z
     subst this;exact n (.inr j)
   ·exact n (.inr (q _ z)),RepL.trk j q r⟩
|.fro ps,v,⟨c,vs,e,s,n,r⟩=>⟨c,vs,e,s,λz=>by
   rcases z with z|z
   ·rcases E9.mp z with z|z
    ·exact n (.inl z)
    ·have:c=b:=by simpa using z
     subst this;exact n (.inr j)
   ·exact n (.inr (q _ z)),RepL.trk j q r⟩
|.ref i,v,⟨c,e,G⟩=>⟨c,by show(ρ.tr++[b])[i]?=zo c;rw[O7 (O0.mp e).1];exact e,G⟩
|.dic,v,⟨c,e,s,n⟩=>⟨c,e,s,λz=>by
   rcases z with z|z
   ·rcases E9.mp z with z|z
    ·exact n (.inl z)
    ·have:c=b:=by simpa using z
     subst this;exact n (.inr j)
   ·exact n (.inr (q _ z))⟩
theorem RepL.trk(j:b∈ρ.hid)(q:∀c,c∈hs->c∈ρ.hid):∀{ps:List PV}{vs:List V},RepL H ρ ps vs->RepL H ⟨ρ.tr++[b],hs⟩ ps vs
|[],_,r=>r
|p::ps,_,⟨v,t,e,z,G⟩=>⟨v,t,e,Rep.trk j q z,RepL.trk j q G⟩
end
def Qqd (R0:Rel H0 ρ0 st) (x:Ext H0 ρ0 H ρ) {G:Q0} (R:Rel H ρ G) (hm:a∈ρ.hid) (Z:H0 a=zl) (ha:H a=zo (.lst vs)) (r:RepL H ρ ps vs):
  Ext H0 ρ0 H ⟨ρ.tr++[a],ρ0.hid⟩/\Rel H ⟨ρ.tr++[a],ρ0.hid⟩ (G++[.lst ps])/\Rep H ⟨ρ.tr++[a],ρ0.hid⟩ (.ref G.length) (.ref a):=by
 have U:a∉ρ0.hid:=λz=>by
  obtain⟨o,e,_⟩:=R0.hd a z;rw[Z]at e;cases e
 refine⟨⟨x.pre.trans (dw _ _),λ_ h=>h,λ_ h=>.inl h,x.keep,λb O=>?_,x.old,x.frz⟩,⟨?_,?_,λb O=>R.hd b (x.hidM b O),λb O z=>?_,λi b c h1 h2=>?_⟩,a,?_,rfl⟩
 ·rcases E9.mp O with z|z
  ·exact x.new b z
  ·have:b=a:=by simpa using z
   subst this;exact .inr Z
 ·show(ρ.tr++[a]).length=_;rw[O5,O5,R.len];rfl
 ·show(ρ.tr++[a]).Nodup;refine L7.mpr ⟨R.nd,by simp,λb O c hc e=>?_⟩;have:c=a:=by simpa using hc
  subst this;subst e;exact R.ap b hm O
 ·rcases E9.mp z with z|z
  ·exact R.ap b (x.hidM b O) z
  ·have:b=a:=by simpa using z
   subst this;exact U O
 ·have h1:(ρ.tr++[a])[i]?=zo b:=h1
  by_cases hi:i<G.length
  ·rw[O7 (by rw[R.len];exact hi)]at h1;rw[O7 hi]at h2;have q:=R.cell i b c h1 h2;cases c with
   |lst S=>
    obtain⟨I,J,j⟩:=q;exact⟨I,J,j.trk hm x.hidM⟩
   |dic S=>
    obtain⟨I,J,j⟩:=q;exact⟨I,J,j.1,j.2.trk hm x.hidM⟩
   |dtp S=>
    obtain⟨I,J,j⟩:=q;exact⟨I,J,j.1,j.2.trk hm x.hidM⟩
   |frd S=>
    obtain⟨I,J,j⟩:=q;exact⟨I,J,j.1,j.2.trk hm x.hidM⟩
   |frt S=>
    obtain⟨I,J,j⟩:=q;exact⟨I,J,j.1,j.2.trk hm x.hidM⟩
   |obj C S=>
    obtain⟨I,J,j⟩:=q;exact⟨I,J,j.1,j.2.trk hm x.hidM⟩
  ·rw[E4 (by rw[R.len];omega)]at h1;rw[E4 ()]at h2;have Y:i-G.length=0:=by
    rcases gM (i-G.length)with z|z
    ·exact z
    ·rw[dE (by simp;omega)]at h2;cases h2
   rw[R.len,Y]at h1;rw[Y]at h2;simp at h1 h2;subst h1;subst h2;exact⟨vs,ha,r.trk hm x.hidM⟩
 ·show(ρ.tr++[a])[G.length]?=zo a;rw[<- R.len,E4 (O6 _),cE];rfl
end
section
variable{X:Cx}{E:XK}{pos:Pos}{e:aH}{m:ML}
def Q74(h:SimN X E e m):SimE X E e (V1 m):=⟨λΓ σ H ρ st Q R G j=>h.run Γ σ H ρ st _ Q R G j.bind λps J H1 ρ1 a vs eq x q hm O I r=>by
 obtain⟨x2,R2,z⟩:=Qdy R x q hm O I r;unfold V1 at j;rw[eq]at j;exact j _ _ x2 R2 _ z⟩
def Qi7(h:SimN X E e m):SimE X E e (qu m):=⟨λΓ σ H ρ st Q R G j=>h.run Γ σ H ρ st _ Q R G j.bind λps J H1 ρ1 a vs eq x q hm O I r=>by
 obtain⟨x2,R2,z⟩:=Qqd R x q hm O I r;unfold qu at j;rw[eq]at j;exact j _ _ x2 R2 _ z⟩
variable{es:List aH}{mr:Gam->Q0->Res (List PV)}{a b:aH}{ma mb:ME}
def Q7r{H1:Hp}{ρ1:Tk}{Q:VK}(x:Ext H ρ H1 ρ1)(G:Rel H1 ρ1 j)(r:RepL H1 ρ1 ps vs)(k:∀H1 ρ1 a vs,Ext H ρ H1 ρ1->Rel H1 ρ1 j->a∈ρ1.hid->H a=zl->H1 a=zo (.lst vs)->RepL H1 ρ1 ps vs->Q (.ref a) H1):∀p,H1 p=zl->Q (.ref p) (upd H1 p (.lst vs)):=λp q=>by
 refine k _ (ρ1.hide p) p vs (x.trans (Ext.hide q)) (G.hide q) E7 ?_ Qj (r.hide q);cases e:H p with
|none=>rfl
|some o=>
  obtain⟨o',z⟩:=x.old p o e;rw[q]at z;cases z
def qk(mr:Gam->Q0->Res (List PV)):ML:=λΓ st=>(mr Γ st).bind λps st1=>if ps.length<=lim then .ok ps st1 else .stuck
def Qhx(h:SimA X E es mr):SimN X E (.List es pos) (qk mr):=
 ⟨λΓ σ H ρ st P Q R G S k=>WE.of (Qbx Q3s) (h.use' R G S.bind λps z H1 ρ1 vs eq x1 J U I h1=>by
  by_cases q:ps.length<=lim
  ·refine⟨by rw[<- I.length];exact Yi q,Q7r x1 J I λH2 j a O=>k ps z H2 j a O ?_⟩;unfold qk;rw[eq];exact bU q
  ·rw[bV q]at h1;exact h1.elim)⟩
def Q7t(ma:ME):ML:=λΓ st=>(ma Γ st).bind λp st1=>match Wv st1 p with
|some xs=>.ok xs st1
|none=>.stuck
def Qp7(Z:SimE X E a ma)(S:Gl X "list")(hm:X.mg "list"=zl)(O:aN [a] X.env=(yo,aM a X.env)::aN [] X.env):SimN X E (.Call (.Name "list" p) [a] [] pos) (Q7t ma):=
 ⟨λΓ σ H ρ st P Q R G hq k=>WE.of (zc Q8h S hm zx (Qk Jc Jb O) (by decide) (by decide) O rfl) (Z.use' R G hq.bind λq j H1 ρ1 v eq x1 J G1 Y h1=>by
  split at h1
  ·rename_i xs e;obtain⟨t,b,vs,rfl,I,ra⟩:=Q0v (K:=X.K) J Y e;refine⟨b,vs,rfl,Qhw I,Q7r x1 J ra λH2 z a U=>k xs j H2 z a U ?_⟩;unfold Q7t;rw[eq];show(match Wv j q with|some xs=>Res.ok xs j|none=>.stuck)=_;rw[e]
  ·exact h1.elim)⟩
def Q62(st:Q0)(p q:PV):Res (List PV):=match Vf st p,Vf st q with
|some xs,zo ys=>if xs.length+ys.length<=lim then .ok (xs++ys) st else .stuck
|_,_=>.stuck
def Q65(ma mb:ME):ML:=λΓ st=>(ma Γ st).bind λx st1=>(mb Γ st1).bind λy st2=>Q62 st2 x y
def Qtq(ha:SimE X E a ma)(hb:SimE X E b mb):SimN X E (.BinOp a .Add b pos) (Q65 ma mb):=
 ⟨λΓ σ H ρ st P Q R G hq k=>WE.of (Qjh yt Jc Jc) (ha.use' R G hq.bind λp I H1 ρ1 v e1 x1 R1 Z r1 h1=>hb.use' R1 Z h1.bind λq j H2 a1 u e2 x2 R2 G2 r2 h2=>by
  unfold Q62 at h2
  split at h2
  ·rename_i xs ys J S
   split at h2
   ·rename_i O;obtain⟨c,vs,rfl,hc,U⟩:=x8 R2 (r1.ext x2) J;obtain⟨d,us,rfl,hd,Y⟩:=x8 R2 r2 S;refine⟨c,d,vs,us,rfl,rfl,hc,hd,by rw[<- U.length,<- Y.length];exact Yi O,Q7r (x1.trans x2) R2 (U.append Y) λH3 z a ws=>k (xs++ys) j H3 z a ws ?_⟩;unfold Q65 Q62;rw[e1];show(mb Γ I).bind _=_;rw[e2];show(match Vf j p,Vf j q with|some xs,zo ys=>if xs.length+ys.length<=lim then Res.ok (xs++ys) j else .stuck|_,_=>.stuck)=_
    rw[J,S];exact bU O
   ·exact h2.elim
  ·exact h2.elim)⟩
end
end
def Wp(cap:zAC)(Γ:Gam):Gam:=cap.map λc=>c.bind λj=>(Γ[j]?).join
def EnvR.cap{H:Hp}{ρ:Tk}{Γ:Gam}{σ:St}(h:EnvR H ρ Γ σ)(cap:zAC):EnvR H ρ (Wp cap Γ) (Q0q cap σ):=by
 refine⟨by unfold Wp Q0q;rw[O1,O1],λi p e=>?_⟩;unfold Wp at e;unfold Q0q;rw[D8]at e ⊢;cases q:cap[i]? with
|none=>rw[q]at e;cases e
|some c=>
  rw[q]at e;cases c with
  |none=>cases e
  |some j=>
   have z:(Γ[j]?).join=zo p:=bt e;cases r:Γ[j]? with
   |none=>rw[r]at z;cases z
   |some o=>
    rw[r]at z;have:o=zo p:=z;subst this;obtain⟨v,I,G⟩:=h.2 j p r;exact⟨v,by show zo ((σ[j]?).join)=zo (zo v);rw[I];rfl,G⟩
def Q23(cap:zAC)(ga:GA):Prop:=∀Γ p Γ1,ga p (Wp cap Γ)=zo Γ1->Γ1.length=(Wp cap Γ).length/\∀(i:Nat)(q:PV),(Wp cap Γ)[i]?=zo (zo q)->Γ1[i]?=zo (zo q)
def Q6p{cap:zAC}{i:Nat}(h:cap[i]?=zo zl)(Γ:Gam):(Wp cap Γ)[i]?=zo zl:=by
 unfold Wp;rw[D8,h];rfl
def Uw{cap:zAC}{i:Nat}(h:cap[i]?=zo zl:=by rfl):Q23 cap (Qb i):=λΓ p I e=>by
 cases e;refine⟨L9 ..,λj q G=>?_⟩;rw[E2 λz=>?_]
 ·exact G
 ·subst z;rw[Q6p h]at G;cases G
def Qf0(cap:zAC)(ga:GAs):Prop:=∀Γ ps Γ0 Γ1,(∀(i:Nat)(q:PV),(Wp cap Γ)[i]?=zo (zo q)->Γ0[i]?=zo (zo q))->ga ps Γ0=zo Γ1->Γ1.length=Γ0.length/\∀(i:Nat)(q:PV),(Wp cap Γ)[i]?=zo (zo q)->Γ1[i]?=zo (zo q)
def Qmh:Qf0 cap Q4p:=λΓ ps Γ0 j h e=>by
 cases ps with
|nil=>cases e;exact⟨rfl,h⟩
|cons _ _=>cases e
def Qgq{cap:zAC}{i:Nat}{gs:GAs}(hs:Qf0 cap gs)(h:cap[i]?=zo zl):Qf0 cap (Vt (Qb i) gs):=λΓ ps Γ0 j h0 e=>by
 cases ps with
|nil=>cases e
|cons p ps=>
  obtain⟨a,b⟩:=hs Γ ps (Γ0.set i (zo p)) j (λk r q=>by
   rw[E2 λz=>?_]
   ·exact h0 k r q
   ·subst z;rw[Q6p h]at q;cases q) e
  exact⟨by rw[a,L9],b⟩
def Qmg(hs:Qf0 cap gs):Q23 cap (Q4n gs):=λΓ p j e=>by
 cases p with
|tup ps=>exact hs Γ ps _ j (λ_ _ h=>h) e
|_=>cases e
open Classical in
def Zt(ga:GA)(mt:MT)(me:ME)(w:Wt)(Γ0:Gam):List PV->Q0->Res (List PV)
|[],st=>if wOk w st then .ok [] st else .stuck
|x::xs,st=>if wOk w st then(match ga x Γ0 with
  |none=>.stuck
  |some Γ1=>(mt Γ1 st).bind λb st1=>if b=zb then(me Γ1 st1).bind λy st2=>(Zt ga mt me w Γ0 xs st2).bind λys st3=>.ok (y::ys) st3 else Zt ga mt me w Γ0 xs st1)else .stuck
def noX{α:Type}:Res α->Res α
|.exc _ _=>.stuck
|r=>r
def Ja(cap:zAC)(ga:GA)(mi:MI)(mt:MT)(me:ME):ML:=λΓ st=>(mi Γ st).bind λiw st1=>noX (Zt ga mt me iw.2 (Wp cap Γ) iw.1 st1)
structure SimTs(X:Cx)(ifs:List aH)(m:MT):Prop where
run:∀(Γ:Gam)(σ:St)(H:Hp)(ρ:Tk)(st:Q0)(P:Bool->Q0->Hp->Tk->Prop)(Q:Bool->Hp->Prop),Rel H ρ st->EnvR H ρ Γ σ->Acc X.mg E0 H ρ P (m Γ st)->
 (∀b st1 H1 ρ1,m Γ st=.ok b st1->Ext H ρ H1 ρ1->Rel H1 ρ1 st1->EnvR H1 ρ1 Γ σ->Q b H1)->∃t,PTs X ifs t/\t σ H Q
def Ya:MT:=λ_ st=>.ok zb st
def z7:SimTs X [] Ya:=⟨λΓ σ H ρ st P Q R G h k=>⟨_,Qpv,k zb st H ρ rfl (Ext.refl _ _) R G⟩⟩
def Qnx(I:SimT X E0 c m):SimTs X [c] m:=⟨λΓ σ H ρ st P Q R G h k=>⟨_,Qpu Q9j,I.use' R G h λb j H1 ρ1 e x1 q z p=>k b j H1 ρ1 e x1 q z⟩⟩
def Qsj{α:Type}{mg:zAE}{E E':XK}{H:Hp}{ρ:Tk}{P:α->Q0->Hp->Tk->Prop}{r:Res α}(h:Acc mg E H ρ P (noX r)):Acc mg E' H ρ P r:=by
 cases r with
|ok a st=>exact h
|exc x st=>exact h.elim
|stuck=>exact h
def Res.assoc{α β j:Type}(r:Res α)(f:α->Q0->Res β)(g:β->Q0->Res j):(r.bind f).bind g=r.bind λa st=>(f a st).bind g:=by cases r<;>rfl
def Acc.assoc{α β j:Type}{mg:zAE}{E:XK}{H:Hp}{ρ:Tk}{P:j->Q0->Hp->Tk->Prop}{r:Res α}{f:α->Q0->Res β}{g:β->Q0->Res j}(h:Acc mg E H ρ P ((r.bind f).bind g)):Acc mg E H ρ P (r.bind λa st=>(f a st).bind g):=by
 rw[<- Res.assoc];exact h
def EnvR.le{H:Hp}{ρ:Tk}{Γ j:Gam}{σ:St}(h:EnvR H ρ j σ)(z:Γ.length=σ.length)(k:∀(i:Nat)(q:PV),Γ[i]?=zo (zo q)->j[i]?=zo (zo q)):EnvR H ρ Γ σ:=⟨z,λi p e=>h.2 i p (k i p e)⟩
variable{tg iter elt:aH}{ifs:List aH}{N N':List Str}{sc scE:Scope}{ga:GA}{mi:MI}{mt:MT}{me:ME}
section
variable{cap:zAC}
def aE(X:Cx)(N':List Str)(sc:Scope)(e:aH):TE:=λσ H Q=>∀cl C s0 H0 ex,WE (Y7 X N' sc cl C s0 H0 ex) e σ H Q
def aG(X:Cx)(N':List Str)(sc:Scope)(tg:aH):TG:=λv σ H Q=>∀cl C s0 H0 ex,WGx (Y7 X N' sc cl C s0 H0 ex) tg v σ H Q
def aT(X:Cx)(N':List Str)(sc:Scope)(ifs:List aH):TT:=λσ H Q=>∀cl C s0 H0 ex,∃t,PTs (Y7 X N' sc cl C s0 H0 ex) ifs t/\t σ H Q
def Qgx {Γ:Gam} {σ:St} {H1:Hp} {ρ1:Tk} {O:Q0} {J:It} {j:List PV} {w:Wt} {Q:VK} {P:List PV->Q0->Hp->Tk->Prop} (hg:∀cl C s0 H0 ex,SimG (Y7 X N' sc cl C s0 H0 ex) tg ga) (he:∀cl C s0 H0 ex,SimE (Y7 X N' sc cl C s0 H0 ex) E0 elt me) (ht:∀cl C s0 H0 ex,SimTs (Y7 X N' sc cl C s0 H0 ex) ifs mt)
  (hf:Q23 cap ga) (R1:Rel H1 ρ1 O) (G1:EnvR H1 ρ1 Γ σ) (src:Src J j w H1 ρ1) (c2:j.length<=sizeLine) (h:Acc X.mg E0 H1 ρ1 P (Zt ga mt me w (Wp cap Γ) j O))
  (k:∀ys b5 H2 a3 acc vs,Zt ga mt me w (Wp cap Γ) j O=.ok ys b5->Ext H1 ρ1 H2 a3->Rel H2 a3 b5->acc∈a3.hid->H1 acc=zl->H2 acc=zo (.lst vs)->RepL H2 a3 ys vs->Q (.ref acc) H2):Q6m J cap (aG X N' sc tg) (aT X N' sc ifs) (aE X N' sc elt) σ H1 Q:=by
 intro acc q;let W:Nat->Nat->List V->St->Hp->Prop:=λi m vs a6 H'=>m=j.length-i/\i<=j.length/\vs.length<=i/\∃ρ' st' ys,Ext H1 ρ1 H' ρ'/\acc∈ρ'.hid/\Rel H' ρ' st'/\EnvR H' ρ' (Wp cap Γ) a6/\H' acc=zo (.lst vs)/\RepL H' ρ' ys vs/\
  Zt ga mt me w (Wp cap Γ) j O=(Zt ga mt me w (Wp cap Γ) (j.drop i) st').bind λzs Z=>.ok (ys++zs) Z
 refine⟨W,⟨_,rfl,G8 _,O6 _,ρ1.hide acc,O,[],Ext.hide q,E7,R1.hide q,(G1.cap cap).hide q,Qj,rfl,?_⟩,?_⟩
 ·rw[eZ];cases r:Zt ga mt me w (Wp cap Γ) j O with
  |ok zs Z=>rfl
  |exc x Z=>rfl
  |stuck=>rfl
 rintro i m vs a6 H' ⟨hm,hi,c3,ρ',st',ys,x,Y,R',G',ha,ry,I⟩;have G:Acc X.mg E0 H1 ρ1 P ((Zt ga mt me w (Wp cap Γ) (j.drop i) st').bind λzs Z=>.ok (ys++zs) Z):=by rw[<- I];exact h
 refine⟨ha,?_⟩
 by_cases U:i<j.length
 ·right
  have hd:j.drop i=j[i]::j.drop (i+1):=jS U;rw[hd,Zt]at G I
  by_cases hw:wOk w st'
  ·rw[bU hw]at G I;refine⟨src.go H' _ st' x R' hw i U,by omega,λy H2 hy=>?_⟩;obtain⟨sm,c0⟩:=src.yld H' _ st' x R' hw i _ (O2 U) y H2 hy;cases eg:ga j[i] (Wp cap Γ)with
   |none=>rw[eg]at G;exact G.elim
   |some a1=>
    rw[eg]at G I;have x2:Ext H' ρ' H2 ρ':=Ext.same sm;have R2:=R'.same sm;intro cl C s0 H0 ex;refine(hg cl C s0 H0 ex).run (Wp cap Γ) a1 a6 H2 ρ' _ y _ (G'.ext x2) c0 eg λa8 G3=>?_
    intro cl C s0 H0 ex;have b9:=Acc.later G (x.trans x2);refine(ht cl C s0 H0 ex).run a1 a8 H2 ρ' st' _ _ R2 G3 (Acc.bind (Acc.assoc b9)) λb b8 H4 a2 e4 x4 R4 G4=>?_
    simp only[e4,Res.bind]at G I;have G0:∀{a5:Hp}{S:Tk},EnvR a5 S a1 a8->EnvR a5 S (Wp cap Γ) a8:=λ{a5 S} g=>g.le (by
     rw[<- G3.1];exact(hf Γ _ a1 eg).1.symm) (hf Γ _ a1 eg).2
    have a7:Ext H1 ρ1 H4 a2:=x.trans (x2.trans x4);have b1:acc∈a2.hid:=x4.hidM acc Y;have na:acc∉ρ'.tr:=R'.ap acc Y;have b4:H4 acc=zo (.lst vs):=x4.keep acc _ (sm acc _ ha) na;have b2:RepL H4 a2 ys vs:=ry.ext (x2.trans x4);cases b with
    |false=>
     rw[bV O9]at G I ⊢;exact⟨_,show j.length-(i+1)<m by omega,rfl,U,by omega,a2,b8,ys,a7,b1,R4,G0 G4,b4,b2,I⟩
    |true=>
     rw[bU rfl]at G I ⊢;intro cl C s0 H0 ex;have b7:=Acc.later G a7;refine(he cl C s0 H0 ex).use' R4 G4 (Acc.bind (Acc.assoc b7)) λz b3 H5 a9 zv e5 x5 R5 G5 r5 h5=>?_
     simp only[e5,Res.bind]at G I;have a4:acc∈a9.hid:=x5.hidM acc b1;have c1:H5 acc=zo (.lst vs):=x5.keep acc _ b4 (R4.ap acc b1);have b6:Ext H1 ρ1 H5 a9:=a7.trans x5;refine⟨c1,_,show j.length-(i+1)<m by omega,rfl,U,by rw[O5];simp;omega,a9,b3,ys++[z],b6.put0 q,a4,R5.rehide a4,(G0 G5).rehide a4,Qj,((b2.ext x5).append (RepL.cons r5 RepL.nil)).rehide a4,?_⟩;refine I.trans ?_;cases rr:Zt ga mt me w (Wp cap Γ) (j.drop (i+1)) b3 with
     |ok zs b0=>
      show Res.ok (ys++z::zs) b0=Res.ok ((ys++[z])++zs) b0;rw[dA];rfl
     |exc x6 b0=>rfl
     |stuck=>rfl
  ·rw[bV hw]at G;exact G.elim
 ·left
  have ei:i=j.length:=by omega
  subst ei;rw[gN,Zt]at G I
  by_cases hw:wOk w st'
  ·rw[bU hw]at G I;refine⟨src.stop H' _ st' x R' hw,?_⟩;have I:Zt ga mt me w (Wp cap Γ) j O=.ok (ys++[]) st':=I;rw[G9]at I;exact k ys st' H' ρ' acc vs I x R' Y q ha ry
  ·rw[bV hw]at G;exact G.elim
def Qaw {Γ:Gam} {σ:St} {H:Hp} {ρ:Tk} {st:Q0} {Q:VK} {P:List PV->Q0->Hp->Tk->Prop} (hi:SimI X E tg iter mi) (hg:∀cl C s0 H0 ex,SimG (Y7 X N' sc cl C s0 H0 ex) tg ga) (he:∀cl C s0 H0 ex,SimE (Y7 X N' sc cl C s0 H0 ex) E0 elt me) (O:∀cl C s0 H0 ex,SimTs (Y7 X N' sc cl C s0 H0 ex) ifs mt)
  (hf:Q23 cap ga) (R:Rel H ρ st) (G:EnvR H ρ Γ σ) (h:Acc X.mg E H ρ P (Ja cap ga mi mt me Γ st)) (k:∀ps q H2 j a vs,Ja cap ga mi mt me Γ st=.ok ps q->Ext H ρ H2 j->Rel H2 j q->a∈j.hid->H a=zl->H2 a=zo (.lst vs)->RepL H2 j ps vs->Q (.ref a) H2):Q6x cap (WI X tg iter) (aG X N' sc tg) (aT X N' sc ifs) (aE X N' sc elt) σ H Q:=by
 refine hi.run Γ σ H ρ st _ _ R G h.bind λiw a1 H1 ρ1 J eq x1 Z S ok U src h1=>?_
 refine Qgx hg he O hf Z S src U (Qsj (E':=E0) h1) λys q H2 j acc vs z x2 R2 hm hn Y ry=>?_
 refine k ys q H2 j acc vs ?_ (x1.trans x2) R2 hm ?_ Y ry
 ·unfold Ja;rw[eq];show noX _=_;rw[z];rfl
 cases e:H acc with
|none=>rfl
|some o=>
  obtain⟨o',I⟩:=x1.old acc o e;rw[hn]at I;cases I
def Qy9:∀cl C s0 H0 ex,PG (Y7 X N' sc cl C s0 H0 ex) tg (aG X N' sc tg):=λcl C s0 H0 ex pins s σ H v u Q I r h=>Qq7 pins s σ H v u Q I r (h cl C s0 H0 ex)
def Qyb:∀cl C s0 H0 ex,PE (Y7 X N' sc cl C s0 H0 ex) e (aE X N' sc e):=λcl C s0 H0 ex pins s σ H Q I h=>h cl C s0 H0 ex pins s I
def Qsw:∀cl C s0 H0 ex,PTs (Y7 X N' sc cl C s0 H0 ex) ifs (aT X N' sc ifs):=λcl C s0 H0 ex pins s σ H Q I h=>by
 obtain⟨t,a,b⟩:=h cl C s0 H0 ex;exact a pins s σ H Q I b
def Q2i cap N'(j:X.calm=zb)(hi:SimI X E tg iter mi)(z:∀cl C s0 H0 ex,SimG (Y7 X N' sc cl C s0 H0 ex) tg ga)(S:∀cl C s0 H0 ex,SimE (Y7 X N' sc cl C s0 H0 ex) E0 elt me)(J:∀cl C s0 H0 ex,SimTs (Y7 X N' sc cl C s0 H0 ex) ifs mt)(I:Q23 cap ga)(U:X.N=N:=by rfl)(q:X.env.scope=scE:=by rfl)(O:compOkC N N' sc scE cap=zb:=by kernel_rfl)(hs:∀x,bF iter X.env x=pure x:=by intro _;rfl):
  SimN X E (.ListComp elt [⟨tg,iter,ifs,0⟩] sc pos) (Ja cap ga mi mt me):=
 ⟨λΓ σ H ρ st P Q R G h k=>WE.of (Qjm j Qua Qy9 Qyb Qsw U q O hs) (Qaw hi z S J I R G h k)⟩
end
inductive SR where
|nx (Γ:Gam) (st:Q0)|rt (v:PV) (st:Q0)|bk (Γ:Gam) (st:Q0)|ct (Γ:Gam) (st:Q0)|exc (x:Exc) (st:Q0)|stuck
abbrev MS:=Gam->Q0->SR
def Res.sbind{α:Type}(r:Res α)(f:α->Q0->SR):SR:=match r with
|.ok a st=>f a st
|.exc x st=>.exc x st
|.stuck=>.stuck
def AccS(mg:zAE)(E:XK)(D:Ends)(H:Hp)(ρ:Tk):SR->Prop
|.nx Γ st=>∀σ' H' ρ',Ext H ρ H' ρ'->Rel H' ρ' st->EnvR H' ρ' Γ σ'->D.nx σ' H'
|.bk Γ st=>∀σ' H' ρ',Ext H ρ H' ρ'->Rel H' ρ' st->EnvR H' ρ' Γ σ'->D.bk σ' H'
|.ct Γ st=>∀σ' H' ρ',Ext H ρ H' ρ'->Rel H' ρ' st->EnvR H' ρ' Γ σ'->D.ct σ' H'
|.rt p st=>∀v H' ρ',Ext H ρ H' ρ'->Rel H' ρ' st->Rep H' ρ' p v->D.rt v H'
|.exc x st=>∀C dv H' ρ',mg x.cls=zo (.ref C)->Ext H ρ H' ρ'->Rel H' ρ' st->XFs H' ρ' x.fs dv->E (.ref C) dv H'
|.stuck=>False
variable{α:Type}{mg:zAE}{D:Ends}{H1:Hp}{ρ1:Tk}
def AccS.later(h:AccS mg E D H ρ r)(x:Ext H ρ H1 ρ1):AccS mg E D H1 ρ1 r:=by
 cases r with
|nx Γ st=>exact λj H' ρ' q=>h j H' ρ' (x.trans q)
|bk Γ st=>exact λj H' ρ' q=>h j H' ρ' (x.trans q)
|ct Γ st=>exact λj H' ρ' q=>h j H' ρ' (x.trans q)
|rt p st=>exact λv H' ρ' q=>h v H' ρ' (x.trans q)
|exc y st=>exact λC z H' ρ' m q=>h C z H' ρ' m (x.trans q)
|stuck=>exact h
def AccS.bind{r:Res α}{f:α->Q0->SR}(h:AccS mg E D H ρ (r.sbind f)):Acc mg E H ρ (λa j H1 ρ1=>AccS mg E D H1 ρ1 (f a j)) r:=by
 cases r with
|ok a st=>exact λH' ρ' q z=>AccS.later (show AccS mg E D H ρ (f a st)from h) q
|exc e st=>exact h
|stuck=>exact h
def Res.sassoc{α β:Type}(r:Res α)(f:α->Q0->Res β)(g:β->Q0->SR):(r.bind f).sbind g=r.sbind λa st=>(f a st).sbind g:=by cases r<;>rfl
def AccS.assoc{α β:Type}{mg:zAE}{E:XK}{D:Ends}{H:Hp}{ρ:Tk}{r:Res α}{f:α->Q0->Res β}{g:β->Q0->SR}(h:AccS mg E D H ρ ((r.bind f).sbind g)):AccS mg E D H ρ (r.sbind λa st=>(f a st).sbind g):=by
 rw[<- Res.sassoc];exact h
structure SimS(X:Cx)(E:XK)(s:aL)(m:MS):Prop where
run:∀(Γ:Gam)(σ:St)(H:Hp)(ρ:Tk)(st:Q0)(D:Ends),Rel H ρ st->EnvR H ρ Γ σ->AccS X.mg E D H ρ (m Γ st)->WS X s D σ H
structure SimB(X:Cx)(E:XK)(ss:List aL)(m:MS):Prop where
run:∀(Γ:Gam)(σ:St)(H:Hp)(ρ:Tk)(st:Q0)(D:Ends),Rel H ρ st->EnvR H ρ Γ σ->AccS X.mg E D H ρ (m Γ st)->WB X ss D σ H
variable{e:aH}{m:ME}
def J3:MS:=λΓ st=>.nx Γ st
def Qd(m1 m2:MS):MS:=λΓ st=>match m1 Γ st with
|.nx Γ1 st1=>m2 Γ1 st1
|r=>r
def Q76:SimB X E [] J3:=⟨λΓ σ H ρ st D R G h=>WB.of Q7c (h σ H ρ (Ext.refl _ _) R G)⟩
def Zk{rest:List aL}(h1:SimS X E s m1)(h2:SimB X E rest m2):SimB X E (s::rest) (Qd m1 m2):=
 ⟨λΓ σ H ρ st D R G h=>WB.of (j8 Qy7 Q3i) (h1.run Γ σ H ρ st _ R G (by
  unfold Qd at h;cases r:m1 Γ st with
  |nx q j=>rw[r]at h;exact λz H' ρ' I J O=>h2.run q z H' ρ' j D J O (AccS.later h I)
  |bk q j=>rw[r]at h;exact h
  |ct q j=>rw[r]at h;exact h
  |rt p j=>rw[r]at h;exact h
  |exc x j=>rw[r]at h;exact h
  |stuck=>rw[r]at h;exact h))⟩
def Kt(h1:SimS X E s m1):SimB X E [s] m1:=⟨λΓ σ H ρ st D R G h=>WB.of (xz Qy7) (h1.run Γ σ H ρ st D R G h)⟩
def Qca:MS:=λΓ st=>.bk Γ st
def Qht:SimS X E (.Break pos) Qca:=⟨λΓ σ H ρ st D R G h=>WS.of Qj4 (h σ H ρ (Ext.refl _ _) R G)⟩
def Xi(m:ME):MS:=λΓ st=>(m Γ st).sbind λ_ st1=>.nx Γ st1
def Qdi(z:SimE X E e m)(hs:swapsWith e zl pos.line X.env=pure yo:=by rfl):SimS X E (.Expr e pos) (Xi m):=
 ⟨λΓ σ H ρ st D R G h=>WS.of (Qpw Jc hs) (z.use R G h.bind λp I H1 ρ1 v x1 j q J h1=>h1 σ H1 ρ1 (Ext.refl _ _) j q)⟩
def J2(m:ME):MS:=λΓ st=>(m Γ st).sbind λp st1=>.rt p st1
def Q6z(z:SimE X E e m):SimS X E (.Return (zo e) pos) (J2 m):=
 ⟨λΓ σ H ρ st D R G h=>WS.of (Q7e Jc) (z.use R G h.bind λp I H1 ρ1 v x1 j J q h1=>h1 v H1 ρ1 (Ext.refl _ _) j q)⟩
def J1(i:Nat)(m:ME):MS:=λΓ st=>(m Γ st).sbind λp st1=>.nx (Γ.set i (zo p)) st1
def Xq i(U:X.N.Nodup)(O:SimE X E e m)(hi:X.N[i]?=zo x:=by rfl)(I:Loc X.env.scope x:=by first|exact .inl rfl|exact .inr rfl)(hs:swapsWith e (zo (.Name x pos')) pos.line X.env=pure yo:=by rfl)(q:X.fn x=zb\/X.env.scope.names.lookup x=zo .local:=by first|exact .inl rfl|exact .inr rfl):
  SimS X E (.Assign [.Name x pos'] e pos) (J1 i m):=
 ⟨λΓ σ H ρ st D R G h=>WS.of (Q7d U hi I Jc hs q) (O.use R G h.bind λp S H1 ρ1 v x1 j z J h1=>h1 _ H1 ρ1 (Ext.refl _ _) j (z.set J i))⟩
section
variable{tg iter elt:aH}{ifs:List aH}{N N':List Str}{sc scE:Scope}{ga:GA}{mi:MI}{mt:MT}{me:ME}
def Q36 (cap:zAC) (N':List Str) (i:Nat) {x:Str} {px cpos:Pos} (J:X.N.Nodup) (j:X.calm=zb) (hi:SimI X E tg iter mi) (hg:∀cl C s0 H0 ex,SimG (Y7 X N' sc cl C s0 H0 ex) tg ga) (he:∀cl C s0 H0 ex,SimE (Y7 X N' sc cl C s0 H0 ex) E0 elt me) (O:∀cl C s0 H0 ex,SimTs (Y7 X N' sc cl C s0 H0 ex) ifs mt)
  (hf:Q23 cap ga) (I:X.N[i]?=zo x:=by rfl) (hx:Loc X.env.scope x:=by first|exact .inl rfl|exact .inr rfl) (z:swapsWith (.ListComp elt [⟨tg,iter,ifs,0⟩] sc cpos) (zo (.Name x px)) pos.line X.env=pure zb:=by rfl)
  (hN:X.N=N:=by rfl) (hE:X.env.scope=scE:=by rfl) (U:compOkC N N' sc scE cap=zb:=by kernel_rfl) (hs:∀x,bF iter X.env x=pure x:=by intro _;rfl) (q:X.fn x=zb\/X.env.scope.names.lookup x=zo .local:=by first|exact .inl rfl|exact .inr rfl):
  SimS X E (.Assign [.Name x px] (.ListComp elt [⟨tg,iter,ifs,0⟩] sc cpos) pos) (J1 i (V1 (Ja cap ga mi mt me))):=
 ⟨λΓ σ H ρ st D R G h=>WS.of (Qj3 J I hx j Qua Qy9 Qyb Qsw z hN hE U hs q) (Qaw hi hg he O hf R G (AccS.bind (by unfold J1 V1 at h;exact AccS.assoc h)) λps a1 H1 ρ1 a vs eq x Z hm hn Y r=>by
  obtain⟨x2,R2,S⟩:=Qdy R x Z hm hn Y r;simp only[J1,V1,eq,Res.bind,Res.sbind]at h;exact h _ _ _ x2 R2 ((G.ext x2).set S i))⟩
end
def Qka(ga:GA)(m:ME):MS:=λΓ st=>(m Γ st).sbind λp st1=>match ga p Γ with
|some Γ1=>.nx Γ1 st1
|none=>.stuck
def Qhu(Y:SimE X E e m)(O:SimG X tg ga)(hs:swapsWithSole [tg] e pos.line X.env=pure yo:=by rfl)(J:swappedStores [tg] e X.env=pure zl:=by rfl)(h1:(az [tg] X.env).map (·.2)=[assign tg X.env]:=by rfl):SimS X E (.Assign [tg] e pos) (Qka ga m):=
 ⟨λΓ σ H ρ st D R G h=>WS.of (Qj5 Jc Qq7 hs J h1) (Y.use R G h.bind λp a1 H1 ρ1 v x1 I S U h1=>by
  cases z:ga p Γ with
  |none=>rw[z]at h1;exact h1.elim
  |some q=>
   rw[z]at h1;exact O.run Γ q σ H1 ρ1 p v _ S U z λj Z=>h1 j H1 ρ1 (Ext.refl _ _) I Z)⟩
def qi(st:Q0)(o i p:PV):Option Q0:=match o,i with
|.ref k,.int j=>match st[k]? with
  |some (.lst xs)=>(ixN xs.length j).map λn=>st.set k (.lst (xs.set n p))
  |_=>zl
|_,_=>zl
def ji(mo mi m:ME):MS:=λΓ st=>(m Γ st).sbind λp st1=>(mo Γ st1).sbind λo st2=>(mi Γ st2).sbind λi st3=>match qi st3 o i p with
|some st4=>.nx Γ st4
|none=>.stuck
def Qpa{st:Q0}(R:Rel H ρ st)(U:Rep H ρ o x)(Y:Rep H ρ i y)(S:Rep H ρ p z)(e:qi st o i p=zo st'):
  ∃a vs k j,x=.ref a/\y=.int k/\H a=zo (.lst vs)/\ixN vs.length k=zo j/\Ext H ρ (upd H a (.lst (vs.set j z))) ρ/\Rel (upd H a (.lst (vs.set j z))) ρ st':=by
 unfold qi at e
 split at e
 ·rename_i k j
  split at e
  ·rename_i xs hs;cases q:ixN xs.length j with
   |none=>rw[q]at e;cases e
   |some n=>
    rw[q]at e;have e:st.set k (.lst (xs.set n p))=st':=bt e;subst e;obtain⟨a,G,rfl⟩:=U;cases Y;obtain⟨b,vs,J,I,O⟩:=R.lst hs;rw[G]at J;cases J;exact⟨a,vs,j,n,rfl,rfl,I,by rw[<- O.length];exact q,Ext.put (E6 G) I,R.put G I (O.set S n)⟩
  ·cases e
 ·cases e
def Qtp{mi:ME}(he:SimE X E e m)(ho:SimE X E o mo)(hi:SimE X E i mi)(ha:∀v,assign (.Subscript o i tpos) X.env v=(do
   let q<-av [v] (aM o X.env)
   let I<-av [v,q] (aM i X.env)
   standAt tpos
   av [v,q,I] (setItem q I v)
   release [v,q,I] []))(hs:swapsWithSole [.Subscript o i tpos] e pos.line X.env=pure yo)(hw:swappedStores [.Subscript o i tpos] e X.env=pure zl)(h1:(az [.Subscript o i tpos] X.env).map (·.2)=[assign (.Subscript o i tpos) X.env]):
  SimS X E (.Assign [.Subscript o i tpos] e pos) (ji mo mi m):=
 ⟨λΓ σ H ρ st D R G h=>WS.of (Qj5 Jc (Que Jc Jc Qi4 ha) hs hw h1) (he.use R G h.bind λp a4 H1 ρ1 z x1 R1 Z r1 h1=>ho.use R1 Z h1.bind λq a2 H2 a3 x x2 R2 G2 r2 h2=>hi.use R2 G2 h2.bind λI S H3 O y Y R3 G3 r3 J=>by
  cases es:qi S q I p with
  |none=>rw[es]at J;exact J.elim
  |some a1=>
   rw[es]at J;obtain⟨a,vs,k,j,rfl,rfl,f1,f2,U,R4⟩:=Qpa R3 (r2.ext Y) r3 (r1.ext (x2.trans Y)) es;exact⟨a,vs,k,j,rfl,rfl,f1,f2,J σ _ O U R4 (G3.ext U)⟩)⟩
def Jm(mt:MT)(ma mb:MS):MS:=λΓ st=>(mt Γ st).sbind λb st1=>if b=zb then ma Γ st1 else mb Γ st1
def Qdh{c:aH}{a b:List aL}{mt:MT}{ma mb:MS}(J:SimT X E c mt)(O:SimB X E a ma)(I:SimB X E b mb):SimS X E (.If c a b pos) (Jm mt ma mb):=
 ⟨λΓ σ H ρ st D R G h=>WS.of (Qj2 Q9j Q3i Q3i) (J.use R G h.bind λk j H1 ρ1 x1 q z h1=>by
  cases k with
  |true=>rw[bU rfl]at h1 ⊢;exact O.run Γ σ H1 ρ1 j D q z h1
  |false=>rw[bV O9]at h1 ⊢;exact I.run Γ σ H1 ρ1 j D q z h1)⟩
open Classical in
def Jv(ga:GA)(body:MS)(w:Wt):List PV->Gam->Q0->SR
|[],Γ,st=>if wOk w st then .nx Γ st else .stuck
|x::xs,Γ,st=>if wOk w st then(match ga x Γ with
  |none=>.stuck
  |some Γ1=>match body Γ1 st with
   |.nx Γ2 st2=>Jv ga body w xs Γ2 st2
   |.ct Γ2 st2=>Jv ga body w xs Γ2 st2
   |.bk Γ2 st2=>.nx Γ2 st2
   |.rt v st2=>.rt v st2
   |.exc x st2=>.exc x st2
   |.stuck=>.stuck)else .stuck
def U7(ga:GA)(mi:MI)(body:MS):MS:=λΓ st=>(mi Γ st).sbind λiw st1=>Jv ga body iw.2 iw.1 Γ st1
def Qbi(hp:PassesOwn (aI X.prog X.w) X.A X.env X.xe)(hc:X.calm=zb)(hi:SimI X E tg iter mi)(hg:SimG X tg ga)(hb:SimB X E bd body)(hs:∀x,bF iter X.env x=pure x:=by intro _;rfl):SimS X E (.For tg iter bd [] pos) (U7 ga mi body):=
 ⟨λΓ σ H ρ st D R G h=>WS.of (Qu9 hp hc Qua Qq7 Q3i hs) (hi.run Γ σ H ρ st _ _ R G h.bind λI a6 H1 ρ1 J eq x1 R1 G1 ok hl src h1=>by
  let W:Nat->Nat->St->Hp->Prop:=λi m O H'=>m=I.1.length-i/\i<=I.1.length/\∃Z ρ' st',Ext H1 ρ1 H' ρ'/\Rel H' ρ' st'/\EnvR H' ρ' Z O/\AccS X.mg E D H' ρ' (Jv ga body I.2 (I.1.drop i) Z st')
  refine⟨W,⟨_,rfl,G8 _,Γ,ρ1,a6,Ext.refl _ _,R1,G1,by rw[eZ];exact h1⟩,?_⟩;rintro i m O H' ⟨hm,a7,Z,ρ',st',x,R',G',U⟩
  by_cases a2:i<I.1.length
  ·right
   have hd:I.1.drop i=I.1[i]::I.1.drop (i+1):=jS a2;rw[hd,Jv]at U
   by_cases hw:wOk I.2 st'
   ·rw[bU hw]at U;refine⟨src.go H' ρ' st' x R' hw i a2,λa4 H2=>W (i+1) (I.1.length-(i+1)) a4 H2,λa4 H2 z=>⟨_,by omega,z⟩,λy H2 hy=>?_⟩
    obtain⟨sm,ry⟩:=src.yld H' ρ' st' x R' hw i _ (O2 a2) y H2 hy;have x2:Ext H' ρ' H2 ρ':=Ext.same sm;cases eg:ga I.1[i] Z with
    |none=>rw[eg]at U;exact U.elim
    |some a3=>
     rw[eg]at U;refine hg.run Z a3 O H2 ρ' _ y _ (G'.ext x2) ry eg λa5 G3=>?_
     have j:=AccS.later U x2;simp only at j;refine hb.run a3 a5 H2 ρ' st' _ (R'.same sm) G3 ?_;have again:∀{S:Gam}{q:Q0},AccS X.mg E D H2 ρ' (Jv ga body I.2 (I.1.drop (i+1)) S q)->∀O a1 Y,Ext H2 ρ' a1 Y->Rel a1 Y q->EnvR a1 Y S O->W (i+1) (I.1.length-(i+1)) O a1:=λ{S q} a σ4 H4 ρ4 x4 R4 G4=>
      ⟨rfl,a2,S,ρ4,q,x.trans (x2.trans x4),R4,G4,AccS.later a x4⟩
     cases rb:body a3 st' with
     |nx S q=>rw[rb]at j;exact again j
     |ct S q=>rw[rb]at j;exact again j
     |bk S q=>rw[rb]at j;exact j
     |rt v q=>rw[rb]at j;exact j
     |exc y q=>rw[rb]at j;exact j
     |stuck=>rw[rb]at j;exact j.elim
   ·rw[bV hw]at U;exact U.elim
  ·left
   have ei:i=I.1.length:=by omega
   subst ei;rw[gN,Jv]at U
   by_cases hw:wOk I.2 st'
   ·rw[bU hw]at U;exact⟨src.stop H' ρ' st' x R' hw,U O H' ρ' (Ext.refl _ _) R' G'⟩
   ·rw[bV hw]at U;exact U.elim)⟩
def J5(mt:MT)(body:MS):Nat->Gam->Q0->SR
|0,_,_=>.stuck
|n+1,Γ,st=>(mt Γ st).sbind λb st1=>if b=zb then (match body Γ st1 with
   |.nx Γ2 st2=>J5 mt body n Γ2 st2
   |.ct Γ2 st2=>J5 mt body n Γ2 st2
   |.bk Γ2 st2=>.nx Γ2 st2
   |.rt v st2=>.rt v st2
   |.exc x st2=>.exc x st2
   |.stuck=>.stuck)else .nx Γ st1
def Q8z(n:Nat){c:aH}{bd:List aL}{mt:MT}{body:MS}(hp:PassesOwn (aI X.prog X.w) X.A X.env X.xe)(hc:SimT X E c mt)(hb:SimB X E bd body):SimS X E (.While c bd [] pos) (J5 mt body n):=
 ⟨λΓ σ H ρ st D R G h=>WS.of (Qj1 hp Q9j Q3i) (by
  let W:Nat->St->Hp->Prop:=λm q H'=>∃O ρ' st',Rel H' ρ' st'/\EnvR H' ρ' O q/\AccS X.mg E D H' ρ' (J5 mt body m O st')
  refine⟨W,⟨n,Γ,ρ,st,R,G,h⟩,?_⟩;rintro m q H' ⟨O,ρ',st',R',G',hA⟩;cases m with
  |zero=>exact hA.elim
  |succ m=>
   rw[J5]at hA;refine hc.use R' G' hA.bind λb Z H1 ρ1 x1 R1 G1 h1=>?_
   cases b with
   |false=>rw[bV O9]at h1 ⊢;exact h1 q H1 ρ1 (Ext.refl _ _) R1 G1
   |true=>
    rw[bU rfl]at h1 ⊢;refine⟨λY H2=>W m Y H2,λY H2 z=>⟨m,dP _,z⟩,hb.run O q H1 ρ1 Z _ R1 G1 ?_⟩
    have again:∀{I:Gam}{j:Q0},AccS X.mg E D H1 ρ1 (J5 mt body m I j)->∀q S J,Ext H1 ρ1 S J->Rel S J j->EnvR S J I q->W m q S:=λ{I j} a σ4 H4 ρ4 x4 R4 G4=>⟨I,ρ4,j,R4,G4,AccS.later a x4⟩
    cases U:body O Z with
    |nx I j=>rw[U]at h1;exact again h1
    |ct I j=>rw[U]at h1;exact again h1
    |bk I j=>rw[U]at h1;exact h1
    |rt v j=>rw[U]at h1;exact h1
    |exc y j=>rw[U]at h1;exact h1
    |stuck=>rw[U]at h1;exact h1.elim)⟩
def Q47(x:Str)(m:ME):MS:=λΓ st=>(m Γ st).sbind λ_ st1=>.exc ⟨x,zl⟩ st1
def Qhs(j:X.calm=zb)(U:Qdb X E)(O:Gl X x)(hm:X.mg x=zo (.ref C))(q:cF X.K C Q51 "ValueError.__new__"=zb)(Y:SimE X E e m)(I:(x==("__debug__":Str))=yo)(z:aN [e] X.env=[(yo,aM e X.env)]):SimS X E (.Raise (zo (.Call (.Name x S) [e] [] cpos)) zl pos) (Q47 x m):=
 ⟨λΓ σ H ρ st D R G h=>WS.of (Qfn j U O hm q (Qk Jc Jb (by rw[z];rfl)) I z) (Y.use R G h.bind λp Z H1 ρ1 v x1 J G1 r1 h1=>⟨E8 (show 1<=lim by decide) Q7x,h1 C zl H1 ρ1 hm (Ext.refl _ _) J rfl⟩)⟩
def WM(X:Cx)(id:String):V->List V->Hp->VK->Prop:=λx xs H Q=>∀(pins:zAA)(s:aC)(σ:St)(v:aA)(us:List aA),Inv X pins σ H s->RelV x v->Vals xs us->aF (aI X.prog X.w) X.A (call (.builtin id) (v::us)) (EP X pins σ Q) X.xe s
def Qqq{id:String}:MtR X id (WM X id):=λpins s σ _ _ _ v j _ I r rs h=>h pins s σ v j I r rs
def WM.of{id:String}{r:V->List V->Hp->VK->Prop}(h:MtR X id r)(q:r x xs H Q):WM X id x xs H Q:=λpins s σ v z I G j=>h pins s σ H x xs v z Q I G j q
abbrev MF:=Q0->PV->List PV->Res PV
structure MtS(X:Cx)(E:XK)(id:String)(o:MF):Prop where
run:∀(H:Hp)(ρ:Tk)(st:Q0)(p:PV)(ps:List PV)(x:V)(xs:List V)(Q:VK),Rel H ρ st->Rep H ρ p x->RepL H ρ ps xs->Acc X.mg E H ρ (QV Q) (o st p ps)->WM X id x xs H Q
variable{o:aH}{es:List aH}{mo:ME}{mr:Gam->Q0->Res (List PV)}{name:Str}{apos cpos:Pos}{T:String}{f:MF}
section
variable{id:String}
def mBM(f:MF)(mo:ME)(mr:Gam->Q0->Res (List PV)):ME:=λΓ st=>(mo Γ st).bind λp st1=>match V2 st1 p with
|some _=>(mr Γ st1).bind λps st2=>f st2 p ps
|none=>.stuck
def Qxy (pa:PlainAttrs "list") (slot:Slot "list" name id) (O:typeOf (.builtin id)=pure (.type "method_descriptor")) (hm:MtS X E id f) (ho:SimE X E o mo) (ha:SimA X E (e::es) mr)
  (z:bB o name X.env (aM o X.env)=aM o X.env:=by rfl)
  (I:((aY cpos (aN (e::es) X.env)).all (λx=>!x.1)&&(backToKw cpos (keywordEach [] X.env)).all (λx=>x.1.isSome)
   &&decide ((e::es).length+([]:List Keyword).length+(if([]:List Keyword).isEmpty then 0 else 1)<30))=zb:=by rfl)
  (q:(apos.endLine==cpos.line)=zb:=by rfl) (hs:aN (e::es) X.env=(yo,aM e X.env)::aN es X.env:=by rfl) (j:(aY cpos (aN es X.env)).any (·.1)=yo:=by rfl):
  SimE X E (.Call (.Attribute o name apos) (e::es) [] cpos) (mBM f mo mr):=
 ⟨λΓ σ H ρ st Q R G h=>WE.of (Qdv pa slot O Qqq Jc Q3s z I q hs j) (ho.use R G h.bind λp a1 H1 ρ1 v x1 Y Z U h1=>by
  split at h1
  ·rename_i ys el;obtain⟨a,vs,rfl,hr,_⟩:=Zv Y U el;exact⟨.inl ⟨rfl,vs,.inl hr⟩,ha.use Y Z h1.bind λps J H2 S us x2 R2 G2 r2 h2=>hm.run H2 S J p ps _ us Q R2 (U.ext x2) r2 h2⟩
  ·exact h1.elim)⟩
def Qic (Z:PlainAttrs "list") (slot:Slot "list" name id) (z:typeOf (.builtin id)=pure (.type "method_descriptor")) (hm:MtS X E id f) (U:SimE X E o mo)
  (j:bB o name X.env (aM o X.env)=aM o X.env:=by rfl) (q:(apos.endLine==cpos.line)=zb:=by rfl):SimE X E (.Call (.Attribute o name apos) [] [] cpos) (mBM f mo Q6):=
 ⟨λΓ σ H ρ st Q R G h=>WE.of (Quj Z slot z Qqq Jc j q) (U.use R G h.bind λp I H1 ρ1 v x1 J G1 O h1=>by
  split at h1
  ·rename_i ys Y;obtain⟨a,vs,rfl,S,_⟩:=Zv J O Y;exact⟨.inl ⟨rfl,vs,.inl S⟩,hm.run H1 ρ1 I p [] _ [] Q J O rfl h1⟩
  ·exact h1.elim)⟩
def chg(st:Q0)(p:PV)(g:List PV->Option (PV×List PV)):Res PV:=match p with
|.ref i=>match st[i]? with
  |some (.lst xs)=>match g xs with
   |some (r,ys)=>.ok r (st.set i (.lst ys))
   |none=>.stuck
  |_=>.stuck
|_=>.stuck
def Q2u{st:Q0}{g:List PV->Option (PV×List PV)}{Q:VK}(R:Rel H ρ st)(J:Rep H ρ p x)(h:Acc mg E H ρ (QV Q) (chg st p g)):
  ∃a xs vs r ys,x=.ref a/\H a=zo (.lst vs)/\RepL H ρ xs vs/\g xs=zo (r,ys)/\∀j v,RepL H ρ ys j->Rep H ρ r v->Q v (upd H a (.lst j)):=by
 unfold chg at h
 split at h
 ·rename_i i
  split at h
  ·rename_i xs hs
   split at h
   ·rename_i r ys I;obtain⟨a,q,rfl⟩:=J;obtain⟨b,vs,G,z,O⟩:=R.lst hs;rw[q]at G;cases G;refine⟨a,xs,vs,r,ys,rfl,z,O,I,λj v ru S=>?_⟩;have x:=Ext.put (o':=.lst j) (E6 q) z;exact h _ ρ x (R.put q z ru) v (S.ext x)
   ·exact h.elim
  ·exact h.elim
 ·exact h.elim
def Jg:MF:=λst p ps=>match ps with
|[y]=>chg st p λxs=>if xs.length<lim then zo (.non,xs++[y])else zl
|_=>.stuck
def Qg6:MtS X E "list.append" Jg:=⟨λH ρ st p ps x xs Q R G rs h=>by
 unfold Jg at h
 split at h
 ·obtain⟨v,rfl,r⟩:=Zc rs;obtain⟨a,ys,vs,J,zs,rfl,z,q,j,k⟩:=Q2u R G h
  split at j
  ·rename_i I;cases j;exact WM.of Qg5 ⟨a,vs,v,rfl,rfl,z,by rw[<- q.length];exact D5 I Q7x,k _ _ (q.append (RepL.cons r RepL.nil)) rfl⟩
  ·cases j
 ·exact h.elim⟩
def Qyy:MF:=λst p ps=>match ps with
|[.int i,y]=>chg st p λxs=>if 0<=i/\i<=xs.length/\xs.length<=1000 then zo (.non,xs.take i.toNat++y::xs.drop i.toNat)else zl
|_=>.stuck
def Qa1:MF:=λst p ps=>match ps with
|[]=>chg st p λxs=>(xs[xs.length-1]?).map λy=>(y,xs.dropLast)
|[.int i]=>if -(2^63)<=i/\i<2^63 then chg st p λxs=>(ixN xs.length i).bind λk=>(xs[k]?).map λy=>(y,xs.eraseIdx k)else .stuck
|_=>.stuck
def RepL.dropLast{ps:List PV}{vs:List V}(r:RepL H ρ ps vs):RepL H ρ ps.dropLast vs.dropLast:=by
 rw[jT,jT,r.length];exact r.take _
def RepL.eraseIdx{ps:List PV}{vs:List V}(r:RepL H ρ ps vs)k:RepL H ρ (ps.eraseIdx k) (vs.eraseIdx k):=by
 rw[jU,jU];exact(r.take _).append (r.drop _)
def Qk4:MtS X E "list.pop" Qa1:=⟨λH ρ st p ps x xs Q R O rs h=>by
 unfold Qa1 at h
 split at h
 ·cases rs;obtain⟨a,ys,vs,J,zs,rfl,I,z,q,k⟩:=Q2u R O h;cases e:ys[ys.length-1]? with
  |none=>rw[e]at q;cases q
  |some y=>
   rw[e]at q;cases q;obtain⟨v,S,G⟩:=z.get e;rw[z.length]at S;exact WM.of Qv6 ⟨a,vs,v,rfl,rfl,I,S,k _ _ z.dropLast G⟩
 ·rename_i i
  split at h
  ·rename_i hi;obtain⟨v,rfl,r⟩:=Zc rs;cases r;obtain⟨a,ys,vs,J,zs,rfl,I,z,q,k⟩:=Q2u R O h;cases e:ixN ys.length i with
   |none=>rw[e]at q;cases q
   |some j=>
    rw[e]at q;have q:(ys[j]?).map (λy=>(y,ys.eraseIdx j))=zo (J,zs):=q
    cases G:ys[j]? with
    |none=>rw[G]at q;cases q
    |some y=>
     rw[G]at q;cases q;obtain⟨v,U,Y⟩:=z.get G;exact WM.of Qk1 ⟨a,vs,i,j,v,rfl,rfl,I,hi.1,hi.2,by rw[<- z.length];exact(Q83 e).1,U,k _ _ (z.eraseIdx j) Y⟩
  ·exact h.elim
 ·exact h.elim⟩
def Qx0:MF:=λst p ps=>match ps with
|[]=>chg st p λxs=>zo (.non,xs.reverse)
|_=>.stuck
def Q2p:MF:=λst p ps=>match ps with
|[]=>chg st p λ_=>zo (.non,[])
|_=>.stuck
def ms_clear:MtS X E "list.clear" Q2p:=⟨λH ρ st p ps x xs Q R z rs h=>by
 unfold Q2p at h
 split at h
 ·cases rs;obtain⟨a,ys,vs,G,zs,rfl,j,I,q,k⟩:=Q2u R z h;cases q;exact WM.of Qk2 ⟨a,vs,rfl,rfl,j,k _ _ rfl rfl⟩
 ·exact h.elim⟩
def Q5w (I:SimE X E o mo) (G:SimA X E [e] mr) (j:bB o "append" X.env (aM o X.env)=aM o X.env:=by rfl)
  (z:((aY cpos (aN [e] X.env)).all (λx=>!x.1)&&(backToKw cpos (keywordEach [] X.env)).all (λx=>x.1.isSome)&&decide ([e].length+([]:List Keyword).length+(if([]:List Keyword).isEmpty then 0 else 1)<30))=zb:=by rfl)
  (q:(apos.endLine==cpos.line)=zb:=by rfl) (hs:aN [e] X.env=(yo,aM e X.env)::aN [] X.env:=by rfl):SimE X E (.Call (.Attribute o "append" apos) [e] [] cpos) (mBM Jg mo mr):=
 Qxy dz PySem.F.slot_list_append PySem.F.type_list_append Qg6 I G j z q hs
end
section
mutual
def fz(n:Nat)(st:Q0):Nat->PV->Option PV
|0,_=>zl
|_+1,.non=>zo .non
|_+1,.bl b=>zo (.bl b)
|_+1,.int i=>zo (.int i)
|_+1,.str x=>zo (.str x)
|k+1,.tup xs=>(fzL n st k xs).map .tup
|k+1,.lst xs=>(fzL n st k xs).map .lst
|k+1,.fro xs=>(fzL n st k xs).map .fro
|_+1,.dic=>zo .dic
|k+1,.ref i=>if i<n then zo (.ref i)else match st[i]? with
  |some (.lst xs)=>(fzL n st k xs).map .lst
  |_=>zl
def fzL(n:Nat)(st:Q0):Nat->List PV->Option (List PV)
|_,[]=>zo []
|k,x::xs=>(fz n st k x).bind λy=>(fzL n st k xs).map (y :: ·)
end
def Q8a{st:Q0}:∀{m k:Nat}{p:PV},good m p=zb->m<k->fz n st k p=zo p:=by
 intro m
 induction m with
|zero=>
  intro k p g I;obtain⟨k,rfl⟩:∃j,k=j+1:=⟨k-1,by omega⟩;cases p with
  |tup _=>cases g
  |lst _=>cases g
  |fro _=>cases g
  |ref _=>cases g
  |dic=>cases g
  |_=>rw[fz]
|succ m G=>
  intro k p g I;obtain⟨k,rfl⟩:∃j,k=j+1:=⟨k-1,by omega⟩;have q:∀xs:List PV,xs.all (good m)=zb->fzL n st k xs=zo xs:=by
   intro xs
   induction xs with
   |nil=>intro _;rw[fzL]
   |cons x xs z=>
    intro g;rw[cP,F3]at g;rw[fzL,G g.1 (),z g.2];rfl
  cases p with
  |tup xs=>rw[fz,q xs g];rfl
  |lst xs=>rw[fz,q xs g];rfl
  |fro xs=>rw[fz,q xs g];rfl
  |ref _=>cases g
  |dic=>cases g
  |_=>rw[fz]
section
variable{H:Hp}{ρ:Tk}{st:Q0}{tr0 rest hs:List aB}
def Qmc(R:Rel H ρ st)(ht:ρ.tr=tr0++rest)(hh:∀a,a∈hs->a∈ρ.hid):∀k{p p':PV}{v:V},Rep H ρ p v->fz tr0.length st k p=zo p'->Rep H ⟨tr0,hs⟩ p' v:=by
 have J:∀a,a∉ρ->a∉(⟨tr0,hs⟩:Tk):=λa n z=>by
  rcases z with z|z
  ·exact n (.inl (by rw[ht];exact F7 _ z))
  ·exact n (.inr (hh a z))
 intro k
 induction k with
|zero=>intro p p' v r e;rw[fz]at e;cases e
|succ k ih=>
  have Z:∀{ps I:List PV}{vs:List V},RepL H ρ ps vs->fzL tr0.length st k ps=zo I->RepL H ⟨tr0,hs⟩ I vs:=by
   intro ps
   induction ps with
   |nil=>intro I vs r e;rw[fzL]at e;cases e;exact r
   |cons x xs a1=>
    intro I vs r e;obtain⟨v,t,rfl,r1,r2⟩:=r;rw[fzL]at e;cases G:fz tr0.length st k x with
    |none=>rw[G]at e;cases e
    |some y=>
     rw[G]at e;have e:(fzL tr0.length st k xs).map (y :: ·)=zo I:=e;cases q:fzL tr0.length st k xs with
     |none=>rw[q]at e;cases e
     |some ys=>
      rw[q]at e;cases e;exact⟨v,t,rfl,ih r1 G,a1 r2 q⟩
  intro p p' v r e;cases p with
  |non=>rw[fz]at e;cases e;exact r
  |bl b=>rw[fz]at e;cases e;exact r
  |int i=>rw[fz]at e;cases e;exact r
  |str x=>rw[fz]at e;cases e;exact r
  |tup xs=>
   rw[fz]at e;obtain⟨a,vs,G,S,O,Y⟩:=r;cases q:fzL tr0.length st k xs with
   |none=>rw[q]at e;cases e
   |some ys=>rw[q]at e;cases e;exact⟨a,vs,G,S,J a O,Z Y q⟩
  |lst xs=>
   rw[fz]at e;obtain⟨a,vs,G,S,O,Y⟩:=r;cases q:fzL tr0.length st k xs with
   |none=>rw[q]at e;cases e
   |some ys=>rw[q]at e;cases e;exact⟨a,vs,G,S,J a O,Z Y q⟩
  |fro xs=>
   rw[fz]at e;obtain⟨a,vs,G,S,O,Y⟩:=r;cases q:fzL tr0.length st k xs with
   |none=>rw[q]at e;cases e
   |some ys=>rw[q]at e;cases e;exact⟨a,vs,G,S,J a O,Z Y q⟩
  |dic=>
   rw[fz]at e;cases e;obtain⟨a,G,S,O⟩:=r;exact⟨a,G,S,J a O⟩
  |ref i=>
   rw[fz]at e;obtain⟨a,U,rfl⟩:=r
   by_cases hi:i<tr0.length
   ·rw[bU hi]at e;cases e;rw[ht,O7 hi]at U;exact⟨a,U,rfl⟩
   ·rw[bV hi]at e
    split at e
    ·rename_i xs a2;obtain⟨b,vs,f1,f2,f3⟩:=R.lst a2;rw[U]at f1;cases f1;cases q:fzL tr0.length st k xs with
     |none=>rw[q]at e;cases e
     |some ys=>
      rw[q]at e;cases e;refine⟨a,vs,rfl,f2,λz=>?_,Z f3 q⟩;rcases z with z|z
      ·have z:a∈tr0:=z;obtain⟨j,hj,ej⟩:=L8 z;have g1:ρ.tr[j]?=zo a:=by rw[ht,O7 hj,O2 hj,ej]
       have l1:=O0.mp g1;have l2:=O0.mp U;have:=Q63 R.nd l1.1 l2.1 (l1.2.trans l2.2.symm);omega
      ·exact R.ap a (hh a z) (E6 U)
    ·cases e
mutual
def bel(n:Nat):PV->Prop
|.tup xs=>belL n xs
|.lst xs=>belL n xs
|.fro xs=>belL n xs
|.ref i=>i<n
|_=>True
def belL(n:Nat):List PV->Prop
|[]=>True
|x::xs=>bel n x/\belL n xs
end
mutual
theorem Rep.bel:∀{p:PV}{v:V},Rep H ρ p v->bel ρ.tr.length p
|.non,_,_=>by simp[Sm.bel]
|.bl _,_,_=>by simp[Sm.bel]
|.int _,_,_=>by simp[Sm.bel]
|.str _,_,_=>by simp[Sm.bel]
|.tup ps,_,⟨_,_,_,_,_,r⟩=>by rw[Sm.bel];exact RepL.bel r
|.lst ps,_,⟨_,_,_,_,_,r⟩=>by rw[Sm.bel];exact RepL.bel r
|.fro ps,_,⟨_,_,_,_,_,r⟩=>by rw[Sm.bel];exact RepL.bel r
|.ref i,_,⟨_,e,_⟩=>by rw[Sm.bel];exact(O0.mp e).1
|.dic,_,_=>by simp[Sm.bel]
theorem RepL.bel:∀{ps:List PV}{vs:List V},RepL H ρ ps vs->belL ρ.tr.length ps
|[],_,_=>by simp[belL]
|p::ps,_,⟨_,_,_,j,q⟩=>by rw[belL];exact⟨Rep.bel j,RepL.bel q⟩
end
mutual
theorem Rep.less(j:ρ.tr=tr0++rest)(I:∀a,a∈hs->a∈ρ.hid):∀{p:PV}{v:V},Sm.bel tr0.length p->Rep H ρ p v->Rep H ⟨tr0,hs⟩ p v
|.non,_,_,r=>r
|.bl _,_,_,r=>r
|.int _,_,_,r=>r
|.str _,_,_,r=>r
|.tup ps,_,b,⟨a,vs,e,G,q,r⟩=>⟨a,vs,e,G,λz=>q (z.imp (λz=>by rw[j];exact F7 _ z) (I a)),RepL.less j I (by rw[Sm.bel]at b;exact b) r⟩
|.lst ps,_,b,⟨a,vs,e,G,q,r⟩=>⟨a,vs,e,G,λz=>q (z.imp (λz=>by rw[j];exact F7 _ z) (I a)),RepL.less j I (by rw[Sm.bel]at b;exact b) r⟩
|.fro ps,_,b,⟨a,vs,e,G,q,r⟩=>⟨a,vs,e,G,λz=>q (z.imp (λz=>by rw[j];exact F7 _ z) (I a)),RepL.less j I (by rw[Sm.bel]at b;exact b) r⟩
|.ref i,_,b,⟨a,e,J⟩=>⟨a,by rw[Sm.bel]at b;rw[j,O7 b]at e;exact e,J⟩
|.dic,_,_,⟨a,e,G,q⟩=>⟨a,e,G,λz=>q (z.imp (λz=>by rw[j];exact F7 _ z) (I a))⟩
theorem RepL.less(j:ρ.tr=tr0++rest)(q:∀a,a∈hs->a∈ρ.hid):∀{ps:List PV}{vs:List V},belL tr0.length ps->RepL H ρ ps vs->RepL H ⟨tr0,hs⟩ ps vs
|[],_,_,r=>r
|p::ps,_,b,⟨v,t,e,z,G⟩=>by
  rw[belL]at b;exact⟨v,t,e,Rep.less j q b.1 z,RepL.less j q b.2 G⟩
end
end
def Q9e{st:Q0}(R:Rel H ρ st)(x:Ext H ρ H' ρ')(Y:Rel H' ρ' st')(U:st<+:st'):Ext H ρ H' ρ/\Rel H' ρ st:=by
 obtain⟨rest,I⟩:=x.pre;obtain⟨more,hm⟩:=U;refine⟨⟨dY _,λ_ h=>h,λ_ h=>.inl h,x.keep,λ_ h=>.inl h,x.old,x.frz⟩,R.len,R.nd,λa S=>let ⟨o,e,n⟩:=R.hd a S;⟨o,x.keep a o e (R.ap a S),n⟩,R.ap,λi a c h1 h2=>?_⟩
 have hi:i<st.length:=(O0.mp h2).1;have q:=Y.cell i a c (by rw[<- I,O7 (O0.mp h1).1];exact h1) (by rw[<- hm,O7 hi];exact h2);have J:=R.cell i a c h1 h2;cases c with
|lst ps=>
  obtain⟨vs,z,j⟩:=q;obtain⟨O,_,G⟩:=J;exact⟨vs,z,RepL.less (ρ:=ρ') (tr0:=ρ.tr) (hs:=ρ.hid) I.symm x.hidM G.bel j⟩
|dic ps=>
  obtain⟨vs,z,j⟩:=q;obtain⟨O,_,G⟩:=J;exact⟨vs,z,j.1,RepL.less (ρ:=ρ') (tr0:=ρ.tr) (hs:=ρ.hid) I.symm x.hidM G.2.bel j.2⟩
|dtp ps=>
  obtain⟨vs,z,j⟩:=q;obtain⟨O,_,G⟩:=J;exact⟨vs,z,j.1,RepL.less (ρ:=ρ') (tr0:=ρ.tr) (hs:=ρ.hid) I.symm x.hidM G.2.bel j.2⟩
|frd ps=>
  obtain⟨vs,z,j⟩:=q;obtain⟨O,_,G⟩:=J;exact⟨vs,z,j.1,RepL.less (ρ:=ρ') (tr0:=ρ.tr) (hs:=ρ.hid) I.symm x.hidM G.2.bel j.2⟩
|frt ps=>
  obtain⟨vs,z,j⟩:=q;obtain⟨O,_,G⟩:=J;exact⟨vs,z,j.1,RepL.less (ρ:=ρ') (tr0:=ρ.tr) (hs:=ρ.hid) I.symm x.hidM G.2.bel j.2⟩
|obj C ps=>
  obtain⟨vs,z,j⟩:=q;obtain⟨O,_,G⟩:=J;exact⟨vs,z,j.1,RepL.less (ρ:=ρ') (tr0:=ρ.tr) (hs:=ρ.hid) I.symm x.hidM G.2.bel j.2⟩
abbrev FN:=List PV->Q0->Res PV
open Classical in
def fin(st:Q0)(v:PV)(st':Q0):Res PV:=if st<+:st' then okO st (fz st.length st' 16 v)else .ok v st'
open Classical in
def Qrv(st:Q0)(x:Exc)(st':Q0):Res PV:=if st<+:st' then(match x.fs with
|none=>.exc x st
|some (n,p)=>match fz st.length st' 16 p with
  |some q=>.exc ⟨x.cls,zo (n,q)⟩ st
  |none=>.stuck)else .exc x st'
def Jw(body:MS)(nl:Nat):FN:=λps st=>match body (ps.map zo++bh (nl-ps.length) zl) st with
|.rt v st'=>fin st v st'
|.nx _ st'=>fin st .non st'
|.exc x st'=>Qrv st x st'
|_=>.stuck
def Qej{st:Q0}{Q:VK}(R:Rel H ρ st)(h:Acc mg E H ρ (QV Q) (fin st p st')):∀v H' ρ',Ext H ρ H' ρ'->Rel H' ρ' st'->Rep H' ρ' p v->Q v H':=λv H' ρ' x j r=>by
 unfold fin at h
 by_cases z:st<+:st'
 ·rw[bU z]at h;cases e:fz st.length st' 16 p with
  |none=>rw[e]at h;exact h.elim
  |some q=>
   rw[e]at h;obtain⟨x2,R2⟩:=Q9e R x j z;obtain⟨rest,G⟩:=x.pre;rw[<- R.len]at e;exact h H' ρ x2 R2 v (Qmc (tr0:=ρ.tr) (hs:=ρ.hid) j G.symm x.hidM 16 r e)
 ·rw[bV z]at h;exact h H' ρ' x j v r
def spF(mg:zAE)(n:Nat)(F:FN):Sp:=λvs H Q E=>vs.length=n/\∃ρ st ps,Rel H ρ st/\RepL H ρ ps vs/\Acc mg E H ρ (QV Q) (F ps st)
def Q5t{ps:List PV}(r:RepL H ρ ps vs):EnvR H ρ (ps.map zo++bh (N.length-ps.length) zl) (L2.start N vs):=by
 have j:=r.length;unfold L2.start;refine⟨by simp[j],λi p e=>?_⟩
 by_cases hi:i<ps.length
 ·rw[O7 (by simpa using hi),D8]at e;rw[O7 (by simp;omega),D8];cases q:ps[i]? with
  |none=>rw[q]at e;cases e
  |some p'=>
   rw[q]at e;cases e;obtain⟨v,G,z⟩:=r.get q;exact⟨v,by rw[G];rfl,z⟩
 ·rw[E4 (by simpa using hi),fS]at e
  split at e<;>cases e
section
variable{P:aK}{w:aJ}{K:bZ}{mg:zAE}{base:Heap}
def Qw0{st:aL}{f:aB}{ps:List Str}{m:MS}(F:Fun K x qual st f fd)(S:FnScope N ps (Q9 st))(hb:∀J(A:aO)outer(s:aC)H E,Room k (A.deeper (eu qual (Q9 st) s.heap.objs.size f J))->SimB (cxD P w K mg base N qual (Q9 st) f J A outer s H E) E (Z7 st) m):
  FnOk P w K mg base (CXD P w) (k+1) f fd ps (spF mg ps.length (Jw m N.length)):=by
 refine Fun.okD F S (λvs H Q E h=>h.1) λJ A outer s H vs Q E hr a1=>⟨_,Q3i,?_⟩
 obtain⟨hl,ρ,I,Z,R,rl,j⟩:=a1;refine(hb J A outer s H E hr).run _ (L2.start N vs) H ρ I _ R (Q5t rl) ?_;unfold Jw at j;cases U:m (Z.map zo++bh (N.length-Z.length) zl) I with
|rt v G=>rw[U]at j;exact Qej R j
|nx Γ G=>rw[U]at j;exact λa2 H' ρ' O Y G'=>Qej R j .non H' ρ' O Y rfl
|bk Γ G=>rw[U]at j;exact j.elim
|ct Γ G=>rw[U]at j;exact j.elim
|stuck=>rw[U]at j;exact j.elim
|exc y G=>
  rw[U]at j;have j:Acc mg E H ρ (QV Q) (Qrv I y G):=j;intro C dv H' ρ' hm O Y hf;unfold Qrv at j
  by_cases hp:I<+:G
  ·rw[bU hp]at j;obtain⟨x2,R2⟩:=Q9e R O Y hp;obtain⟨cls,fs⟩:=y;cases fs with
   |none=>exact j C dv H' ρ hm x2 R2 hf
   |some np=>
    obtain⟨nm,p⟩:=np;simp only at j;cases e:fz I.length G 16 p with
    |none=>rw[e]at j;exact j.elim
    |some q=>
     rw[e]at j;obtain⟨rest,ht⟩:=O.pre;rw[<- R.len]at e;obtain⟨dx,v,e1,e2,e3,e4⟩:=hf;refine j C dv H' ρ hm x2 R2 ⟨dx,v,e1,e2,λz=>e3 (z.imp (λz=>by rw[<- ht];exact F7 _ z) (O.hidM dx)),Qmc (tr0:=ρ.tr) (hs:=ρ.hid) Y ht.symm O.hidM 16 e4 e⟩
  ·rw[bV hp]at j;exact j C dv H' ρ' hm O Y hf
end
def Qrq{K:bZ}{st:aL}{f:aB}{ps:List Str}{m:MS}(F:Fun K x qual st f fd)(S:FnScope N ps (Q9 st))(J:ps.length=n)(q:N.length=nl)(I:z=Jw m nl)(G:∀j(A:aO)outer(s:aC)H E,Room k (A.deeper (eu qual (Q9 st) s.heap.objs.size f j))->SimB (cxD P w K mg base N qual (Q9 st) f j A outer s H E) E (Z7 st) m):
  FnOk P w K mg base (CXD P w) (k+1) f fd ps (spF mg n z):=by
 subst J;subst q;subst I;exact Qw0 F S G
structure DefS(P:aK)(w:aJ)(K:bZ)(mg:zAE)(base:Heap)(k:Nat)(x:Str)(n:Nat)(F:FN):Prop where
ex:∃(f:aB)(fd:aP)(ps:List Str),FnOk P w K mg base (CXD P w) k f fd ps (spF mg n F)/\mg x=zo (.ref f)/\cL K (.ref f)=zb/\Binds K fd ps []/\ps.length=n
def Qa(n:Nat)(F:FN)(mr:Gam->Q0->Res (List PV)):ME:=λΓ st=>(mr Γ st).bind λps st1=>if ps.length=n then F ps st1 else .stuck
section
variable{X:Cx}{E:XK}{k n:Nat}{x:Str}{F:FN}{p pos:Pos}{e:aH}{es:List aH}{mr:Gam->Q0->Res (List PV)}
def Ym (D:DefS X.prog X.w X.K X.mg X.base k x n F) (Z:Room k X.A) (hx:Q55 (CXD X.prog X.w) X E) (hg:Gl X x) (U:SimA X E (e::es) mr) (q:(x==("__debug__":Str))=yo:=by decide)
  (he:aN (e::es) X.env=(yo,aM e X.env)::aN es X.env:=by rfl) (z:(aY pos (aN es X.env)).any (·.1)=yo:=by rfl):SimE X E (.Call (.Name x p) (e::es) [] pos) (Qa n F mr):=by
 obtain⟨f,fd,ps,S,hm,Y,hb,hl⟩:=D.ex;exact⟨λΓ σ H ρ st Q R G h=>WE.of (Qdu S Z hg hm Y hb .nil hx Q3s q he z) (U.use R G h.bind λO I H1 ρ1 vs x1 R1 G1 J h1=>by
  by_cases j:O.length=n
  ·rw[bU j]at h1;show spF X.mg n F (vs++[]) H1 Q E;rw[G9];exact⟨by rw[<- J.length];exact j,ρ1,I,O,R1,J,h1⟩
  ·rw[bV j]at h1;exact h1.elim)⟩
end
end
@[simp] theorem Qy{α β:Type}a st(f:α->Q0->Res β):(Res.ok a st).bind f=f a st:=rfl
@[simp] theorem Qwf{α β:Type}(f:α->Q0->Res β):(Res.stuck:Res α).bind f=.stuck:=rfl
@[simp] theorem J08{α β:Type}x st(f:α->Q0->Res β):(Res.exc x st:Res α).bind f=.exc x st:=rfl
@[simp] theorem xt{α:Type}a st(f:α->Q0->SR):(Res.ok a st).sbind f=f a st:=rfl
@[simp] theorem Qsr{α:Type}(f:α->Q0->SR):(Res.stuck:Res α).sbind f=.stuck:=rfl
@[simp] theorem Qww{α:Type}x st(f:α->Q0->SR):(Res.exc x st:Res α).sbind f=.exc x st:=rfl
@[simp] theorem J0w i Γ st:Q2 i Γ st=(match Γ[i]? with|some (zo p)=>.ok p st|_=>.stuck):=rfl
@[simp] theorem J2i p Γ st:mC p Γ st=.ok p st:=rfl
@[simp] theorem Qvc(o:OP)(a b:ME)Γ st:mOp o a b Γ st=(a Γ st).bind λx q=>(b Γ q).bind λy j=>o j x y:=rfl
@[simp] theorem J2c b st:asB (.bl b) st=.ok b st:=rfl
@[simp] theorem Qtd(m:ME)Γ st:toB m Γ st=(m Γ st).bind asB:=rfl
def Qpe{α:Type}(x:PV)(A B:Res α):Res α:=match x with
|.bl zb=>A
|.bl yo=>B
|_=>.stuck
@[simp] theorem J0h{α:Type}(b:Bool)(A B:Res α):Qpe (.bl b) A B=if b=zb then A else B:=by cases b<;>rfl
@[simp] theorem Qx3(o o':OP)(a b c:ME)Γ st:qb o o' a b c Γ st=(a Γ st).bind λx q=>(b Γ q).bind λy G=>(o G x y).bind λk j=>Qpe k ((c Γ j).bind λz I=>o' I y z) (.ok (.bl yo) j):=by
 unfold qb;refine congrArg _ (funext λx=>funext λq=>congrArg _ (funext λy=>funext λG=>congrArg _ (funext λk=>funext λj=>?_)))
 cases k with
|bl b=>cases b<;>rfl
|_=>rfl
@[simp] theorem Qe7(a b:ME)Γ st:yz a b Γ st=(a Γ st).bind λx j=>Qpe x (b Γ j) (.ok (.bl yo) j):=by
 unfold yz;refine congrArg _ (funext λx=>funext λj=>?_);cases x with
|bl b=>cases b<;>rfl
|_=>rfl
@[simp] theorem Qvb(a b:ME)Γ st:mOr a b Γ st=(a Γ st).bind λx j=>Qpe x (.ok (.bl zb) j) (b Γ j):=by
 unfold mOr;refine congrArg _ (funext λx=>funext λj=>?_);cases x with
|bl b=>cases b<;>rfl
|_=>rfl
@[simp] theorem J0x(a:ME)Γ st:Qvd a Γ st=(a Γ st).bind λx j=>(match x with|.bl k=>.ok (.bl (!k)) j|_=>.stuck):=rfl
@[simp] theorem Q8w(a b:MT)Γ st:qw a b Γ st=(a Γ st).bind λk j=>if k=zb then b Γ j else .ok yo j:=rfl
@[simp] theorem Qdf(a b:MT)Γ st:Kr a b Γ st=(a Γ st).bind λk j=>if k=zb then .ok zb j else b Γ j:=rfl
@[simp] theorem Qhm(a:MT)Γ st:Zx a Γ st=(a Γ st).bind λk j=>.ok (!k) j:=rfl
@[simp] theorem J0y Γ st:Q6 Γ st=.ok [] st:=rfl
@[simp] theorem Qk7(m:ME)(mr:ML)Γ st:Q1 m mr Γ st=(m Γ st).bind λp q=>(mr Γ q).bind λps j=>.ok (p::ps) j:=rfl
@[simp] theorem Qqw(mr:ML)Γ st:Yr mr Γ st=(mr Γ st).bind λps j=>if ps.length<=lim then .ok (.tup ps) j else .stuck:=rfl
@[simp] theorem J0z(mr:ML)Γ st:yy mr Γ st=(mr Γ st).bind λps j=>if ps.length<=lim then .ok (.lst ps) j else .stuck:=rfl
@[simp] theorem Qz4(mr:ML)Γ st:qk mr Γ st=(mr Γ st).bind λps j=>if ps.length<=lim then .ok ps j else .stuck:=rfl
@[simp] theorem J22(m:ME)(l h:Gam->Q0->Res (Option Int))Γ st:mSl m l h Γ st=(m Γ st).bind λp z=>(l Γ z).bind λlo q=>(h Γ q).bind λhi j=>oSl j p lo hi:=rfl
@[simp] theorem Qve Γ st:zg Γ st=.ok zl st:=rfl
@[simp] theorem Qz2(m:ME)Γ st:Q1u m Γ st=(m Γ st).bind λp j=>(match p with|.int i=>.ok (zo i) j|_=>.stuck):=rfl
@[simp] theorem Qk8(o:CF)(mr:ML)Γ st:Qx o mr Γ st=(mr Γ st).bind λps j=>o j ps:=rfl
@[simp] theorem J11 T(m:ME)Γ st:jj T m Γ st=(m Γ st).bind λp j=>if Xc j p=zb then .stuck else .ok (.bl (isI T (dpv j p))) j:=rfl
@[simp] theorem Qzr st:Xc st .non=yo:=rfl
@[simp] theorem J13 st b:Xc st (.bl b)=yo:=rfl
@[simp] theorem Qzt st b:Xc st (.int b)=yo:=rfl
@[simp] theorem Qzp st b:Xc st (.str b)=yo:=rfl
@[simp] theorem Qzn st b:Xc st (.tup b)=yo:=rfl
@[simp] theorem Qzs st b:Xc st (.lst b)=yo:=rfl
@[simp] theorem Qzu st b:Xc st (.fro b)=yo:=rfl
@[simp] theorem Qzv st:Xc st .dic=yo:=rfl
@[simp] theorem Qzq st i:Xc st (.ref i)=(match st[i]? with|some (.frd _)=>zb|some (.frt _)=>zb|some (.obj _ _)=>zb|_=>yo):=rfl
@[simp] theorem J18 st:dpv st .non=.non:=rfl
@[simp] theorem J29 st b:dpv st (.bl b)=(.bl b):=rfl
@[simp] theorem J1a st b:dpv st (.int b)=(.int b):=rfl
@[simp] theorem J17 st b:dpv st (.str b)=(.str b):=rfl
@[simp] theorem J16 st b:dpv st (.tup b)=(.tup b):=rfl
@[simp] theorem J19 st b:dpv st (.lst b)=(.lst b):=rfl
@[simp] theorem J1b st b:dpv st (.fro b)=(.fro b):=rfl
@[simp] theorem J28 st:dpv st .dic=.dic:=rfl
@[simp] theorem J2j st i:dpv st (.ref i)=(match st[i]? with|some (.dic _)=>.dic|some (.dtp _)=>.dic|_=>.ref i):=rfl
@[simp] theorem Qqv(m:ML)Γ st:V1 m Γ st=(m Γ st).bind λps j=>.ok (.lst ps) j:=rfl
@[simp] theorem Qqx(m:ML)Γ st:qu m Γ st=(m Γ st).bind λps j=>.ok (.ref j.length) (j++[.lst ps]):=rfl
@[simp] theorem Qga cap ga(mi:MI)mt me Γ st:Ja cap ga mi mt me Γ st=(mi Γ st).bind λq j=>noX (Zt ga mt me q.2 (Wp cap Γ) q.1 j):=rfl
@[simp] theorem Qz0 Γ st:Ya Γ st=.ok zb st:=rfl
@[simp] theorem Qgb n F(mr:ML)Γ st:Qa n F mr Γ st=(mr Γ st).bind λps j=>if ps.length=n then F ps j else .stuck:=rfl
@[simp] theorem Qz3 Γ st:J3 Γ st=.nx Γ st:=rfl
@[simp] theorem Q0b(a b:MS)Γ st:Qd a b Γ st=(match a Γ st with|.nx j q=>b j q|r=>r):=rfl
@[simp] theorem Qa8(m:ME)Γ st:Xi m Γ st=(m Γ st).sbind λ_ j=>.nx Γ j:=rfl
@[simp] theorem Qr0(m:ME)Γ st:J2 m Γ st=(m Γ st).sbind λp j=>.rt p j:=rfl
@[simp] theorem Qqy i(m:ME)(Γ:Gam)st:J1 i m Γ st=(m Γ st).sbind λp j=>.nx (Γ.set i (zo p)) j:=rfl
@[simp] theorem Qe6(c:MT)a b Γ st:Jm c a b Γ st=(c Γ st).sbind λk j=>if k=zb then a Γ j else b Γ j:=rfl
@[simp] theorem Qr2 ga(mi:MI)b Γ st:U7 ga mi b Γ st=(mi Γ st).sbind λq j=>Jv ga b q.2 q.1 Γ j:=rfl
@[simp] theorem Qqz(m:ME)Γ st:W1 m Γ st=(m Γ st).bind λp j=>(match Ve j p with|some (xs,w)=>if xs.length<=lim then .ok (xs,w) j else .stuck|none=>.stuck):=rfl
@[simp] theorem Q46(mr:ML)Γ st:Zm mr Γ st=(mr Γ st).bind λps q=>(match ps with|[.int j]=>if -(lim:Int)<=j/\j<=lim then .ok (Vq 0 j.toNat,[]) q else .stuck|_=>.stuck):=rfl
@[simp] theorem Qz5(mr:ML)Γ st:Qa9 mr Γ st=(mr Γ st).bind λps j=>(match ps with|[p]=>(match Ve j p with|some (xs,w)=>if xs.length<=lim then .ok (Us 0 xs,w) j else .stuck|none=>.stuck)|_=>.stuck):=rfl
@[simp] theorem Qk9(f:MF)(mo:ME)(mr:ML)Γ st:mBM f mo mr Γ st=(mo Γ st).bind λp j=>(match V2 j p with|some _=>(mr Γ j).bind λps q=>f q p ps|none=>.stuck):=rfl
@[simp] theorem Qr3 ga(m:ME)Γ st:Qka ga m Γ st=(m Γ st).sbind λp q=>(match ga p Γ with|some j=>.nx j q|none=>.stuck):=rfl
@[simp] theorem Qg9(mo mi m:ME)Γ st:ji mo mi m Γ st=(m Γ st).sbind λp G=>(mo Γ G).sbind λo z=>(mi Γ z).sbind λi q=>(match qi q o i p with|some j=>.nx Γ j|none=>.stuck):=rfl
@[simp] theorem Qx1 x(m:ME)Γ st:Q47 x m Γ st=(m Γ st).sbind λ_ j=>.exc ⟨x,zl⟩ j:=rfl
@[simp] theorem Qx5 i p(Γ:Gam):Qb i p Γ=zo (Γ.set i (zo p)):=rfl
@[simp] theorem Qzj Γ:Q4p [] Γ=zo Γ:=rfl
@[simp] theorem Qx6(g:GA)(gs:GAs)p r Γ:Vt g gs (p::r) Γ=(g p Γ).bind (gs r):=rfl
@[simp] theorem Qzi(gs:GAs)ps Γ:Q4n gs (.tup ps) Γ=gs ps Γ:=rfl
@[simp] theorem J20{α:Type}(a:α)(st:Q0):noX (Res.ok a st)=.ok a st:=rfl
@[simp] theorem Qwz{α:Type}:noX (Res.stuck:Res α)=.stuck:=rfl
@[simp] theorem Q9u{α:Type}(st:Q0)(a:α):okO st (zo a)=.ok a st:=rfl
@[simp] theorem Qyn{α:Type}st:okO st (zl:Option α)=.stuck:=rfl
@[simp] theorem J2h(g:Int->Int->PV)st a b:oI g st (.int a) (.int b)=.ok (g a b) st:=rfl
@[simp] theorem Qyv st a b:Zu st (.int a) (.int b)=.ok (.int (a+b)) st:=rfl
@[simp] theorem Qyu st(a b:List PV):Zu st (.tup a) (.tup b)=if a.length+b.length<=lim then .ok (.tup (a++b)) st else .stuck:=rfl
@[simp] theorem Qyr st a b:jb st (.int a) (.int b)=if(-(2^64)<a/\a<2^64)\/(-(2^64)<b/\b<2^64)then .ok (.int (a*b)) st else .stuck:=rfl
@[simp] theorem Qyq st(xs:List PV)(b:Int):jb st (.tup xs) (.int b)=if xs≠[]/\1<=b/\xs.length*b.toNat<=4096 then .ok (.tup (bh b.toNat xs).flatten) st else .stuck:=rfl
@[simp] theorem Qys st a b:yw st (.int a) (.int b)=if 0<b then .ok (.int (a%b)) st else .stuck:=rfl
@[simp] theorem Qyp st(a b:Int):Qg1 st (.int a) (.int b)=if 0<=b/\b<=1000000/\a.natAbs<2^64 then .ok (.int (a^b.toNat)) st else .stuck:=rfl
@[simp] theorem J0p st a b:oLt st (.int a) (.int b)=.ok (.bl (decide (a<b))) st:=rfl
@[simp] theorem J0v st a b:oEq st (.int a) (.int b)=.ok (.bl (a==b)) st:=rfl
@[simp] theorem J0n st a b:oNe st (.int a) (.int b)=.ok (.bl (!(a==b))) st:=rfl
@[simp] theorem J1z st a b:oEq st (.bl a) (.bl b)=.ok (.bl (a==b)) st:=rfl
@[simp] theorem J1x st a b:oNe st (.bl a) (.bl b)=.ok (.bl (!(a==b))) st:=rfl
@[simp] theorem J0u st a b:oEq st (.str a) (.str b)=.ok (.bl (a==b)) st:=rfl
@[simp] theorem J0m st a b:oNe st (.str a) (.str b)=.ok (.bl (!(a==b))) st:=rfl
@[simp] theorem J0t st p:oIs st p .non=.ok (.bl (Qah p)) st:=rfl
@[simp] theorem J1y st a b:oIs st (.bl a) (.bl b)=.ok (.bl (a==b)) st:=rfl
@[simp] theorem Qv3 st p:K0 st p .non=.ok (.bl (!Qah p)) st:=rfl
@[simp] theorem Qwx st a b:K0 st (.bl a) (.bl b)=.ok (.bl (a !=b)) st:=rfl
@[simp] theorem Qx4 st xs:Vf st (.lst xs)=zo xs:=rfl
@[simp] theorem Qvi st xs:V2 st (.lst xs)=zo xs:=rfl
@[simp] theorem Qvj st xs:V2 st (.fro xs)=zo xs:=rfl
@[simp] theorem Q5u st xs:Wv st (.lst xs)=zo xs:=rfl
@[simp] theorem Qwv st xs:Wv st (.fro xs)=zo xs:=rfl
@[simp] theorem Qfe st xs:Wv st (.tup xs)=zo xs:=rfl
@[simp] theorem Qwt st xs:Ve st (.lst xs)=zo (xs,[]):=rfl
@[simp] theorem Qwu st xs:Ve st (.fro xs)=zo (xs,[]):=rfl
@[simp] theorem Qws st xs:Ve st (.tup xs)=zo (xs,[]):=rfl
def Q67{st:Q0}(h:st[i]?=zo (.lst xs)):Vf st (.ref i)=zo xs:=by simp only[Vf,h]
@[simp] theorem J0q st xs i:oIx st (.tup xs) (.int i)=okO st (atI xs i):=rfl
@[simp] theorem J0r st xs i:oIx st (.lst xs) (.int i)=okO st (atI xs i):=rfl
@[simp] theorem J0s st xs i:oIx st (.fro xs) (.int i)=okO st (atI xs i):=rfl
@[simp] theorem J0i st xs l h:oSl st (.tup xs) l h=.ok (.tup (cut xs l h)) st:=rfl
@[simp] theorem J0j st xs l h:oSl st (.lst xs) l h=.ok (.lst (cut xs l h)) st:=rfl
@[simp] theorem J0k st xs l h:oSl st (.fro xs) l h=.ok (.lst (cut xs l h)) st:=rfl
@[simp] theorem J04 st(xs:List PV):Yc st [.tup xs]=.ok (.int xs.length) st:=rfl
@[simp] theorem Qmz st(xs:List PV):Yc st [.lst xs]=.ok (.int xs.length) st:=rfl
@[simp] theorem J05 st(xs:List PV):Yc st [.fro xs]=.ok (.int xs.length) st:=rfl
@[simp] theorem Qwc st xs:Wh st [.tup xs]=.ok (.tup xs) st:=rfl
@[simp] theorem Qwd st xs:Wh st [.lst xs]=.ok (.tup xs) st:=rfl
@[simp] theorem Qn0(g:List Bool->PV)st(bs:List Bool):jw g st [.lst (bs.map .bl)]=.ok (g bs) st:=by
 simp only[jw,Q5u,eA,Qeu]
@[simp] theorem Qh4(g:List Int->Option PV)st(ns:List Int):yk g st [.lst (ns.map .int)]=okO st (g ns):=by
 simp only[yk,Q5u,eA,Q4j]
@[simp] theorem Qx7(g:List Int->Option PV)st(ns:List Int):yk g st [.tup (ns.map .int)]=okO st (g ns):=by
 simp only[yk,Qfe,eA,Q4j]
@[simp] theorem J03 st a b:J2b st [.int a,.int b]=.ok (.int (if b>a then b else a)) st:=rfl
@[simp] theorem J02 st a b:Qh3 st [.int a,.int b]=.ok (.int (if b<a then b else a)) st:=rfl
@[simp] theorem Qxb st:wOk [] st=True:=by simp[wOk]
@[simp] theorem Zn(st:Q0)(b:Bool):fin st (.bl b) st=.ok (.bl b) st:=by simp[fin,fz]
@[simp] theorem J15(st:Q0)(b:Int):fin st (.int b) st=.ok (.int b) st:=by simp[fin,fz]
@[simp] theorem Qru(st:Q0):fin st .non st=.ok .non st:=by simp[fin,fz]
@[simp] theorem J14(st:Q0)(b:Str):fin st (.str b) st=.ok (.str b) st:=by simp[fin,fz]
def Kk{st:Q0}{v:PV}(g:good 12 v=zb):fin st v st=.ok v st:=by
 simp only[fin,List.prefix_rfl,if_true,Q8a g (by decide:12<16),Q9u]
def Qgs{st more:Q0}{v:PV}(g:good 12 v=zb):fin st v (st++more)=.ok v st:=by
 simp only[fin,dw,if_true,Q8a g (by decide:12<16),Q9u]
def Q1e:lim=1000000:=rfl
def jv{α:Type}(g f:α->PV){st:Q0}(G:wOk w st){ys:List α}(h:∀y∈ys,∃j,ga (g y) Γ0=zo j/\me j st=.ok (f y) st):Zt ga Ya me w Γ0 (ys.map g) st=.ok (ys.map f) st:=by
 induction ys with
|nil=>simp[Zt,G]
|cons y ys q=>
  obtain⟨j,h1,h2⟩:=h y E7;have q:=q λz hz=>h z (O3 _ hz)
  rw[D3,Zt,bU G,h1];simp[h2,q]
def zu{α:Type}(g f:α->PV)(t:α->Bool){mt:MT}{st:Q0}(I:wOk w st){ys:List α}(h:∀y∈ys,∃j,ga (g y) Γ0=zo j/\mt j st=.ok (t y) st/\(t y=zb->me j st=.ok (f y) st)):Zt ga mt me w Γ0 (ys.map g) st=.ok ((ys.filter t).map f) st:=by
 induction ys with
|nil=>simp[Zt,I]
|cons y ys q=>
  obtain⟨j,h1,h2,J⟩:=h y E7;have q:=q λz hz=>h z (O3 _ hz)
  rw[D3,Zt,bU I,h1];simp only[h2,Qy,q];cases G:t y with
  |true=>simp[J G,G,q]
  |false=>simp[G]
@[simp] theorem J06{α:Type}(g:List Bool->PV)st(ys:List α)(b:α->Bool):jw g st [.lst (ys.map λy=>.bl (b y))]=.ok (g (ys.map b)) st:=by
 rw[show(ys.map λy=>PV.bl (b y))=(ys.map b).map .bl by rw[L4];rfl,Qn0]
@[simp] theorem Qx8{α:Type}(g:List Int->Option PV)st(ys:List α)(b:α->Int):yk g st [.lst (ys.map λy=>.int (b y))]=okO st (g (ys.map b)):=by
 rw[show(ys.map λy=>PV.int (b y))=(ys.map b).map .int by rw[L4];rfl,Qh4]
def Q4r{α:Type}(g:α->PV){xs:List α}(I:Nat->Gam->Q0->Prop){body:MS}(O:∀i Γ st,I i Γ st->wOk w st)(h:∀i x Γ st,xs[i]?=zo x->I i Γ st->∃G,ga (g x) Γ=zo G/\∃q J,body G st=.nx q J/\I (i+1) q J){st:Q0}(h0:I 0 Γ st):∃j st',Jv ga body w (xs.map g) Γ st=.nx j st'/\I xs.length j st':=by
 induction xs generalizing I Γ st with
|nil=>exact⟨Γ,st,by simp[Jv,O 0 Γ st h0],h0⟩
|cons x xs ih=>
  obtain⟨G,h1,q,J,Y,S⟩:=h 0 x Γ st rfl h0;obtain⟨j,st',e3,Z⟩:=ih (λi=>I (i+1)) (λi Γ st z=>O (i+1) Γ st z) (λi y Γ st U z=>h (i+1) y Γ st (by simpa using U) z) S
  refine⟨j,st',?_,Z⟩;rw[D3,Jv,bU (O 0 Γ st h0),h1];simp only[Y];exact e3
def Qsb{α:Type}(f:α->PV)(xs:List α)i:atI (xs.map f) i=(atI xs i).map f:=by
 unfold atI;rw[O1];cases ixN xs.length i with
|none=>rfl
|some j=>simp[D8]
def atI_get{α:Type}{xs:List α}{i:Nat}{x:α}(h:xs[i]?=zo x):atI xs (i:Int)=zo x:=by
 have j:=(O0.mp h).1;unfold atI ixN;rw[bU (),bU ()];simpa using h
@[simp] theorem J1e{α:Type}(st l:List α)c:(st++c::l)[st.length]?=zo c:=by
 rw[E4 (O6 _),cE];rfl
@[simp] theorem J0e{α:Type}(st l:List α)c d:(st++c::d::l)[st.length+1]?=zo d:=by
 rw[E4 ()];rw[show st.length+1-st.length=1 by omega];rfl
@[simp] theorem J1d{α:Type}(st l:List α)c d:(st++c::l).set st.length d=st++d::l:=by
 rw[fA _ _ (O6 _),cE];rfl
@[simp] theorem J0d{α:Type}(st l:List α)c j d:(st++c::j::l).set (st.length+1) d=st++c::d::l:=by
 rw[fA _ _ (),show st.length+1-st.length=1 by omega];rfl
@[simp] theorem J1c(st:Q0)i(g:List PV->Option (PV×List PV)):chg st (.ref i) g=(match st[i]? with|some (.lst xs)=>(match g xs with|some (r,ys)=>.ok r (st.set i (.lst ys))|none=>.stuck)|_=>.stuck):=rfl
@[simp] theorem J12 st i:Vf st (.ref i)=(match st[i]? with|some (.lst xs)=>zo xs|_=>zl):=rfl
@[simp] theorem Qz9 st i:V2 st (.ref i)=(match st[i]? with|some (.lst xs)=>zo xs|_=>zl):=rfl
@[simp] theorem Q73 st i:Wv st (.ref i)=(match st[i]? with|some (.lst xs)=>zo xs|_=>zl):=rfl
@[simp] theorem J0f st i:Ve st (.ref i)=(match st[i]? with|some (.lst xs)=>zo (xs,[(i,.lst xs)])|_=>zl):=rfl
@[simp] theorem Qt3 st p y:Jg st p [y]=chg st p λxs=>if xs.length<lim then zo (.non,xs++[y])else zl:=rfl
@[simp] theorem J01 st i:Wh st [.ref i]=(match st[i]? with|some (.lst xs)=>.ok (.tup xs) st|_=>.stuck):=by
 unfold Wh;simp only[Q73];cases st[i]? with
|none=>rfl
|some c=>cases c<;>rfl
@[simp] theorem Qwe st i:Yc st [.ref i]=(match st[i]? with|some (.lst xs)=>.ok (.int xs.length) st|_=>.stuck):=by
 unfold Yc;simp only[Q73];cases st[i]? with
|none=>rfl
|some c=>cases c<;>rfl
@[simp] theorem Qyt st i j:oIx st (.ref i) (.int j)=(match st[i]? with|some (.lst xs)=>okO st (atI xs j)|_=>.stuck):=by
 unfold oIx;simp only[Q73];cases st[i]? with
|none=>rfl
|some c=>cases c<;>rfl
@[simp] theorem J0g(st:Q0)k j p:qi st (.ref k) (.int j) p=(match st[k]? with|some (.lst xs)=>(ixN xs.length j).map λn=>st.set k (.lst (xs.set n p))|_=>zl):=rfl
def Qgw{α:Type}(xs:List α)(k:Nat):cut xs zl (zo (k:Int))=xs.take k:=by
 unfold cut;rw[HT.sIx_none,HT.sIx_nat,eZ,jQ];rcases fZ k xs.length with h|h
 ·rw[eJ h]
 ·rw[fb h,dq,jV h]
def Qmt{α:Type}(xs:List α)(k:Nat):cut xs (zo (k:Int)) zl=xs.drop k:=by
 unfold cut;rw[HT.sIx_none,HT.sIx_nat];rcases fZ k xs.length with h|h
 ·rw[eJ h,jV (by rw[cx];omega)]
 ·rw[fb h,gN,List.drop_of_length_le h];simp
def Qgp{α:Type}{l:List α}(h:j<l.length)d:l[j]?=zo (l.getD j d):=by
 rw[dO,O2 h];rfl
def ListAt(st:Q0)(V:PV)(xs:List PV):Prop:=V=.lst xs\/V=.fro xs\/∃i,V=.ref i/\st[i]?=zo (.lst xs)
def ListAt.ix{st:Q0}{V:PV}(h:ListAt st V xs)j:oIx st V (.int j)=okO st (atI xs j):=by
 rcases h with rfl|rfl|⟨i,rfl,e⟩
 ·rfl
 ·rfl
 ·rw[Qyt,e]
def zw{α:Type}(g:α->PV){xs:List α}(I:Nat->List PV->Q0->Prop)(O:∀i j st,I i j st->wOk w st)(h:∀i x j st,xs[i]?=zo x->I i j st->∃z,ga (g x) Γ0=zo z/\∃v q,me z st=.ok v q/\I (i+1) (j++[v]) q){st:Q0}(h0:I 0 [] st):∃j st',Zt ga Ya me w Γ0 (xs.map g) st=.ok j st'/\I xs.length j st':=by
 have J:∀(ys:List α)(k:Nat)(pre:List PV)(st:Q0),(∀i,ys[i]?=xs[k+i]?)->k+ys.length=xs.length->I k pre st->∃j st',Zt ga Ya me w Γ0 (ys.map g) st=.ok j st'/\I xs.length (pre++j) st':=by
  intro ys
  induction ys with
  |nil=>
   intro k pre st e G i;refine⟨[],st,by simp[Zt,O k pre st i],?_⟩;rw[G9,<- G];exact i
  |cons y ys Z=>
   intro k pre st e G i;have U:xs[k]?=zo y:=by have:=e 0;simpa using this.symm
   obtain⟨z,h1,v,q,h2,S⟩:=h k y pre st U i;obtain⟨j,st',h3,Y⟩:=Z (k+1) (pre++[v]) q (λi=>by
    have:=e (i+1);rw[eX]at this;rw[this];congr 1;omega) (by rw[<- G,D6];omega) S
   refine⟨v::j,st',?_,by simpa using Y⟩;rw[D3,Zt,bU (O k pre st i),h1];simp[Ya,h2,h3]
 obtain⟨j,st',h1,h2⟩:=J xs 0 [] st (λi=>by simp) (by simp) h0;exact⟨j,st',h1,by simpa using h2⟩
@[simp] theorem Qx2(ma:ME)Γ st:Q7t ma Γ st=(ma Γ st).bind λp j=>match Wv j p with|some xs=>.ok xs j|none=>.stuck:=rfl
@[simp] theorem Qz7(ma mb:ME)Γ st:Q65 ma mb Γ st=(ma Γ st).bind λx q=>(mb Γ q).bind λy j=>Q62 j x y:=rfl
def Qri(h:k<n):ixN n (k:Int)=zo k:=by
 unfold ixN;rw[bU (),bU ()];simp
variable{a b:aH}{ma mb:ME}
def Qn3:aX "set"=zo (.type "set"):=by decide +kernel
def Yw(body:MS)(nl:Nat):FN:=λps st=>match body (ps.map zo++bh (nl-ps.length) zl) st with
|.rt v st'=>.ok v st'
|.nx _ st'=>.ok .non st'
|.exc x st'=>.exc x st'
|_=>.stuck
variable{P:aK}{K:bZ}{base:Heap}
section
variable{w:aJ}
def Qrp{st:aL}{f:aB}{ps:List Str}{m:MS}(F:Fun K x qual st f fd)(S:FnScope N ps (Q9 st))(hb:∀q(A:aO)outer(s:aC)H E,Room k (A.deeper (eu qual (Q9 st) s.heap.objs.size f q))->SimB (cxD P w K mg base N qual (Q9 st) f q A outer s H E) E (Z7 st) m):
  FnOk P w K mg base (CXD P w) (k+1) f fd ps (spF mg ps.length (Yw m N.length)):=by
 refine Fun.okD F S (λvs H Q E h=>h.1) λq A outer s H vs Q E Y U=>⟨_,Q3i,?_⟩
 obtain⟨hl,ρ,I,J,R,Z,j⟩:=U;refine(hb q A outer s H E Y).run _ (L2.start N vs) H ρ I _ R (Q5t Z) ?_;unfold Yw at j;cases G:m (J.map zo++bh (N.length-J.length) zl) I with
|rt v z=>rw[G]at j;exact λv H' ρ' x O r=>j H' ρ' x O v r
|nx Γ z=>rw[G]at j;exact λa1 H' ρ' x' O G'=>j H' ρ' x' O .non rfl
|bk Γ z=>rw[G]at j;exact j.elim
|ct Γ z=>rw[G]at j;exact j.elim
|stuck=>rw[G]at j;exact j.elim
|exc y z=>rw[G]at j;exact j
end
def Q4q{K:bZ}{st:aL}{f:aB}{ps:List Str}{m:MS}(F:Fun K x qual st f fd)(S:FnScope N ps (Q9 st))(J:ps.length=n)(q:N.length=nl)(I:z=Yw m nl)(G:∀j(A:aO)outer(s:aC)H E,Room k (A.deeper (eu qual (Q9 st) s.heap.objs.size f j))->SimB (cxD P w K mg base N qual (Q9 st) f j A outer s H E) E (Z7 st) m):
  FnOk P w K mg base (CXD P w) (k+1) f fd ps (spF mg n z):=by
 subst J;subst q;subst I;exact Qrp F S G
def xw{A:aO}(r:Room k A):A.units+9<aS:=by have:=r.un;omega
def Qh5:aX "dict"=zo (.type "dict"):=by decide +kernel
end Sm
namespace Sm
open PySem PySem.Spec PyProof.Rows L2
variable{X:Cx}{E:XK}
def Qjw:OpR X (aZ .FloorDiv) (rI (λ_ j=>0<j/\j<1267650600228229401496703205376) λi j=>.int (i/j)):=opI λi j _ _ _ _ _ z q=>by
 have h1:(0:Int)<j:=z.1;have h2:j<1267650600228229401496703205376:=z.2;refine floordiv_int () (by rw[Int.fdiv_eq_ediv_of_nonneg i ()];exact q) (.inl (PyProof.noPylong_of_log2 ?_));have:j.natAbs.log2<100:=(Nat.log2_lt ()).mpr (by
  rw[show(2:Nat)^100=1267650600228229401496703205376 by decide];omega)
 omega
def Q9v:OP:=λst p q=>match p,q with
|.int a,.int b=>if 0<b/\b<1267650600228229401496703205376 then .ok (.int (a/b)) st else .stuck
|_,_=>.stuck
def Qqe:OpS X E (aZ .FloorDiv) Q9v:=⟨λH ρ st p q x y Q R G z h=>by
 unfold Q9v at h
 split at h
 ·cases G;cases z
  split at h
  ·rename_i j;exact WO.of Qjw ⟨_,_,rfl,rfl,j,now R h rfl⟩
  ·exact h.elim
 ·exact h.elim⟩
@[simp] theorem Qwy st a b:Q9v st (.int a) (.int b)=if 0<b/\b<1267650600228229401496703205376 then .ok (.int (a/b)) st else .stuck:=rfl
end Sm
namespace Sm
open PySem PySem.Spec L2
def Qb2:aX "sorted"=zo (.builtin "sorted"):=by decide +kernel
def W0(f:PV->Option HK):List PV->Option (List HK)
|[]=>zo []
|p::ps=>match f p,W0 f ps with
  |some k,zo l=>zo (k::l)
  |_,_=>zl
def Uv:Nat->PV->Option HK
|_,.int i=>zo (.int i)
|_,.str x=>zo (.str x)
|d+1,.tup ps=>(W0 (Uv d) ps).map .tup
|_,_=>zl
def Qm2:∀d{p:PV}{k:HK}{v:V},Uv d p=zo k->Rep H ρ p v->KAt H k v/\Dp d k:=by
 intro d
 induction d with
|zero=>
  intro p k v e r;cases p with
  |int i=>cases e;exact⟨r,trivial⟩
  |str i=>cases e;exact⟨r,trivial⟩
  |_=>cases e
|succ d Z=>
  intro p k v e r;cases p with
  |int i=>cases e;exact⟨r,trivial⟩
  |str i=>cases e;exact⟨r,trivial⟩
  |tup ps=>
   obtain⟨a,vs,rfl,ha,_,I⟩:=r;have G:∀{ps:List PV}{l:List HK}{vs:List V},W0 (Uv d) ps=zo l->RepL H ρ ps vs->KAtL H l vs/\∀k∈l,Dp d k:=by
    intro ps
    induction ps with
    |nil=>intro l vs e r;cases e;exact⟨r,λk hk=>nomatch hk⟩
    |cons p ps j=>
     intro l vs e ⟨v,t,e1,U,J⟩;unfold W0 at e
     split at e
     ·rename_i k l' O S;cases e;obtain⟨h1,h2⟩:=Z O U;obtain⟨h3,Y⟩:=j S J;exact⟨⟨v,t,e1,h1,h3⟩,λx q=>by rcases D7.mp q with rfl|q;exact h2;exact Y x q⟩
     ·cases e
   unfold Uv at e;cases z:W0 (Uv d) ps with
   |none=>rw[z]at e;cases e
   |some l=>
    rw[z]at e;cases e;obtain⟨h1,h2⟩:=G z I;exact⟨⟨a,vs,rfl,ha,h1⟩,h2⟩
  |_=>cases e
def qd:PV->Option HK
|.tup ps=>Uv 5 (.tup ps)
|_=>zl
def U9(e:qd p=zo k)(r:Rep H ρ p v):∃b,v=.ref b/\KR H k b:=by
 cases p with
|tup ps=>
  have h:=Qm2 5 e r;obtain⟨b,vs,rfl,_⟩:=r;exact⟨b,rfl,h⟩
|_=>cases e
def putT(kvs:List (HK×PV))(k:HK)(v:PV):List (HK×PV):=
 if(kvs.any λkv=>decide (kv.1=k))=zb then kvs.map (λkv=>if kv.1=k then(kv.1,v)else kv)else kvs++[(k,v)]
def Q9c(r:RepD H ρ j vs)k(U:Rep H ρ p v):RepD H ρ (putT j k p) (Kw vs k v):=by
 have ha:(j.any λkv=>decide (kv.1=k))=vs.any λkv=>decide (kv.1=k):=by
  have G:(j.any λkv=>decide (kv.1=k))=(j.map bq).any λx=>decide (x=k):=by rw[dZ];rfl
  have J:(vs.any λkv=>decide (kv.1=k))=(vs.map bq).any λx=>decide (x=k):=by rw[dZ];rfl
  rw[G,J,r.1]
 unfold putT Kw;rw[<- ha]
 by_cases q:(j.any λkv=>decide (kv.1=k))=zb
 ·rw[bU q,bU q];have O:∀(j:List (HK×PV))(vs:List (HK×V)),RepD H ρ j vs->RepD H ρ (j.map λkv=>if kv.1=k then(kv.1,p)else kv) (vs.map λkv=>if kv.1=k then(kv.1,v)else kv):=by
   intro j
   induction j with
   |nil=>
    intro vs r;cases vs with
    |nil=>exact r
    |cons _ _=>have:=r.length;cases this
   |cons a j ih=>
    intro vs r;cases vs with
    |nil=>have:=r.length;cases this
    |cons b vs=>
     obtain⟨r1,x,t,e,Z,r3⟩:=r;obtain⟨G,J⟩:=cr (show b.1::vs.map bq=a.1::j.map bq from r1);obtain⟨e3,e4⟩:=cr (show b.2::vs.map cU=x::t from e);subst e3;subst e4;obtain⟨Y,S⟩:=ih vs ⟨J,r3⟩;rw[D3,D3]
     by_cases z:a.1=k
     ·have I:b.1=k:=G.trans z;rw[bU z,bU I];exact⟨by rw[D3,D3,Y];show b.1::_=a.1::_;rw[G],RepL.cons U S⟩
     ·have I:¬b.1=k:=λh=>z (G.symm.trans h)
      rw[bV z,bV I];exact⟨by rw[D3,D3,Y];show b.1::_=a.1::_;rw[G],RepL.cons Z S⟩
  exact O j vs r
 ·rw[bV q,bV q];refine⟨?_,?_⟩
  ·rw[E5,E5,r.1];rfl
  ·rw[E5,E5];exact r.2.append (RepL.cons U RepL.nil)
variable{X:Cx}{E:XK}{pos dpos tpos:Pos}{e o k:aH}{m mi mo:ME}
section
variable{i:aH}{mk:ME}
def Q48:ME:=λΓ st=>.ok (.ref st.length) (st++[.dtp []])
def Q39:SimE X E (.Dict [] [] dpos) Q48:=⟨λΓ σ H ρ st Q R G h=>WE.of Qjk λd hd=>by
 have x:Ext H ρ (upd H d (.dT [])) (ρ.add d):=Ext.addT hd;refine h _ _ x (R.addC hd ⟨_,Qj,rfl,rfl⟩) _ ⟨d,?_,rfl⟩;show(ρ.tr++[d])[st.length]?=zo d;rw[<- R.len,E4 (O6 _),cE];rfl⟩
def Ut(st:Q0):PV->Option (List (HK×PV))
|.ref i=>match st[i]? with
  |some (.dtp kvs)=>zo kvs
  |_=>zl
|_=>zl
def X9{H:Hp}{ρ:Tk}{st:Q0}(R:Rel H ρ st)(r:Rep H ρ p v)(e:Ut st p=zo j):∃i a vs,p=.ref i/\v=.ref a/\ρ.tr[i]?=zo a/\st[i]?=zo (.dtp j)/\H a=zo (.dT vs)/\RepD H ρ j vs:=by
 cases p with
|ref i=>
  obtain⟨a,I,rfl⟩:=r;unfold Ut at e;cases z:st[i]? with
  |none=>simp only[z]at e;cases e
  |some c=>
   simp only[z]at e;cases c with
   |dtp G=>
    cases e;obtain⟨b,vs,q,J,O⟩:=R.dtp z;rw[I]at q;cases q;exact⟨i,a,vs,rfl,rfl,I,z,J,O⟩
   |lst xs=>cases e
   |dic xs=>cases e
   |frd xs=>cases e
   |frt xs=>cases e
   |obj C xs=>cases e
|_=>cases e
def Q0p(st:Q0)(p q v:PV):Option Q0:=match p with
|.ref n=>match Ut st (.ref n),qd q with
  |some kvs,zo k=>if kvs.length<lim then zo (st.set n (.dtp (putT kvs k v)))else zl
  |_,_=>zl
|_=>zl
def X6(mo mi m:ME):MS:=λΓ st=>(m Γ st).sbind λv st1=>(mo Γ st1).sbind λp st2=>(mi Γ st2).sbind λq st3=>match Q0p st3 p q v with
|some st4=>.nx Γ st4
|none=>.stuck
def xr(hu:X.A.units+9<aS)(he:SimE X E e m)(ho:SimE X E o mo)(hi:SimE X E i mi)(hs:swapsWith e (zo (.Subscript o i tpos)) pos.line X.env=pure yo:=by rfl):SimS X E (.Assign [.Subscript o i tpos] e pos) (X6 mo mi m):=
 ⟨λΓ σ H ρ st D R G h=>WS.of (Qpx hu Jc Jc Jc hs) (he.use R G h.bind λv a5 H1 ρ1 z x1 R1 G1 r1 h1=>ho.use R1 G1 h1.bind λp a3 H2 a4 x x2 R2 G2 r2 h2=>hi.use R2 G2 h2.bind λq I Z j y x3 R3 G3 r3 O=>by
  cases es:Q0p I p q v with
  |none=>rw[es]at O;exact O.elim
  |some a1=>
   rw[es]at O;unfold Q0p at es
   split at es
   ·rename_i n
    split at es
    ·rename_i S k e1 e2
     split at es
     ·rename_i hl;cases es;obtain⟨n',a,vs,en,rfl,ea,a2,Y,rd⟩:=X9 R3 (r2.ext x3) e1;cases en;obtain⟨b,rfl,U⟩:=U9 e2 r3;have J:Ext Z j (upd Z a (.dT (Kw vs k z))) j:=Ext.put (E6 ea) Y;have rz:=(r1.ext (x2.trans x3)).ext J;have R4:Rel (upd Z a (.dT (Kw vs k z))) j (I.set n (.dtp (putT S k v))):=R3.putC ea Y ⟨_,Qj,Q9c (rd.ext J) k rz⟩;refine⟨a,_,rfl,DPut.t Y U (by rw[<- rd.length];exact D5 hl Q7x),O σ _ j J R4 (G3.ext J)⟩
     ·cases es
    ·cases es
   ·cases es)⟩
def Q0r:CF:=λst ps=>match ps with
|[p]=>match Ut st p with
  |some kvs=>if kvs.length<1000000 then .ok (.int (kvs.length:Nat)) st else .stuck
  |none=>.stuck
|_=>.stuck
def Qs4:CallS X E (.builtin "len") Q0r:=⟨λH ρ st ps xs Q R z h=>by
 unfold Q0r at h
 split at h
 ·rename_i p;obtain⟨v,rfl,r⟩:=Zc z
  split at h
  ·rename_i I e
   split at h
   ·rename_i j;obtain⟨n,a,vs,rfl,rfl,_,_,q,G⟩:=X9 R r e;rw[G.length]at h j;exact WC.of Qcy ⟨a,vs,rfl,q,j,now R h rfl⟩
   ·exact h.elim
  ·exact h.elim
 ·exact h.elim⟩
def yb(kvs:List (HK×PV))(k:HK):Option PV:=(kvs.find? λkv=>decide (kv.1=k)).map (·.2)
def xy k:∀{j:List (HK×PV)}{vs:List (HK×V)},RepD H ρ j vs->(yb j k=zl/\y9 vs k=zl)\/∃p v,yb j k=zo p/\y9 vs k=zo v/\Rep H ρ p v
|[],[],_=>.inl ⟨rfl,rfl⟩
|[],b::vs,r=>by have:=r.length;cases this
|a::j,[],r=>by have:=r.length;cases this
|a::j,b::vs,r=>by
  obtain⟨U,x,t,e,I,O⟩:=r;obtain⟨G,J⟩:=cr (show b.1::vs.map bq=a.1::j.map bq from U);obtain⟨S,Y⟩:=cr (show b.2::vs.map cU=x::t from e);subst S;subst Y;unfold yb y9;rw[cb,cb]
  by_cases z:a.1=k
  ·have q:b.1=k:=G.trans z;rw[bY z,bY q];exact .inr ⟨a.2,b.2,rfl,rfl,I⟩
  ·have q:¬b.1=k:=λh=>z (G.symm.trans h)
   rw[bW z,bW q];exact xy k ⟨J,O⟩
def Q16(neg:Bool):OP:=λst p q=>match Ut st q,qd p with
|some kvs,zo k=>.ok (.bl ((yb kvs k).isSome !=neg)) st
|_,_=>.stuck
def Qju(hu:X.A.units+9<aS):OpS X E (aV .In) (Q16 yo):=⟨λH ρ st p q x y Q R U rq h=>by
 unfold Q16 at h
 split at h
 ·rename_i j k e1 S;obtain⟨n,a,vs,rfl,rfl,_,_,O,Z⟩:=X9 R rq e1;obtain⟨b,rfl,J⟩:=U9 S U;intro pins s σ v u I rv ru;cases ru;refine J2a hu I (DGet.t O J) rv λs' Y=>⟨.bl _,H,Y,rfl,?_⟩
  have:(y9 vs k).isSome=(yb j k).isSome:=by
   rcases xy k Z with⟨z,G⟩|⟨p,v,z,G,_⟩<;>rw[z,G]<;>rfl
  rw[this];rw[dy]at h;exact now R h rfl
 ·exact h.elim⟩
def Q60(hu:X.A.units+9<aS):OpS X E (aV .NotIn) (Q16 zb):=⟨λH ρ st p q x y Q R U rq h=>by
 unfold Q16 at h
 split at h
 ·rename_i j k e1 S;obtain⟨n,a,vs,rfl,rfl,_,_,O,Z⟩:=X9 R rq e1;obtain⟨b,rfl,J⟩:=U9 S U;intro pins s σ v u I rv ru;cases ru;refine Qs3 hu I (DGet.t O J) rv λs' Y=>⟨.bl _,H,Y,rfl,?_⟩
  have:(y9 vs k).isSome=(yb j k).isSome:=by
   rcases xy k Z with⟨z,G⟩|⟨p,v,z,G,_⟩<;>rw[z,G]<;>rfl
  rw[this];have hh:((yb j k).isSome !=zb)=!(yb j k).isSome:=by cases (yb j k).isSome<;>rfl
  rw[hh]at h;exact now R h rfl
 ·exact h.elim⟩
def Q2f{H:Hp}{st:Q0}(R:Rel H ρ st)b xs(h:H b=zo (.tup xs)):b∉ρ:=λz=>by
 rcases z with z|z
 ·obtain⟨i,hi,e⟩:=L8 z;have hs:i<st.length:=by rw[<- R.len];exact hi
  have q:=R.cell i b st[i] (by rw[O2 hi,e]) (O2 hs);cases j:st[i]with
  |lst xs=>rw[j]at q;obtain⟨vs,h1,_⟩:=q;rw[h]at h1;cases h1
  |dic xs=>rw[j]at q;obtain⟨vs,h1,_⟩:=q;rw[h]at h1;cases h1
  |dtp xs=>rw[j]at q;obtain⟨vs,h1,_⟩:=q;rw[h]at h1;cases h1
  |frd xs=>rw[j]at q;obtain⟨vs,⟨_,h1⟩,_⟩:=q;rw[h]at h1;cases h1
  |frt xs=>rw[j]at q;obtain⟨vs,⟨_,h1⟩,_⟩:=q;rw[h]at h1;cases h1
  |obj C xs=>rw[j]at q;obtain⟨vs,⟨_,h1⟩,_⟩:=q;rw[h]at h1;cases h1
 ·obtain⟨o,h1,h2⟩:=R.hd b z;rw[h]at h1;cases h1;exact h2 xs rfl
end
variable{H0 H:Hp}{ρ0 ρ:Tk}{st:Q0}{a:aB}{ps:List (HK×PV)}{vs:List (HK×V)}
def Qjr (R0:Rel H0 ρ0 st) (x:Ext H0 ρ0 H ρ) {G:Q0} (R:Rel H ρ G) (hm:a∈ρ.hid) (Z:H0 a=zl) (ha:H a=zo (.dT vs)) (r:RepD H ρ ps vs):
  Ext H0 ρ0 H ⟨ρ.tr++[a],ρ0.hid⟩/\Rel H ⟨ρ.tr++[a],ρ0.hid⟩ (G++[.dtp ps])/\Rep H ⟨ρ.tr++[a],ρ0.hid⟩ (.ref G.length) (.ref a):=by
 have U:a∉ρ0.hid:=λz=>by
  obtain⟨o,e,_⟩:=R0.hd a z;rw[Z]at e;cases e
 refine⟨⟨x.pre.trans (dw _ _),λ_ h=>h,λ_ h=>.inl h,x.keep,λb O=>?_,x.old,x.frz⟩,⟨?_,?_,λb O=>R.hd b (x.hidM b O),λb O z=>?_,λi b c h1 h2=>?_⟩,a,?_,rfl⟩
 ·rcases E9.mp O with z|z
  ·exact x.new b z
  ·have:b=a:=by simpa using z
   subst this;exact .inr Z
 ·show(ρ.tr++[a]).length=_;rw[O5,O5,R.len];rfl
 ·show(ρ.tr++[a]).Nodup;refine L7.mpr ⟨R.nd,by simp,λb O c hc e=>?_⟩;have:c=a:=by simpa using hc
  subst this;subst e;exact R.ap b hm O
 ·rcases E9.mp z with z|z
  ·exact R.ap b (x.hidM b O) z
  ·have:b=a:=by simpa using z
   subst this;exact U O
 ·have h1:(ρ.tr++[a])[i]?=zo b:=h1
  by_cases hi:i<G.length
  ·rw[O7 (by rw[R.len];exact hi)]at h1;rw[O7 hi]at h2;have q:=R.cell i b c h1 h2;cases c with
   |lst S=>
    obtain⟨I,J,j⟩:=q;exact⟨I,J,j.trk hm x.hidM⟩
   |dic S=>
    obtain⟨I,J,j⟩:=q;exact⟨I,J,j.1,j.2.trk hm x.hidM⟩
   |dtp S=>
    obtain⟨I,J,j⟩:=q;exact⟨I,J,j.1,j.2.trk hm x.hidM⟩
   |frd S=>
    obtain⟨I,J,j⟩:=q;exact⟨I,J,j.1,j.2.trk hm x.hidM⟩
   |frt S=>
    obtain⟨I,J,j⟩:=q;exact⟨I,J,j.1,j.2.trk hm x.hidM⟩
   |obj C S=>
    obtain⟨I,J,j⟩:=q;exact⟨I,J,j.1,j.2.trk hm x.hidM⟩
  ·rw[E4 (by rw[R.len];omega)]at h1;rw[E4 ()]at h2;have Y:i-G.length=0:=by
    rcases gM (i-G.length)with z|z
    ·exact z
    ·rw[dE (by simp;omega)]at h2;cases h2
   rw[R.len,Y]at h1;rw[Y]at h2;simp at h1 h2;subst h1;subst h2;exact⟨vs,ha,r.1,r.2.trk hm x.hidM⟩
 ·show(ρ.tr++[a])[G.length]?=zo a;rw[<- R.len,E4 (O6 _),cE];rfl
section
variable{mk:ME}
def Qcu(st:Q0)(pv pk:PV):Res PV:=match qd pk with
|some ks=>.ok (.ref st.length) (st++[.dtp [(ks,pv)]])
|none=>.stuck
def zh(mk m:ME):ME:=λΓ st=>(mk Γ st).bind λpk st1=>(m Γ st1).bind λpv st2=>Qcu st2 pv pk
def Qfh(hu:X.A.units+9<aS)(hk:SimE X E k mk)(he:SimE X E e m):SimE X E (.Dict [zo k] [e] dpos) (zh mk m):=by
 refine⟨λΓ σ H ρ st Q R G h=>WE.of (Qfu () Jc Jc) ?_⟩;intro p J;have x0:Ext H ρ (upd H p (.dT [])) (ρ.hide p):=Ext.hide J;refine hk.use' (R.hide J) (G.hide J) (h.bind.later x0) λa1 U H1 ρ1 v1 f1 x1 R1 G1 r1 _=>?_
 have h:=h;unfold zh at h;rw[f1]at h;have h:Acc X.mg E H ρ (QV Q) ((m Γ U).bind λpv q=>Qcu q pv a1):=h
 refine he.use' R1 G1 (h.bind.later (x0.trans x1)) λZ q H2 I O f2 x2 R2 G2 r2 _=>?_
 rw[f2]at h;have h:Acc X.mg E H ρ (QV Q) (Qcu q Z a1):=h;unfold Qcu at h
 split at h
 ·rename_i ks ek;obtain⟨b,rfl,kr⟩:=U9 ek (r1.ext x2);have xe:Ext (upd H p (.dT [])) (ρ.hide p) H2 I:=x1.trans x2;have Y:p∉(ρ.hide p).tr:=λz=>R.fresh J (.inl z)
  have S:H2 p=zo (.dT []):=xe.keep p _ Qj Y;have j:p∈I.hid:=xe.hidM p E7;refine⟨ks,b,O,rfl,kr,S,?_⟩;have y:Ext H ρ (upd H2 p (.dT [(ks,O)])) I:=(x0.trans xe).put0 J;have g2:=r2.rehide (o:=.dT [(ks,O)]) j;obtain⟨x5,R5,r5⟩:=Qjr (ps:=[(ks,Z)]) R y (R2.rehide j) j J Qj ⟨rfl,RepL.cons g2 RepL.nil⟩;exact h _ _ x5 R5 _ r5
 ·exact h.elim
@[simp] theorem Qvf Γ st:zh mk m Γ st=(mk Γ st).bind λz j=>(m Γ j).bind λpv q=>Qcu q pv z:=rfl
end
variable{apos cpos:Pos}{to:TE}
def Qui (S:PE X o to) (j:bB o "clear" X.env (aM o X.env)=aM o X.env:=by rfl) (z:(apos.endLine==cpos.line)=zb:=by rfl):PE X (.Call (.Attribute o "clear" apos) [] [] cpos)
  (λσ H Q=>to σ H λx H1=>(tyV X.K "list" x H1/\WM X "list.clear" x [] H1 Q)\/(tyV X.K "dict" x H1/\WM X "dict.clear" x [] H1 Q)):=by
 intro pins s σ H Q I h;refine wpAny_Call_method0_late j z (thn (S pins s σ H _ I h) λv s1 ⟨x,H1,G,J,q⟩=>?_)
 rcases q with⟨ty,O⟩|⟨ty,O⟩
 ·obtain⟨h1,h2⟩:=Q6w G J ty;exact⟨"list","list.clear",dz,PySem.F.slot_list_clear,PySem.F.type_list_clear,h1,h2,Calls.callWith_builtin rfl (fe (Qqq pins s1 σ H1 x [] v [] Q G J .nil O))⟩
 ·obtain⟨h1,h2⟩:=Q6w G J ty;exact⟨"dict","dict.clear",PySem.F.plainAttrs_dict,jL,PySem.F.type_dict_clear,h1,h2,Calls.callWith_builtin rfl (fe (Qqq pins s1 σ H1 x [] v [] Q G J .nil O))⟩
structure DefX(P:aK)(w:aJ)(K:bZ)(mg:zAE)(base:Heap)(k:Nat)(x:Str)(ps:List Str)(sp:Sp):Prop where
ex:∃(f:aB)(fd:aP),FnOk P w K mg base (CXD P w) k f fd ps sp/\mg x=zo (.ref f)/\cL K (.ref f)=zb/\Binds K fd ps []
def Qif(h:Same H0 H){o:HO}(j:H p=zl):Same H0 (upd H p o):=λb u e=>by
 have:=h b u e;rw[Q7 λz=>by rw[z,j]at this;cases this];exact this
structure Nms(mg:zAE)(c:Nat->aB):Prop where
m0:mg "WharfError"=zo (.ref (c 0))
m1:mg "NoTable"=zo (.ref (c 1))
m2:mg "NoHouse"=zo (.ref (c 2))
m3:mg "NoDeed"=zo (.ref (c 3))
m4:mg "NoLetter"=zo (.ref (c 4))
m5:mg "NoStand"=zo (.ref (c 5))
m6:mg "NoRoad"=zo (.ref (c 6))
m7:mg "NoPlan"=zo (.ref (c 7))
m8:mg "NoBook"=zo (.ref (c 8))
m9:mg "NoManner"=zo (.ref (c 9))
m10:mg "TooMany"=zo (.ref (c 10))
m11:mg "NoText"=zo (.ref (c 11))
m12:mg "NoRow"=zo (.ref (c 12))
m13:mg "NoName"=zo (.ref (c 13))
m14:mg "Short"=zo (.ref (c 14))
ve:mg "ValueError"=zl
isi:mg "isinstance"=zl
structure TgtS(K:bZ)(c:Nat->aB)(t:Nat):Prop where
xc:XCls K (c t)
ve:br K (.ref (c t)) (.type "ValueError")=zo zb
ex:fu K (.ref (c t)) (.ref (c 0))=zo zb
k:∀i,1<=i->i<=14->br K (.ref (c t)) (.ref (c i))=zo (decide (i=t))
def Q2d:aX "ValueError"=zo (.type "ValueError"):=by decide +kernel
def Q0f{e:aB}{o:HO}(h:H e=zo v)(j:H p=zl):upd H p o e=zo v:=by
 rw[Q7 λz=>by rw[z,j]at h;cases h];exact h
def noB(bs:List Bool)j(h:(bs.take j).all (λb=>!b)=zb)(G:j<=bs.length):∀m,m<j->bs[m]?=zo yo:=λm hm=>by
 have z:m<bs.length:=by omega
 have:=F4.mp h (bs[m]) (List.mem_take_iff_getElem.mpr ⟨m,by omega,rfl⟩);rw[O2 z];cases q:bs[m]with
|false=>rfl
|true=>rw[q]at this;cases this
def Qsn(ss:List Str):TA:=λσ H Q=>Q (ss.map V.str) H
def Qdx:∀(l:List (Str×Nat×Pos)),PA X (l.map λp=>Expr.Constant (.str p.1) p.2.1 p.2.2) (Qsn (l.map (·.1)))
|[]=>λpos pins s σ H Q I h=>Jb pos pins s σ H Q I h
|(x,j,p)::l=>λpos pins s σ H Q I h=>Qk (e:=.Constant (.str x) j p) Q7f (Qdx l) rfl pos pins s σ H Q I h
def Q9r(ss:List Str)(l:List (Nat×Pos))(h:es=(ss.zip l).map (λp=>Expr.Constant (.str p.1) p.2.1 p.2.2))(q:ss.length=l.length:=by rfl):PA X es (Qsn ss):=by
 have e:((ss.zip l).map λp=>((p.1,p.2.1,p.2.2):Str×Nat×Pos)).map (λp=>Expr.Constant (.str p.1) p.2.1 p.2.2)=es:=by rw[h,L4];rfl
 have j:((ss.zip l).map λp=>((p.1,p.2.1,p.2.2):Str×Nat×Pos)).map (·.1)=ss:=by
  rw[L4];show(ss.zip l).map bq=ss;exact List.map_fst_zip ()
 have:=Qdx (X:=X) ((ss.zip l).map λp=>(p.1,p.2.1,p.2.2))
 rw[e,j]at this;exact this
section
variable{X:Cx}{E:XK}{pos:Pos}{tg:aH}{e a b:aH}{m ma mb:ME}
def Qg2:OP:=λst p q=>match p,q with
|.int a,.int b=>.ok (.bl (decide (a<=b))) st
|.str a,.str b=>.ok (.bl (!decide (b.cps.toList<a.cps.toList))) st
|_,_=>.stuck
def Qur:OpS X E (aV .LtE) Qg2:=⟨λH ρ st p q x y Q R z j h=>by
 unfold Qg2 at h
 split at h
 ·cases z;cases j;exact WO.of Qt0 ⟨_,_,rfl,rfl,now R h rfl⟩
 ·cases z;cases j;exact WO.of Qfw ⟨_,_,rfl,rfl,now R h rfl⟩
 ·exact h.elim⟩
def Qqn:OP:=λst p q=>match p,q with
|.str z,.int i=>match atI z.cps.toList i with
  |some c=>if z.length<=lim then .ok (.str ⟨#[c]⟩) st else .stuck
  |none=>.stuck
|_,_=>.stuck
def Qtw(ha:SimE X E a ma)(J:SimE X E b mb)(hs:Q2w b):SimE X E (.Subscript a b pos) (mOp Qqn ma mb):=
 ⟨λΓ σ H ρ st Q R G h=>WE.of (Qji Qku Jc Jc hs) (ha.use R G h.bind λp a1 H1 ρ1 v x1 j O Y h1=>J.use j O h1.bind λq a2 H2 S u x2 R2 G2 I h2=>by
  unfold Qqn at h2
  split at h2
  ·rename_i z i;cases Y;cases I
   split at h2
   ·rename_i c U
    split at h2
    ·rename_i Z;exact .inr (.inr ⟨z,i,c,rfl,rfl,Yi Z,U,now R2 h2 rfl⟩)
    ·exact h2.elim
   ·exact h2.elim
  ·exact h2.elim)⟩
def qx(x:Str):List PV:=x.cps.toList.map λc=>.str ⟨#[c]⟩
def Qe3(m:ME):MI:=λΓ st=>(m Γ st).bind λp st1=>match p with
|.str x=>if x.length<=lim then .ok (qx x,[]) st1 else .stuck
|_=>.stuck
def Qp2 x:Src (Qwq x) (qx x) [] H ρ:=by
 have O:(qx x).length=x.cps.size:=by unfold qx;rw[O1,bj]
 refine⟨λH2 j q _ _ _=>?_,λH2 j q _ _ _ i hi=>?_,λH2 j q _ _ _ i p z y J G=>?_⟩
 ·show x.cps.size<=_;omega
 ·show i<x.cps.size;omega
 ·obtain⟨rfl,c,I,rfl⟩:=G;refine⟨Same.refl _,?_⟩;unfold qx at z;rw[D8,bn,I]at z;cases z;exact rfl
def Qtr(U:SimE X E e m):SimI X E tg e (Qe3 m):=⟨λΓ σ H ρ st P Y R G h k=>by
 have J:Acc X.mg E H ρ _ (m Γ st):=Acc.bind h;refine WI.of (Quc Jc) (U.use' R G J λp q H1 ρ1 v eq x1 z O S h1=>?_)
 split at h1
 ·rename_i x
  split at h1
  ·rename_i I;cases S;have j:(qx x).length<=lim:=by unfold qx;rw[O1,bj];exact I
   exact⟨x,rfl,k (qx x,[]) q H1 ρ1 _ (by simp only[Qe3,eq,Res.bind,bU I]) x1 z O (Qr _) (Yi j) (Qp2 x) (h1 H1 ρ1 (Ext.refl _ _) z)⟩
  ·exact h1.elim
 ·exact h1.elim⟩
def Q1r:List PV->Option (List Str)
|[]=>zo []
|.str x::r=>(Q1r r).map (x :: ·)
|_::_=>zl
def Q5p:∀{ps:List PV}{ss:List Str}{vs:List V},Q1r ps=zo ss->RepL H ρ ps vs->vs=ss.map V.str
|[],_,_,e,r=>by cases e;exact r
|.str x::ps,_,_,e,⟨v,t,G,j,q⟩=>by
  have e:(Q1r ps).map (x :: ·)=zo _:=e;cases z:Q1r ps with
  |none=>rw[z]at e;cases e
  |some l=>
   rw[z]at e;cases e;rw[G,Q5p z q,show v=V.str x from j];rfl
def Qk3(sep:Str)(st:Q0)(ps:List PV):Res PV:=match ps with
|[p]=>match (V2 st p).bind Q1r with
  |some ss=>if JoinOk sep ss=zb then .ok (.str (Txt.join sep ss)) st else .stuck
  |none=>.stuck
|_=>.stuck
def Qe5(mo:ME)(mr:Gam->Q0->Res (List PV)):ME:=λΓ st=>(mo Γ st).bind λp st1=>match p with
|.str sep=>(mr Γ st1).bind λps st2=>Qk3 sep st2 ps
|_=>.stuck
variable{o:aH}{es:List aH}{mo:ME}{mr:Gam->Q0->Res (List PV)}{apos cpos:Pos}
def Qpg (ho:SimE X E o mo) (ha:SimA X E (e::es) mr)
  (I:bB o "join" X.env (aM o X.env)=aM o X.env)
  (J:((aY cpos (aN (e::es) X.env)).all (λx=>!x.1)&&(backToKw cpos (keywordEach [] X.env)).all (λx=>x.1.isSome)
   &&decide ((e::es).length+([]:List Keyword).length+(if([]:List Keyword).isEmpty then 0 else 1)<30))=zb)
  (z:(apos.endLine==cpos.line)=zb) (hs:aN (e::es) X.env=(yo,aM e X.env)::aN es X.env) (j:(aY cpos (aN es X.env)).any (·.1)=yo):
  SimE X E (.Call (.Attribute o "join" apos) (e::es) [] cpos) (Qe5 mo mr):=
 ⟨λΓ σ H ρ st Q R G h=>WE.of (Qdv PySem.F.plainAttrs_str PySem.F.slot_str_join PySem.F.type_str_join Qqr Jc Q3s I J z hs j) (ho.use R G h.bind λp a2 H1 ρ1 v x1 R1 Z r1 h1=>by
  split at h1
  ·rename_i S;cases r1;refine⟨rfl,ha.use R1 Z h1.bind λps U H2 a1 us x2 R2 G2 r2 h2=>?_⟩;unfold Qk3 at h2
   split at h2
   ·rename_i q;obtain⟨y,rfl,ry⟩:=Zc r2
    split at h2
    ·rename_i ss es
     split at h2
     ·rename_i hz;cases O:V2 U q with
      |none=>rw[O]at es;cases es
      |some xs=>
       rw[O]at es;obtain⟨c,vs,rfl,Y,rc⟩:=Zv R2 ry O;rw[Q5p es rc]at Y;exact⟨S,c,ss,rfl,rfl,.inl Y,hz,now R2 h2 rfl⟩
     ·exact h2.elim
    ·exact h2.elim
   ·exact h2.elim
  ·exact h1.elim)⟩
end
end Sm
namespace L2
open PySem PySem.Spec PyProof.Rows PySem.W
def SzS(h:Heap)(a:aB)(n:Nat):Prop:=∃o es ep t,h.get? a=zo o/\o.ExactSet/\o.data=.set es ep t/\t.fits es.size=zb/\es.size=n
def Qgk(a:aB)(n:Nat):HO:=.ext λh=>SzS h a n
variable{X:Cx}
def Qgy(hu:X.A.units+9<aS)(hc:X.calm=zb):W6 X (.type "set") (λxs H Q=>∃p vs,∃ks:List HK,xs=[.ref p]/\SqT X.K H p vs/\aR (λv k=>∃b,v=.ref b/\KR H k b) vs ks/\ks.length<=76/\∀l,H l=zl->Q (.ref l) (upd H l (Qgk l (Yy ks).length))):=by
 intro pins s σ H xs us Q I r h;obtain⟨p,vs,ks,rfl,hq,O,hl,q⟩:=h;obtain⟨u,rfl,G⟩:=Uy r;cases G;obtain⟨its,J,pl,hz⟩:=I.tuple hq;have j:its.length=ks.length:=by rw[<- J.length,Paired.length O]
 refine yf (B:=λ_=>True) (ks:=ks) hu (I.ok.hd hc) pl (by rw[O8,j]) (λi v e=>?_) hl λh' tk gh k=>?_
 ·have e:its[i]?=zo v:=by simpa using e
  have hi:i<vs.length:=by have:=(O0.mp e).1;rw[J.length];exact this
  obtain⟨x,ex,G⟩:=J.get (O2 hi);rw[e]at ex;cases ex;obtain⟨k,U,b,S,hb⟩:=Kx O (O2 hi);rw[S]at G;cases G;exact⟨k,b,U,rfl,Up I.hok hb,trivial⟩
 ·obtain⟨o,es,ep,t,h1,h2,h3,⟨Z,p1,Y⟩,h5,h6⟩:=gh;have sz:SzS h' s.heap.objs.size (Yy ks).length:=⟨o,es,ep,t,h1,h2,h3,by have:=h6.fits;rwa [O1,bj]at this,by rw[<- bj,Paired.length Y,p1.length_eq]⟩;refine⟨.ref s.heap.objs.size,upd H s.heap.objs.size (Qgk s.heap.objs.size (Yy ks).length),I.laid (t':=tk) k (O6 _) ⟨sz,⟨o,h1⟩,λh1 h2 z kk=>?_⟩,rfl,q _ (I.hok.fresh (O6 _))⟩
  obtain⟨o,es,ep,t,g1,g2⟩:=z;exact⟨o,es,ep,t,kk _ g1,g2⟩
def Qh2:W6 X (.builtin "len") (λxs H Q=>∃p n,xs=[.ref p]/\H p=zo (Qgk p n)/\n<=4000/\Q (.int n) H):=by
 intro pins s σ H xs O Q I r h;obtain⟨p,n,rfl,J,S,q⟩:=h;obtain⟨u,rfl,j⟩:=Uy r;cases j;obtain⟨⟨o,es,ep,t,h1,h2,G,z,rfl⟩,_,_⟩:=I.hok p _ J;exact call_len_set h1 h2 G z () ⟨.int _,H,I.tok _,⟨s.toks+1,rfl⟩,q⟩
def Qcx(hc:X.calm=zb):W6 X (.type "list") (λxs H Q=>∃a,∃j:List (HK×V),xs=[.ref a]/\H a=zo (.dT j)/\∀d vs,H d=zl->aR (λv (p:HK×V)=>∃b,v=.ref b/\KR H p.1 b) vs j->Q (.ref d) (upd H d (.lst vs))):=by
 intro pins s σ H xs us Q I r h;obtain⟨a,j,rfl,Y,q⟩:=h;obtain⟨u,rfl,rx⟩:=Uy r;cases rx;obtain⟨z,hs,es,ep,J,S,O,G⟩:=Qcs I.hok Y;have l1:j.length=J.length:=Paired.length G;have l2:es.size=J.length:=by
  have:=congrArg dL O;simpa using this
 refine kdl_call (Qdk hs) (I.ok.hd hc) S () λh' tk acc c k1 k2 k3=>?_
 have e:acc.toList=J.map bc:=by
  rw[<- O];apply cf;intro i
  by_cases z:i<es.size
  ·have hi:i<acc.size:=by rw[k3.1];exact z
   obtain⟨e,h1,h2⟩:=k3.2 i acc[i] (bp hi);rw[bn,bp hi,h2,D8,bn,h1];rfl
  ·rw[bn,ce (by rw[k3.1];omega),D8,bn,ce ()];rfl
 have Z:Vals (J.map V.ref) acc.toList:=by
  rw[e];clear e G l1 l2 O
  induction J with
  |nil=>exact .nil
  |cons x l U=>exact .cons rfl U
 have hp:aR (λv (p:HK×V)=>∃b,v=.ref b/\KR H p.1 b) (J.map V.ref) j:=by
  clear e Z k3 k2 k1 O l1 l2 q Y z
  induction G with
  |nil=>exact .nil
  |cons S _ U=>exact .cons ⟨_,rfl,S⟩ U
 refine⟨.ref s.heap.objs.size,_,I.laid (t':=tk) (o:=.lst (J.map V.ref)) k1 (O6 _) ⟨by rw[O1];omega,acc.toList,c,Z,?_⟩,rfl,q _ _ (I.hok.fresh (O6 _)) hp⟩;rw[Array.toArray_toList];exact k2
end L2
namespace Sm
open PySem PySem.Spec L2
variable{X:Cx}{E:XK}{a b:aH}{ma mb:ME}{pos:Pos}
def Q0c(ma:ME):ME:=λΓ st=>(ma Γ st).bind λp st1=>match p with
|.tup ps=>match W0 qd ps with
  |some ks=>if ks.length<=76 then .ok (.int (Yy ks).length) st1 else .stuck
  |none=>.stuck
|_=>.stuck
def Qa7:∀{ps:List PV}{ks:List HK}{vs:List V},W0 qd ps=zo ks->RepL H ρ ps vs->aR (λv k=>∃b,v=.ref b/\KR H k b) vs ks
|[],_,_,e,r=>by cases e;cases r;exact .nil
|p::ps,_,_,e,⟨v,t,I,G,j⟩=>by
  unfold W0 at e
  split at e
  ·rename_i k l q z;cases e;rw[I];exact .cons (U9 q G) (Qa7 z j)
  ·cases e
def Qbn(hu:X.A.units+9<aS)(ha:SimE X E a ma)(Z:X.calm=zb)(hg:Gl X "len")(hm:X.mg "len"=zl)(I:Gl X "set")(z:X.mg "set"=zl)(hb:aX "set"=zo (.type "set"))(O:aN [a] X.env=(yo,aM a X.env)::aN [] X.env)(j:aN [.Call (.Name "set" p') [a] [] pos'] X.env=(yo,aM (.Call (.Name "set" p') [a] [] pos') X.env)::aN [] X.env):SimE X E (.Call (.Name "len" p) [.Call (.Name "set" p') [a] [] pos'] [] pos) (Q0c ma):=
 ⟨λΓ σ H ρ st Q R G hq=>WE.of (Jd Qh2 hg hm jW (Qk (zc (Qgy hu Z) I z hb (Qk Jc Jb O) (by decide) (by decide) O rfl) Jb j) (by decide) (by decide) j rfl) (ha.use' R G hq.bind λq a1 H1 ρ1 v e1 x1 R1 G1 Y h1=>by
  split at h1
  ·rename_i ps
   split at h1
   ·rename_i ks U
    split at h1
    ·rename_i hl;obtain⟨c,vs,rfl,J,_,rc⟩:=Y;refine⟨c,vs,ks,rfl,SqT.of J,Qa7 U rc,hl,λl S=>⟨l,_,rfl,Qj,E8 (Q08 ks) (),?_⟩⟩
     exact h1 _ _ (Ext.hide S) (R1.hide S) _ rfl
    ·exact h1.elim
   ·exact h1.elim
  ·exact h1.elim)⟩
@[simp] theorem Qt4(ma:ME)Γ st:Q0c ma Γ st=(ma Γ st).bind λp j=>match p with
|.tup ps=>match W0 qd ps with
  |some ks=>if ks.length<=76 then .ok (.int (Yy ks).length) j else .stuck
  |none=>.stuck
|_=>.stuck:=rfl
mutual
def hkV:HK->PV
|.int i=>.int i
|.str x=>.str x
|.tup l=>.tup (hkVL l)
def hkVL:List HK->List PV
|[]=>[]
|k::l=>hkV k::hkVL l
end
mutual
theorem Q87{H:Hp}(o:∀b xs,H b=zo (.tup xs)->b∉ρ):∀{k:HK}{v:V},KAt H k v->Rep H ρ (hkV k) v
|.int _,_,r=>r
|.str _,_,r=>r
|.tup _,_,⟨a,vs,e,h,r⟩=>⟨a,vs,e,h,o a vs h,hkVL_rep o r⟩
theorem hkVL_rep{H:Hp}(o:∀b xs,H b=zo (.tup xs)->b∉ρ):∀{l:List HK}{vs:List V},KAtL H l vs->RepL H ρ (hkVL l) vs
|[],_,r=>r
|_::_,_,⟨v,r,e,h,t⟩=>⟨v,r,e,Q87 o h,hkVL_rep o t⟩
end
def Kb:CF:=λst ps=>match ps with
|[p]=>match Ut st p with
  |some kvs=>.ok (.lst (kvs.map λkv=>hkV kv.1)) st
  |none=>.stuck
|_=>.stuck
def Q6c{H:Hp}(o:∀b xs,H b=zo (.tup xs)->b∉ρ):∀{j:List (HK×PV)}{q:List (HK×V)}{vs:List V},RepD H ρ j q->aR (λv (p:HK×V)=>∃b,v=.ref b/\KR H p.1 b) vs q->RepL H ρ (j.map λkv=>hkV kv.1) vs
|[],[],_,_,p=>by cases p;rfl
|[],b::q,_,r,_=>by have:=r.length;cases this
|a::j,[],_,r,_=>by have:=r.length;cases this
|a::j,b::q,_,r,.cons h t=>by
  obtain⟨O,x,U,e,Y,J⟩:=r;obtain⟨G,I⟩:=cr (show b.1::q.map bq=a.1::j.map bq from O);obtain⟨Z,S⟩:=cr (show b.2::q.map cU=x::U from e);subst S;obtain⟨c,rfl,z⟩:=h;refine RepL.cons ?_ (Q6c o ⟨I,J⟩ t);show Rep H ρ (hkV a.1) _;rw[<- G];exact Q87 o z.1
def Qav(q:X.calm=zb):CallS X E (.type "list") Kb:=⟨λH ρ st ps xs Q R z h=>by
 unfold Kb at h
 split at h
 ·rename_i p;obtain⟨v,rfl,r⟩:=Zc z
  split at h
  ·rename_i I e;obtain⟨n,a,vs,rfl,rfl,_,_,j,G⟩:=X9 R r e;exact WC.of (Qcx q) ⟨a,vs,rfl,j,λd O hd J=>ze R h (Q6c (Q2f R) G J) d hd⟩
  ·exact h.elim
 ·exact h.elim⟩
structure TupG(K:bZ)(mg:zAE)(n:Str)(ss:List Str):Prop where
ex:∃(a:aB)(o:Obj)(its:Array aA)(m:Nat),mg n=zo (.ref a)/\K.lookup a=zo o/\o.cls=.type "tuple"/\o.data=.seq its m/\its.size<=sizeLine/\Vals (ss.map V.str) its.toList
def Xb(ss:List Str)(x:Str):Bool:=ss.any λs=>decide (s=x)
def Q7u(neg:Bool)(ss:List Str)(m:ME):ME:=λΓ st=>(m Γ st).bind λp st1=>match p with
|.str x=>.ok (.bl (Xb ss x !=neg)) st1
|_=>.stuck
def Q0i x:∀ss:List Str,inV (.str x) (ss.map V.str)=Xb ss x
|[]=>rfl
|s::ss=>by
  have j:=Q0i x ss;unfold inV Xb at*;rw[D3,N3,N3,j];congr 1
variable{p:Pos}{e:aH}{m:ME}{n:Str}{ss:List Str}
def Qty(tg:TupG X.K X.mg n ss)(J:Gl X n)(Z:SimE X E e m)(hd:(n==("__debug__":Str))=yo):SimE X E (.Compare e [.In] [.Name n p] pos) (Q7u yo ss m):=by
 obtain⟨a,o,its,k,hm,Y,O,j,hz,S⟩:=tg.ex;refine⟨λΓ σ H ρ st Q R G h=>WE.of (Q7g Qfx Jc (Z5 (v:=.ref a) J hm rfl hd) rfl) (Z.use R G h.bind λq z H1 ρ1 v x1 I G1 U h1=>?_)⟩;cases q with
|str x=>
  cases U;have h1:Acc X.mg E H1 ρ1 (QV Q) (.ok (.bl (Xb ss x !=yo)) z):=h1;refine⟨a,ss.map V.str,rfl,.inr (.inr ⟨o,its,k,Y,O,j,hz,S⟩),rfl,by simp[jr],?_⟩;rw[Q0i];rw[dy]at h1;exact now I h1 rfl
|_=>exact h1.elim
def Qfg(tg:TupG X.K X.mg n ss)(J:Gl X n)(Z:SimE X E e m)(hd:(n==("__debug__":Str))=yo):SimE X E (.Compare e [.NotIn] [.Name n p] pos) (Q7u zb ss m):=by
 obtain⟨a,o,its,k,hm,Y,O,j,hz,S⟩:=tg.ex;refine⟨λΓ σ H ρ st Q R G h=>WE.of (Q7g Q00 Jc (Z5 (v:=.ref a) J hm rfl hd) rfl) (Z.use R G h.bind λq z H1 ρ1 v x1 I G1 U h1=>?_)⟩;cases q with
|str x=>
  cases U;have h1:Acc X.mg E H1 ρ1 (QV Q) (.ok (.bl (Xb ss x !=zb)) z):=h1;refine⟨a,ss.map V.str,rfl,.inr (.inr ⟨o,its,k,Y,O,j,hz,S⟩),rfl,by simp[jr],?_⟩;rw[Q0i];rw[show(Xb ss x !=zb)=!Xb ss x by cases Xb ss x<;>rfl]at h1;exact now I h1 rfl
|_=>exact h1.elim
section
variable{X:Cx}{E:XK}
def prV(p:Int×Str):PV:=.tup [.int p.1,.str p.2]
def Qcf:HK->Option (Int×Str)
|.tup [.int x,.str y]=>zo (x,y)
|_=>zl
def Q6b:List (HK×PV)->Option (List (Int×Str))
|[]=>zo []
|kv::r=>match Qcf kv.1,Q6b r with
  |some p,zo l=>zo (p::l)
  |_,_=>zl
def Qrf{p:Int×Str}(h:Qcf k=zo p):k=.tup [.int p.1,.str p.2]:=by
 unfold Qcf at h
 split at h
 ·cases h;rfl
 ·cases h
def Qae:∀{j:List (HK×PV)}{vs:List (HK×V)}{nss:List (Int×Str)},Q6b j=zo nss->RepD H ρ j vs->aR (λ(p:HK×V) (ns:Int×Str)=>p.1=.tup [.int ns.1,.str ns.2]) vs nss
|[],[],_,e,_=>by cases e;exact .nil
|[],_::_,_,_,r=>by have:=r.length;cases this
|_::_,[],_,_,r=>by have:=r.length;cases this
|(k,p)::j,(z,v)::vs,nss,e,r=>by
  obtain⟨O,x,t,U,Z,I⟩:=r;obtain⟨Y,G⟩:=cr (show z::vs.map bq=k::j.map bq from O);obtain⟨J,S⟩:=cr (show v::vs.map cU=x::t from U);subst J;subst S;unfold Q6b at e
  split at e
  ·rename_i q l h1 h2;cases e;exact .cons (show z=_ by rw[Y];exact Qrf h1) (Qae h2 ⟨G,I⟩)
  ·cases e
def Q3f{H:Hp}(j:∀b xs,H b=zo (.tup xs)->b∉ρ):∀{vs:List V}{nss:List (Int×Str)},aR (λ(v:V) (ns:Int×Str)=>∃b,v=.ref b/\H b=zo (.tup [.int ns.1,.str ns.2])) vs nss->RepL H ρ (nss.map prV) vs
|[],[],.nil=>rfl
|v::vs,ns::nss,.cons ⟨b,e,q⟩ t=>by
  subst e;exact RepL.cons ⟨b,_,rfl,q,j b _ q,RepL.cons rfl (RepL.cons rfl RepL.nil)⟩ (Q3f j t)
def Q3g{nss:List (Int×Str)}{vs:List V}(r:RepL H ρ (nss.map prV) vs):∀(j:List Nat),(∀x∈j,x<vs.length)->RepL H ρ ((j.map λi=>nss.getD i dQ).map prV) (j.map λi=>vs.getD i .non)
|[],_=>rfl
|x::j,h=>by
  have G:=h x (by simp);have I:=r.length;rw[O1]at I;have J:(nss.map prV)[x]?=zo (prV (nss.getD x dQ)):=by
   rw[D8,O2 (),F1,O2 ()];rfl
  have z:vs[x]?=zo (vs.getD x .non):=by rw[F1,O2 G];rfl
  exact RepL.cons (r.i J z) (Q3g r j λy q=>h y (O3 _ q))
def Q4w:CF:=λst ps=>match ps with
|[p]=>match Ut st p with
  |some kvs=>match Q6b kvs with
   |some nss=>if nss.length<64 then .ok (.lst ((Xe nss).map prV)) st else .stuck
   |none=>.stuck
  |none=>.stuck
|_=>.stuck
def Qmu(J:X.calm=zb):CallS X E (.builtin "sorted") Q4w:=⟨λH ρ st ps xs Q R U h=>by
 unfold Q4w at h
 split at h
 ·rename_i p;obtain⟨v,rfl,r⟩:=Zc U
  split at h
  ·rename_i a1 e
   split at h
   ·rename_i nss en
    split at h
    ·rename_i Z;obtain⟨n,a,vs,rfl,rfl,_,_,I,rd⟩:=X9 R r e;have j:=Qae en rd;have l2:vs.length=nss.length:=Paired.length j;refine WC.of (Q5h J) ⟨a,vs,nss,rfl,I,by omega,j,λd O S hd z hp he=>?_⟩;have G:=Q3f (Q2f R) z;have l3:S.length=nss.length:=Paired.length z;have q:=Q3g G O λx Y=>by have:=hp.mem_iff.mp Y;rw[l3];simpa using this
     rw[he]at q;exact ze R h q d hd
    ·exact h.elim
   ·exact h.elim
  ·exact h.elim
 ·exact h.elim⟩
def Q10:List PV->Option (List (HK×PV))
|[]=>zo []
|.tup [kp,v]::r=>match qd kp,Q10 r with
  |some k,zo l=>zo ((k,v)::l)
  |_,_=>zl
|_::_=>zl
def za(kvs l:List (HK×PV)):List (HK×PV):=l.foldl (λacc p=>putT acc p.1 p.2) kvs
def Q3q{H:Hp}:∀{ps:List PV}{l:List (HK×PV)}{j:List V},Q10 ps=zo l->RepL H ρ ps j->∃zs:List (HK×aB×V),aR (λv (z:HK×aB×V)=>∃c,v=.ref c/\H c=zo (.tup [.ref z.2.1,z.2.2])/\KR H z.1 z.2.1) j zs/\aR (λ(p:HK×PV) (z:HK×aB×V)=>p.1=z.1/\Rep H ρ p.2 z.2.2) l zs
|[],_,_,e,r=>by cases e;cases r;exact⟨[],.nil,.nil⟩
|.tup [kp,v]::ps,_,_,e,⟨w,t,e1,U,I⟩=>by
  unfold Q10 at e
  split at e
  ·rename_i k l h1 h2;cases e;obtain⟨zs,a1,a2⟩:=Q3q h2 I;obtain⟨a,vs,Y,J,_,w1,q1,S,s1,w2,q2,Z,O,G⟩:=U;cases G;subst Z;subst S;obtain⟨b,rfl,q⟩:=U9 h1 s1;subst e1;exact⟨(k,b,w2)::zs,.cons ⟨a,Y,J,q⟩ a1,.cons ⟨rfl,O⟩ a2⟩
  ·cases e
def Q1s:∀{l:List (HK×PV)}{zs:List (HK×aB×V)}{j:List (HK×PV)}{vs:List (HK×V)},RepD H ρ j vs->aR (λ(p:HK×PV) (z:HK×aB×V)=>p.1=z.1/\Rep H ρ p.2 z.2.2) l zs->RepD H ρ (za j l) (L2.putAll vs zs)
|_,_,_,_,r,.nil=>r
|p::l,z::zs,_,_,r,.cons ⟨G,q⟩ t=>by
  show RepD H ρ (za (putT _ p.1 p.2) l) (L2.putAll (Kw _ z.1 z.2.2) zs);rw[G];exact Q1s (Q9c r z.1 q) t
variable{o e:aH}{es:List aH}{mo:ME}{mr:Gam->Q0->Res (List PV)}{apos cpos:Pos}
end
def Q9n:List PV->Option (List (Int×Str))
|[]=>zo []
|.tup [.int x,.str y]::r=>(Q9n r).map ((x,y) :: ·)
|_::_=>zl
def kQ(p:Int×Str):HK:=.tup [.int p.1,.str p.2]
def Qvt{p:Int×Str}(h:kQ p=kQ q):p=q:=by
 unfold kQ at h;injection h with h
 injection h with h1 h
 injection h with h2 _
 injection h1 with h1
 injection h2 with h2
 exact cw h1 h2
def Qsi(acc:List (Int×Str))p:Z9 (acc.map kQ) (kQ p)=(Z9 acc p).map kQ:=by
 unfold Z9
 by_cases q:p∈acc
 ·rw[bU q,bU (E3.mpr ⟨p,q,rfl⟩)]
 ·rw[bV q,bV,E5]
  ·rfl
  ·intro h;obtain⟨x,j,e⟩:=E3.mp h;rw[Qvt e]at j;exact q j
def Qqt(ps:List (Int×Str)):Yy (ps.map kQ)=(Yy ps).map kQ:=by
 have j:∀(ps acc:List (Int×Str)),(ps.map kQ).foldl Z9 (acc.map kQ)=(ps.foldl Z9 acc).map kQ:=by
  intro ps
  induction ps with
  |nil=>intro acc;rfl
  |cons p ps q=>intro acc;rw[D3,F8,F8,Qsi,q]
 exact j ps []
def Q9m:∀{ps:List PV}{ns:List (Int×Str)}{vs:List V},Q9n ps=zo ns->RepL H ρ ps vs->aR (λv k=>∃b,v=.ref b/\KR H k b) vs (ns.map kQ)
|[],_,_,e,r=>by cases e;cases r;exact .nil
|.tup [.int x,.str y]::ps,_,_,e,⟨v,t,G,j,q⟩=>by
  have e:(Q9n ps).map ((x,y) :: ·)=zo _:=e;cases z:Q9n ps with
  |none=>rw[z]at e;cases e
  |some l=>
   rw[z]at e;cases e;subst G;exact .cons (U9 (p:=.tup [.int x,.str y]) rfl j) (Q9m z q)
def Qvm{H:Hp}{n:Int×Str}{b:aB}(h:KR H (kQ n) b):H b=zo (.tup [.int n.1,.str n.2]):=by
 obtain⟨⟨c,vs,e,j,I,J,z,k1,G,O,q,k2,k3⟩,_⟩:=h;cases e;cases k1;cases k2;cases k3;subst q;subst z;exact j
def Qes{H:Hp}:∀{bs:List aB}{ks:List HK},aR (λb k=>KR H k b) bs ks->∀{ms:List (Int×Str)},ks=ms.map kQ->aR (λb (n:Int×Str)=>H b=zo (.tup [.int n.1,.str n.2])) bs ms
|[],_,.nil,[],_=>.nil
|_::_,_::_,.cons _ _,[],e=>by cases e
|[],_,.nil,_::_,e=>by cases e
|b::bs,k::ks,.cons h t,m::ms,e=>by
  rw[D3]at e;injection e with q j
  exact .cons (Qvm (by rw[<- q];exact h)) (Qes t j)
def Qq9{ks:List HK}{ns:List (Int×Str)}(p:ks.Perm (ns.map kQ)):∃ms:List (Int×Str),ks=ms.map kQ/\ms.Perm ns:=by
 have h:∀k∈ks,∃n,k=kQ n:=λk I=>by
  obtain⟨n,_,e⟩:=E3.mp (p.mem_iff.mp I);exact⟨n,e.symm⟩
 have h2:∃ms:List (Int×Str),ks=ms.map kQ:=by
  clear p
  induction ks with
  |nil=>exact⟨[],rfl⟩
  |cons k ks q=>
   obtain⟨ms,e⟩:=q λx G=>h x (O3 _ G)
   obtain⟨n,z⟩:=h k (by simp);exact⟨n::ms,by rw[D3,<- e,z]⟩
 obtain⟨ms,e⟩:=h2;refine⟨ms,e,?_⟩;rw[e]at p;have j:∀l:List (Int×Str),(l.map kQ).filterMap Qcf=l:=λl=>by
  induction l with
  |nil=>rfl
  |cons x l q=>rw[D3,cj];show(x::(l.map kQ).filterMap Qcf)=_;rw[q]
 have:=p.filterMap Qcf
 rwa [j,j]at this
def zf(ma:ME):ME:=λΓ st=>(ma Γ st).bind λp st1=>match p with
|.tup ps=>match Q9n ps with
  |some ns=>if ns.length<64 then .ok (.lst ((Xe (Yy ns)).map prV)) st1 else .stuck
  |none=>.stuck
|_=>.stuck
def Q95(hu:X.A.units+9<aS)(ha:SimE X E a ma)(hc:X.calm=zb)(hg:Gl X "sorted")(hm:X.mg "sorted"=zl)(O:aX "sorted"=zo (.builtin "sorted"))(S:Gl X "set")(J:X.mg "set"=zl)(I:aX "set"=zo (.type "set"))(he:aN [a] X.env=(yo,aM a X.env)::aN [] X.env)(j:aN [.Call (.Name "set" p') [a] [] pos'] X.env=(yo,aM (.Call (.Name "set" p') [a] [] pos') X.env)::aN [] X.env):SimE X E (.Call (.Name "sorted" p) [.Call (.Name "set" p') [a] [] pos'] [] pos) (zf ma):=
 ⟨λΓ σ H ρ st Q R G hq=>WE.of (Jd (Q8g hc) hg hm O (Qk (zc (Qgz hu hc) S J I (Qk Jc Jb he) (by decide) (by decide) he rfl) Jb j) (by decide) (by decide) j rfl) (ha.use' R G hq.bind λq Z H1 ρ1 v e1 x1 R1 G1 r1 h1=>by
  split at h1
  ·rename_i ps
   split at h1
   ·rename_i ns ek
    split at h1
    ·rename_i hl;obtain⟨c,vs,rfl,U,_,rc⟩:=r1;refine⟨c,vs,ns.map kQ,rfl,SqT.of U,Q9m ek rc,by rw[O1];omega,λl bs a1 hn pk pb=>?_⟩;rw[Qqt]at pk;obtain⟨ms,rfl,pm⟩:=Qq9 pk;have a2:=Q08 ns;have lb:bs.length=ms.length:=by have:=Paired.length pb;rwa [O1]at this
     have Y:=Qes pb rfl;have up:∀{b:aB}{xs:List V},H1 b=zo (.tup xs)->(upd H1 l (Q6f X.w l bs)) b=zo (.tup xs):=λ{b xs} I=>by rw[Q7 (Qc I hn)];exact I
     refine⟨l,bs,ms,rfl,Qj,by rw[lb,pm.length_eq];omega,Paired.mapP Y λ_ _ z=>up z,λd ds hd pd=>?_⟩;rw[ye pm]at pd;have x2:Ext H1 ρ1 (upd H1 l (Q6f X.w l bs)) (ρ1.hide l):=Ext.hide hn;have R2:Rel (upd H1 l (Q6f X.w l bs)) (ρ1.hide l) Z:=R1.hide hn;have rl:=Q3f (Q2f R2) pd;exact h1 _ _ (x2.trans (Ext.add hd)) (R2.add hd) _ ⟨d,ds,rfl,Qj,R2.fresh hd,rl.ext (Ext.add hd)⟩
    ·exact h1.elim
   ·exact h1.elim
  ·exact h1.elim)⟩
variable{o:aH}{mo mi:ME}
section
variable{i:aH}
def Qat(st:Q0)(p q:PV):Res PV:=match Ut st p,qd q with
|some kvs,zo k=>match yb kvs k with
  |some v=>.ok v st
  |none=>.stuck
|_,_=>.stuck
def X7(mo mi:ME):ME:=λΓ st=>(mo Γ st).bind λp st1=>(mi Γ st1).bind λq st2=>Qat st2 p q
def Qi9(U:X.A.units+9<aS)(Y:SimE X E o mo)(hi:SimE X E i mi)(hs:Qwp i):SimE X E (.Subscript o i pos) (X7 mo mi):=
 ⟨λΓ σ H ρ st Q R G h=>WE.of (Qqa U Jc Jc hs) (Y.use R G h.bind λp a6 H1 ρ1 v1 x1 R1 I J h1=>hi.use R1 I h1.bind λq a4 H2 a5 v2 x2 R2 G2 S h2=>by
  unfold Qat at h2
  split at h2
  ·rename_i O k Z e2
   split at h2
   ·rename_i w j;obtain⟨n,a,vs,rfl,rfl,_,_,hb,rd⟩:=X9 R2 (J.ext x2) Z;obtain⟨b,rfl,kr⟩:=U9 e2 S;rcases xy k rd with⟨z,_⟩|⟨p,v,z,a2,a3⟩
    ·rw[z]at j;cases j
    ·rw[z]at j;cases j;exact⟨a,v,rfl,by have:=DGet.t (k:=k) hb kr;rwa [a2]at this,now R2 h2 a3⟩
   ·exact h2.elim
  ·exact h2.elim)⟩
def Qr1(ma:ME):ML:=λΓ st=>(ma Γ st).bind λp st1=>match Vf st1 p with
|some xs=>if xs.length<=1000000 then .ok xs.reverse st1 else .stuck
|none=>.stuck
def RepL.rev:∀{xs:List PV}{vs:List V},RepL H ρ xs vs->RepL H ρ xs.reverse vs.reverse
|[],_,r=>by cases r;exact RepL.nil
|x::xs,_,⟨v,t,e,j,q⟩=>by
  subst e;rw[du,du];exact(RepL.rev q).append (RepL.cons j RepL.nil)
def Q9d:∀{xs:List PV}{vs:List V},RepL H ρ xs vs->xs.length=vs.length
|[],_,r=>by cases r;rfl
|x::xs,_,⟨v,t,e,_,j⟩=>by subst e;rw[D6,D6,Q9d j]
def Qp6(ha:SimE X E a ma)(hc:X.calm=zb)(hg:Gl X "list")(hm:X.mg "list"=zl)(J:Gl X "reversed")(I:X.mg "reversed"=zl)(S:aX "reversed"=zo (.type "reversed"))(he:aN [a] X.env=(yo,aM a X.env)::aN [] X.env)(hs:aN [a] X.env=[(yo,aM a X.env)])(U:aN [.Call (.Name "reversed" p') [a] [] pos'] X.env=[(yo,aM (.Call (.Name "reversed" p') [a] [] pos') X.env)]):SimN X E (.Call (.Name "list" p) [.Call (.Name "reversed" p') [a] [] pos'] [] pos) (Qr1 ma):=
 ⟨λΓ σ H ρ st P Q R G hq k=>WE.of (Qby hc hg hm J I zx S (Qk Jc Jb he) hs U) (ha.use' R G hq.bind λq j H1 ρ1 v e1 x1 Z G1 r1 h1=>by
  split at h1
  ·rename_i xs ex
   split at h1
   ·rename_i Y;obtain⟨b,vs,rfl,hb,rl⟩:=x8 Z r1 ex;refine⟨b,vs,rfl,hb,by rw[<- Q9d rl];exact Y,Q7r x1 Z (RepL.rev rl) λH3 O z us=>k _ j H3 O z us ?_⟩;unfold Qr1;rw[e1];show(match Vf j q with|some xs=>if xs.length<=1000000 then Res.ok xs.reverse j else .stuck|none=>.stuck)=_;rw[ex];show(if xs.length<=1000000 then Res.ok xs.reverse j else .stuck)=_;rw[bU Y]
   ·exact h1.elim
  ·exact h1.elim)⟩
def J10(ma:ME):ML:=λΓ st=>(ma Γ st).bind λp st1=>match Ut st1 p with
|some kvs=>.ok (kvs.map λkv=>hkV kv.1) st1
|none=>.stuck
def xh:CF:=λst ps=>match ps with
|[.lst qs]=>match Q10 qs with
  |some l=>if l.length<=lim then .ok (.ref st.length) (st++[.dtp (za [] l)])else .stuck
  |none=>.stuck
|_=>.stuck
def Qmv(S:X.A.units+9<aS)(I:X.calm=zb):CallS X E (.type "dict") xh:=⟨λH ρ st ps xs Q R J h=>by
 unfold xh at h
 split at h
 ·rename_i Z;obtain⟨v,rfl,r⟩:=Zc J
  split at h
  ·rename_i l U
   split at h
   ·rename_i O;obtain⟨c,ws,rfl,j,_,z⟩:=r;obtain⟨zs,Y,q⟩:=Q3q U z;have G:l.length=zs.length:=Paired.length q;refine WC.of (Qd1 S I) ⟨c,ws,zs,rfl,j,Y,by rw[<- G];exact Yi O,λd hd=>?_⟩;have x:Ext H ρ (upd H d (.dT (L2.putAll [] zs))) (ρ.add d):=Ext.addT hd;refine h _ _ x (R.addC hd ⟨_,Qj,(Q1s (show RepD H ρ [] []from⟨rfl,RepL.nil⟩) q).ext x⟩) _ ⟨d,?_,rfl⟩;show(ρ.tr++[d])[st.length]?=zo d;rw[<- R.len,E4 (O6 _),cE];rfl
   ·exact h.elim
  ·exact h.elim
 ·exact h.elim⟩
def Qv4:OP:=λst p q=>match Ut st q with
|some _=>Q16 yo st p q
|none=>oIn yo st p q
def Qus(G:X.A.units+64<aS):OpS X E (aV .In) Qv4:=⟨λH ρ st p q x y Q R z j h=>by
 unfold Qv4 at h
 split at h
 ·exact(Qju ()).run H ρ st p q x y Q R z j h
 ·exact(Qsz G).run H ρ st p q x y Q R z j h⟩
end
variable{apos cpos dpos tpos tp:Pos}{f k:aH}{mf:ME}{tg:aH}{elts:List aH}{kt:Nat}
section
variable{i:aH}{mk:ME}
def Q6a(f:HK×PV->PV)(st:Q0):PV->Option (List PV×Nat×List (HK×PV))
|.ref i=>match st[i]? with
  |some (.dtp kvs)=>zo (kvs.map f,i,kvs)
  |_=>zl
|_=>zl
def Qkn{f:HK×PV->PV}{st:Q0}{p:PV}{ks:List PV}{i:Nat}{j:List (HK×PV)}(e:Q6a f st p=zo (ks,i,j)):p=.ref i/\ks=j.map f/\st[i]?=zo (.dtp j):=by
 unfold Q6a at e
 split at e
 ·split at e
  ·rename_i q;cases e;exact⟨rfl,rfl,q⟩
  ·cases e
 ·cases e
def K3(m:ME):MI:=λΓ st=>(m Γ st).bind λp st1=>match Q6a (λkv=>hkV kv.1) st1 p with
|some (ks,i,kvs)=>if ks.length<=lim then .ok (ks,[(i,.frt kvs)]) (st1.set i (.frt kvs))else .stuck
|none=>.stuck
def Qi1(ha:SimE X E e m):SimI X E tg e (K3 m):=⟨λΓ σ H ρ st P R' R G h k=>by
 have hb:Acc X.mg E H ρ _ (m Γ st):=Acc.bind h;refine WI.of (Qjc Jc) (ha.use' R G hb λp J H1 ρ1 v eq x1 R1 G1 r1 _=>?_);have hm:K3 m Γ st=(match Q6a (λkv=>hkV kv.1) J p with
  |some (ks,i,I)=>if ks.length<=lim then Res.ok (ks,[(i,.frt I)]) (J.set i (.frt I))else .stuck
  |none=>.stuck):=by unfold K3;rw[eq];rfl
 rw[hm]at h;cases ek:Q6a (λkv=>hkV kv.1) J p with
|none=>rw[ek]at h;exact h.elim
|some w=>
  obtain⟨ks,i,I⟩:=w;rw[ek]at h hm;obtain⟨rfl,rfl,ew⟩:=Qkn ek;have h:Acc X.mg E H ρ P (if(I.map (λkv=>hkV kv.1)).length<=lim then Res.ok (I.map (λkv=>hkV kv.1),[(i,.frt I)]) (J.set i (.frt I))else .stuck):=h
  by_cases Z:(I.map (λkv=>hkV kv.1)).length<=lim
  ·rw[bU Z]at h;have hm:K3 m Γ st=Res.ok (I.map (λkv=>hkV kv.1),[(i,.frt I)]) (J.set i (.frt I)):=hm.trans (bU Z);obtain⟨a,ea,rfl⟩:=r1;obtain⟨b,vs,eb,S,rd⟩:=R1.dtp ew;rw[ea]at eb;cases eb;refine⟨a,vs,rfl,S,λo hn=>?_⟩;have mem:=E6 ea;have x2:Ext H1 ρ1 (upd H1 a (.frz o (.dT vs))) ρ1:=Ext.put mem S;have R2:Rel (upd H1 a (.frz o (.dT vs))) ρ1 (J.set i (.frt I)):=R1.putC ea S ⟨vs,⟨o,Qj⟩,rd.ext x2⟩;have hi:i<J.length:=(O0.mp ew).1;refine k (I.map (λkv=>hkV kv.1),[(i,.frt I)]) (J.set i (.frt I)) _ ρ1 _ hm (x1.trans x2) R2 (G1.ext x2) (λy hy=>?_) (Yi Z) ?_ (h _ _ (x1.trans x2) R2)
   ·have:y=(i,.frt I):=by simpa using hy
    subst this;rw[D9 hi]
   ·have kl:vs.map bq=I.map bq:=rd.1;have len:I.length=vs.length:=rd.length;refine⟨λH2 Y U x R ok=>⟨x.frz a o _ Qj,by simp[len]⟩,λH2 Y U x R ok j hj=>⟨x.frz a o _ Qj,by rw[<- len];simpa using hj⟩,λH2 Y U x R ok j p hp y H3 hy=>?_⟩
    obtain⟨rfl,kv,b,a1,rfl,kr⟩:=hy;refine⟨Same.refl _,?_⟩;rw[D8]at hp;have O:(I.map bq)[j]?=zo kv.1:=by rw[<- kl,D8,a1];rfl
    rw[D8]at O;cases z:I[j]? with
    |none=>rw[z]at O;cases O
    |some q=>
     rw[z]at O hp;cases hp;have O:q.1=kv.1:=bt O;rw[<- O]at kr;exact Q87 (Q2f R) kr.1
  ·rw[bV Z]at h;exact h.elim⟩
def thawT(st st':Q0):Nat->Q0
|0=>st'
|n+1=>match st[n]?,(thawT st st' n)[n]? with
  |some (.dtp _),zo (.frt kvs)=>(thawT st st' n).set n (.dtp kvs)
  |_,_=>thawT st st' n
def Q1b(m:MS):MS:=λΓ st=>match m Γ st with
|.nx Γ' st'=>.nx Γ' (thawT st st' st.length)
|r=>r
def Q8v{pins:zAA}{st:Q0}(I:Inv X pins σ H s0)(R:Rel H ρ st)(x:Ext H ρ H' ρ')(R':Rel H' ρ' st')(G':EnvR H' ρ' S j):
  ∀n,∃G,Ext H ρ G ρ'/\Rel G ρ' (thawT st st' n)/\EnvR G ρ' S j/\∀pins s',Inv X pins j H' s'->Inv X pins j G s'
|0=>⟨H',x,R',G',λ_ _ h=>h⟩
|n+1=>by
  obtain⟨H1,x1,Y,G1,h1⟩:=Q8v I R x R' G' n;rw[thawT]
  split
  ·rename_i a1 a2 e1 e2;obtain⟨a,a3,U,ha,_⟩:=R.dtp e1;obtain⟨b,vs,o,Z,hb,rd⟩:=Y.frt e2;have O:ρ'.tr[n]?=zo a:=by
    obtain⟨more,em⟩:=x.pre;rw[<- em,O7 (O0.mp U).1];exact U
   rw[O]at Z;cases Z;have J:=E6 O;have mem:=E6 U;refine⟨upd H1 a (.dT vs),⟨x1.pre,x1.hidM,x1.hidN,λb u q nb=>?_,x1.new,λb u q=>?_,λb u w q=>?_⟩,Y.putC O hb ⟨vs,Qj,rd.1,rd.2.retr J⟩,G1.retr J,λpins s' h=>(h1 pins s' h).thawT hb (I.noFrzT ha)⟩
   ·rw[Q7 (show b≠a from λz=>nb (by rw[z];exact mem))];exact x1.keep b u q nb
   ·by_cases z:b=a
    ·exact⟨_,by rw[z];exact Qj⟩
    ·rw[Q7 z];exact x1.old b u q
   ·rw[Q7 (show b≠a from λz=>by rw[z,ha]at q;cases q)];exact x1.frz b u w q
  ·exact⟨H1,x1,Y,G1,h1⟩
def Qhr{s:aL}{m:MS}(h:SimS X E s m):SimS X E s (Q1b m):=⟨λΓ σ H ρ st D R G z pins s0 I=>by
 let Y:Ends:={D with nx:=λj H'=>∃q,(∀pins s',Inv X pins j H' s'->Inv X pins j q s')/\D.nx j q}
 have acc:AccS X.mg E Y H ρ (m Γ st):=by
  unfold Q1b at z;cases O:m Γ st with
  |nx S J=>
   rw[O]at z;intro j H' ρ' x R' G';obtain⟨q,x2,R2,Z,h2⟩:=Q8v I R x R' G' st.length;exact⟨q,h2,z j q ρ' x2 R2 Z⟩
  |ct S J=>rw[O]at z;exact z
  |bk S J=>rw[O]at z;exact z
  |rt v J=>rw[O]at z;exact z
  |exc y J=>rw[O]at z;exact z
  |stuck=>rw[O]at z;exact z.elim
 refine thn (h.run Γ σ H ρ st Y R G acc pins s0 I) λf s' U=>?_
 cases f with
|next=>
  obtain⟨j,H',I',q,h1,h2⟩:=U;exact⟨j,q,h1 pins s' I',h2⟩
|brk=>exact U
|cont=>exact U
|ret u=>exact U⟩
end
def Qaa(mo:ME):ME:=λΓ st=>(mo Γ st).bind λp st1=>match p with
|.ref i=>match st1[i]? with
  |some (.lst _)=>.ok .non (st1.set i (.lst []))
  |some (.dtp _)=>.ok .non (st1.set i (.dtp []))
  |_=>.stuck
|_=>.stuck
def Qpi(Z:SimE X E o mo)(q:bB o "clear" X.env (aM o X.env)=aM o X.env)(z:(apos.endLine==cpos.line)=zb):SimE X E (.Call (.Attribute o "clear" apos) [] [] cpos) (Qaa mo):=
 ⟨λΓ σ H ρ st Q R G h=>WE.of (Qui Jc q z) (Z.use R G h.bind λp j H1 ρ1 v x1 I G1 S h1=>by
  split at h1
  ·rename_i i
   split at h1
   ·rename_i xs e;have el:V2 j (.ref i)=zo xs:=Q67 e;obtain⟨a,vs,rfl,Y,_⟩:=Zv I S el;refine .inl ⟨.inl ⟨rfl,vs,.inl Y⟩,ms_clear.run (E:=E) H1 ρ1 j (.ref i) [] _ [] Q I S rfl ?_⟩;have:Q2p j (.ref i) []=.ok .non (j.set i (.lst [])):=by
     simp only[Q2p,chg,e]
    rw[this];exact h1
   ·rename_i a1 e;obtain⟨a,O,rfl⟩:=S;obtain⟨b,vs,U,J,rd⟩:=I.dtp e;rw[O]at U;cases U;refine .inr ⟨.inr (.inr (.inl ⟨rfl,.inr ⟨vs,J⟩⟩)),WM.of Qc7 ⟨a,vs,rfl,rfl,J,?_⟩⟩;have x2:Ext H1 ρ1 (upd H1 a (.dT [])) ρ1:=Ext.put (E6 O) J;exact h1 _ ρ1 x2 (I.putC O J ⟨_,Qj,rfl,rfl⟩) _ rfl
   ·exact h1.elim
  ·exact h1.elim)⟩
end Sm
namespace Sm
open PySem PySem.Spec L2 SeqAt
variable{X:Cx}{E:XK}{pos p:Pos}{e:aH}{m:ME}{n:Str}{ss:List Str}
def Qf9(tg:TupG X.K X.mg n ss)(J:Gl X n)(Z:SimE X E e m)(hd:(n==("__debug__":Str))=yo):SimT X E (.Compare e [.NotIn] [.Name n p] pos) (toB (Q7u zb ss m)):=by
 obtain⟨a,o,its,k,hm,U,O,j,hz,S⟩:=tg.ex;refine⟨λΓ σ H ρ st Q R G h=>WT.of (Q2k Q00 Jc (Z5 (v:=.ref a) J hm rfl hd) rfl) (Z.use R G h.bind.bind λq a1 H1 ρ1 v x1 I G1 Y h1=>?_)⟩;cases q with
|str x=>
  cases Y;refine⟨a,ss.map V.str,rfl,.inr (.inr ⟨o,its,k,U,O,j,hz,S⟩),rfl,by simp[jr],?_⟩;rw[Q0i];have h2:=h1 H1 ρ1 (Ext.refl _ _) I;rw[show(Xb ss x !=zb)=!Xb ss x by cases Xb ss x<;>rfl]at h2;obtain⟨k,e,z⟩:=Qey I (p:=.bl (!Xb ss x)) rfl h2;exact⟨k,e,z⟩
|_=>exact h1.elim
end Sm
namespace Sm
open PySem PySem.Spec L2
def tgN:aH->List Str
|.Name x _=>[x]
|.Tuple es _ _=>es.flatMap λe=>match e with
  |.Name x _=>[x]
  |_=>[]
|_=>[]
def Q22(N:List Str)(tg:aH)(cap:zAC):List Str:=tgN tg++cap.filterMap λo=>o.bind (N[·]?)
def Qyw{l:List Str}(h:decide l.Nodup=zb):l.Nodup:=of_decide_eq_true h
structure KR(b:Bool):Prop where
h:b=zb
variable{X:Cx}{E:XK}{pos:Pos}{tg iter elt:aH}{ifs:List aH}{sc:Scope}{ga:GA}{mi:MI}{mt:MT}{me:ME}{px cpos:Pos}
section
variable{cap:zAC}{i:Nat}{x:Str}
def Qhy(j:X.calm=zb)(I:KR (compOkC X.N (Q22 X.N tg cap) sc X.env.scope cap))(hs:∀x,bF iter X.env x=pure x)(z:Q23 cap ga)(hi:SimI X E tg iter mi)(q:∀cl C s0 H0 ex,SimG (Y7 X (Q22 X.N tg cap) sc cl C s0 H0 ex) tg ga)(J:∀cl C s0 H0 ex,SimE (Y7 X (Q22 X.N tg cap) sc cl C s0 H0 ex) E0 elt me)(G:∀cl C s0 H0 ex,SimTs (Y7 X (Q22 X.N tg cap) sc cl C s0 H0 ex) ifs mt):SimN X E (.ListComp elt [⟨tg,iter,ifs,0⟩] sc pos) (Ja cap ga mi mt me):=
 Q2i cap _ j hi q J G z rfl rfl I.h hs
def Qfa(z:swapsWith (.ListComp elt [⟨tg,iter,ifs,0⟩] sc cpos) (zo (.Name x px)) pos.line X.env=pure zb)(q:X.N.Nodup)(j:X.calm=zb)(G:X.N[i]?=zo x)(Y:Loc X.env.scope x)(U:KR (compOkC X.N (Q22 X.N tg cap) sc X.env.scope cap))(hs:∀x,bF iter X.env x=pure x)(I:X.fn x=zb\/X.env.scope.names.lookup x=zo .local)(O:Q23 cap ga)(hi:SimI X E tg iter mi)(J:∀cl C s0 H0 ex,SimG (Y7 X (Q22 X.N tg cap) sc cl C s0 H0 ex) tg ga)(Z:∀cl C s0 H0 ex,SimE (Y7 X (Q22 X.N tg cap) sc cl C s0 H0 ex) E0 elt me)(S:∀cl C s0 H0 ex,SimTs (Y7 X (Q22 X.N tg cap) sc cl C s0 H0 ex) ifs mt):SimS X E (.Assign [.Name x px] (.ListComp elt [⟨tg,iter,ifs,0⟩] sc cpos) pos) (J1 i (V1 (Ja cap ga mi mt me))):=
 Q36 cap _ i q j hi J Z S O G Y z rfl rfl U.h hs I
end
structure AtS(K:bZ)(mg:zAE)(name:Str)(st:aL)(ps:List Str)(f:aB)(fd:aP):Prop where
F:Fun K name name st f fd
m:mg name=zo (.ref f)
b:Binds K fd ps []
def Qwh{K:bZ}{h:Heap}{st:aL}{ps:List Str}{kV j:aA}(X:K.In h)(G:h.Ns aQ mg)(a:bg K aQ name=zo (zo (.ref f)))(l:K.lookup f=zo ⟨U,S,.func (cB name name (Yt st) (Z7 st) (Q9 st) .none kV q I z j ct),O⟩)(c:cv K j name=zb)(k:cL K (.ref f)=zb)(b:∀kV q I z j ct(J:List aA),J.length=ps.length->bindArgs (cB name name (Yt st) (Z7 st) (Q9 st) .none kV q I z j ct) ⟨J,[]⟩=pure (ps.zip J)):
  AtS K mg name st ps f (cB name name (Yt st) (Z7 st) (Q9 st) .none kV q I z j ct):=
 have F:=Qmd (st:=st) l c k
 ⟨F,bo X G a,F.binds b⟩
def AtS.def{P:aK}{w:aJ}{K:bZ}{mg:zAE}{base:Heap}{name:Str}{st:aL}{ps:List Str}{f:aB}{fd:aP}{k n:Nat}{F:FN}(a:AtS K mg name st ps f fd)(j:ps.length=n)(G:FnOk P w K mg base (CXD P w) k f fd ps (spF mg n F)):DefS P w K mg base k name n F:=
 ⟨f,fd,ps,G,a.m,a.F.kp,a.b,j⟩
def AtS.defX{K:bZ}{st:aL}(a:AtS K mg name st ps f fd)(G:FnOk P w K mg base (CXD P w) k f fd ps sp):DefX P w K mg base k name ps sp:=⟨f,fd,G,a.m,a.F.kp,a.b⟩
def FL(K:bZ)(x ql:Str)(s:aL)(f:aB):Prop:=∃(oc:aA)(od:Option aB)(kV dc pm:aA)(an:Option aB)(cd ct:aA)(sl:Array (Option aA)),K.lookup f=zo ⟨oc,od,.func (cB x ql (Yt s) (Z7 s) (Q9 s) .none kV dc pm an cd ct),sl⟩/\cv K cd ql=zb/\cL K (.ref f)=zb
def FL.fn{K:bZ}(h:FL K x j s f):∃fd,Fun K x j s f fd:=let ⟨_,_,_,_,_,_,_,_,_,l,c,k⟩:=h;⟨_,Qmd l c k⟩
def FA(K:bZ)(x:Str)(s:aL)(f:aB):Prop:=bg K aQ x=zo (zo (.ref f))/\FL K x x s f
def FA.mk{K:bZ}{kV:aA}(a:bg K aQ x=zo (zo (.ref f)))(l:K.lookup f=zo ⟨z,q,.func (cB x x (Yt s) (Z7 s) (Q9 s) .none kV J I j cd ct),G⟩)(c:cv K cd x=zb)(k:cL K (.ref f)=zb):FA K x s f:=⟨a,_,_,_,_,_,_,_,_,_,l,c,k⟩
def ln1{α:Type}{l:List α}(h:l.length=1):∃a,l=[a]:=match l,h with|[_],_=>⟨_,rfl⟩
def ln2{α:Type}{l:List α}(h:l.length=2):∃a b,l=[a,b]:=match l,h with|[_,_],_=>⟨_,_,rfl⟩
def ln3{α:Type}{l:List α}(h:l.length=3):∃a b c,l=[a,b,c]:=match l,h with|[_,_,_],_=>⟨_,_,_,rfl⟩
def ln4{α:Type}{l:List α}(h:l.length=4):∃a b c d,l=[a,b,c,d]:=match l,h with|[_,_,_,_],_=>⟨_,_,_,_,rfl⟩
def FL.bd{K:bZ}{ps:List Str}(h:FL K x q s f)(b:∀kV G J I z ct(j:List aA),j.length=ps.length->bindArgs (cB x q (Yt s) (Z7 s) (Q9 s) .none kV G J I z ct) ⟨j,[]⟩=pure (ps.zip j)):∃fd,Fun K x q s f fd/\Binds K fd ps []:=
 let ⟨_,F⟩:=h.fn
 ⟨_,F,F.binds b⟩
def Zw{K:bZ}{h:Heap}{st:aL}(ps:List Str)(X:K.In h)(G:h.Ns aQ mg)(a:FA K name st f)(b:∀kV I O J z ct(j:List aA),j.length=ps.length->bindArgs (cB name name (Yt st) (Z7 st) (Q9 st) .none kV I O J z ct) ⟨j,[]⟩=pure (ps.zip j):=by
   intro _ _ _ _ _ _ j q
   first|(obtain⟨_,rfl⟩:=ln1 q;rfl)|(obtain⟨_,_,rfl⟩:=ln2 q;rfl)|(obtain⟨_,_,_,rfl⟩:=ln3 q;rfl)|(obtain⟨_,_,_,_,rfl⟩:=ln4 q;rfl)):∃fd,AtS K mg name st ps f fd:=
 let ⟨a,l⟩:=a
 let ⟨_,F,B⟩:=l.bd b
 ⟨_,F,bo X G a,B⟩
def AtS.d{K:bZ}{mg:zAE}{name:Str}{st:aL}{ps:List Str}{f:aB}{fd:aP}{k n:Nat}{F:FN}(a:AtS K mg name st ps f fd)(P:aK)(w:aJ)(base:Heap)(j:ps.length=n)(G:FnOk P w K mg base (CXD P w) k f fd ps (spF mg n F)):DefS P w K mg base k name n F:=a.def j G
def noL(K:bZ):Bool:=K.all λp=>match p.2.data with
|.seq _ _=>(match p.2.cls with
  |.type n=>!(n==("list":Str))
  |_=>zb)
|_=>zb
def Qcc{K:bZ}(h:K.lookup a=zo o):(a,o)∈K:=by
 induction K with
|nil=>cases h
|cons p K j=>
  obtain⟨b,u⟩:=p;rw[cS]at h;cases e:a==b with
  |true=>
   rw[e]at h;have:a=b:=by simpa using e
   subst this;cases h;exact E7
  |false=>
   rw[e]at h;exact O3 _ (j h)
def Qv5{K:bZ}{o:Obj}(q:noL K=zb)(h:K.lookup a=zo o)(j:o.cls=.type "list")(hd:o.data=.seq its n):False:=by
 have:=F4.mp q _ (Qcc h);simp[j,hd]at this
def Q5y:∀ns:List Int,RepL H ρ (ns.map .int) (ns.map V.int)
|[]=>rfl
|n::ns=>⟨_,_,rfl,rfl,Q5y ns⟩
def Qpp H:Rel H Tk.nil []:=⟨rfl,dC,λa h=>(by cases h),λa h=>(by cases h),λi a c h=>(by simp[Tk.nil]at h)⟩
def Q70(K:bZ):Sp:=λvs H Q _=>∃(a:aB)(ns:List Int),vs=[.ref a]/\SqL K H a (ns.map V.int)/\ns.length<=63/\∀H',Q (.bl zb) H'
def Qrb{K:bZ}{FL:FN}(z:noL K=zb)(F:FnOk P w K mg base CX k f fd ps (spF mg 1 FL))(j:∀ns:List Int,ns.length<=63->∃st',FL [.fro (ns.map .int)] []=.ok (.bl zb) st'):FnOk P w K mg base CX k f fd ps (Q70 K):=F.imp λvs H Q E ⟨a,ns,e,q,I,O⟩=>by
 subst e;obtain⟨st',G⟩:=j ns I;have S:Rd H a (.lst (ns.map V.int)):=by
  rcases q with h|⟨o,its,n,h1,h2,U,J,_⟩
  ·exact h
  ·exact(Qv5 z h1 h2 J).elim
 refine⟨rfl,Tk.nil,[],[.fro (ns.map .int)],Qpp H,⟨_,_,rfl,⟨a,_,rfl,S,Tk.not_nil a,Q5y ns⟩,rfl⟩,?_⟩;rw[G];intro H' ρ' x R v r;have e:v=.bl zb:=r;subst e;exact O H'
def Qms(h:CXD P w [] H s (λ_ _ _=>False) e s'):False:=by
 obtain⟨_,_,_,_,_,_,_,_,_,z⟩:=h;exact z
def walkS{l:fj}{I:aJ->Heap->Prop}{d:DefRec}{K:Params->bZ}(hn:l.most=zo 63)(O:Room k callerA)(G:d.params.defaults=[])(U:∀(w:aJ)h,I w h->(K w.params).In h)(F:∀(w:aJ)(mg:zAE)J(h:Heap),(K w.params).In h->h.Ns aQ mg->mg d.name=zo (.ref J)->
   ∃fd:aP,(∀s u,BindsTo s fd ⟨[u],[]⟩ [("script",u)])/\∀base:Heap,(K w.params).In base->base.Ns aQ mg->FnOk l.prog w (K w.params) mg base (CXD l.prog w) k J fd ["script"] (Q70 (K w.params))):
  iD q j Z I l.row.toRowW d [] (λf vs=>fh f vs):=
 L2.walk_of (n:=63) (k:=k) (x:="script") (CX:=λw=>CXD l.prog w) (sp:=λw=>Q70 (K w.params)) hn (by decide) G O U F (λ_ _ a ns Y _ S=>⟨a,ns,rfl,S,Y,λ_=>rfl⟩) λ_ _ _ _ _ z=>Qms z
end Sm
namespace Lw
open PySem PySem.Spec L2 Sm
def top(i:Nat):aL:=PySem.Challenge.pw_lendwharf_k66_whole_rests.main.body.getD i (.Pass ⟨0,0,0,0⟩)
abbrev yq:aL:=top 18
abbrev Ku:aL:=top 19
abbrev Vk:aL:=top 20
abbrev Q0x:aL:=top 21
abbrev j3:aL:=top 29
abbrev Y4:aL:=top 30
abbrev Q0y:aL:=top 31
abbrev j6:aL:=top 32
abbrev Kv:aL:=top 33
abbrev qz:aL:=top 34
abbrev Xr:aL:=top 35
abbrev j5:aL:=top 36
abbrev Xs:aL:=top 37
abbrev Wf:aL:=top 38
abbrev X0:aL:=top 39
abbrev Q3b:aL:=top 42
abbrev Uh:aL:=top 43
abbrev Vm:aL:=top 44
abbrev Q3a:aL:=top 45
abbrev j4:aL:=top 47
abbrev Uz:aL:=top 48
abbrev Ug:aL:=top 49
abbrev Q77:aL:=top 50
abbrev Vn:aL:=top 52
abbrev X2:aL:=top 53
abbrev Xw:aL:=top 54
abbrev Yg:aL:=top 55
abbrev Xv:aL:=top 56
abbrev Ui:aL:=top 57
abbrev Xy:aL:=top 58
abbrev Xu:aL:=top 59
abbrev Uj:aL:=top 60
abbrev Xt:aL:=top 61
abbrev Ww:aL:=top 62
abbrev Yx:aL:=top 63
abbrev Yf:aL:=top 64
abbrev Xx:aL:=top 65
abbrev Vp:aL:=top 66
abbrev X1:aL:=top 67
abbrev xu:aL:=top 68
structure Txt(K:bZ)(mg:zAE):Prop where
b_all:mg "all"=zl
b_bool:mg "bool"=zl
b_dict:mg "dict"=zl
b_enumerate:mg "enumerate"=zl
b_int:mg "int"=zl
b_isinstance:mg "isinstance"=zl
b_len:mg "len"=zl
b_list:mg "list"=zl
b_min:mg "min"=zl
b_range:mg "range"=zl
b_reversed:mg "reversed"=zl
b_set:mg "set"=zl
b_sorted:mg "sorted"=zl
b_str:mg "str"=zl
b_tuple:mg "tuple"=zl
c_MOST_SIGNS_OF_WORD:∃t,mg "MOST_SIGNS_OF_WORD"=zo (.int 8 t)
c_MOST_STOCK:∃t,mg "MOST_STOCK"=zo (.int 20 t)
c_MOST_STARTS:∃t,mg "MOST_STARTS"=zo (.int 4 t)
c_MOST_RULES:∃t,mg "MOST_RULES"=zo (.int 60 t)
c_MOST_USE_AT_ONCE:∃t,mg "MOST_USE_AT_ONCE"=zo (.int 9 t)
c_MOST_LETTERS_OF_RULE:∃t,mg "MOST_LETTERS_OF_RULE"=zo (.int 8 t)
c_MOST_STANDS:∃t,mg "MOST_STANDS"=zo (.int 2000 t)
u_EVENTS_WITHOUT_LETTER:TupG K mg "EVENTS_WITHOUT_LETTER" ["go","fall"]
local macro_rules|`(tactic|fail "m")=>do let a:=(("Qt Qg J7 Jz Zk Kt Ym Qdn Q6z Qxx Qbh W7 Qgq Uw Qmh Qmg Q76 Qu0 Q5w Q5v Qic Qia Qpi Qtz Qi9 Qfh Q39 Qph Qty Qtx Qtw Qpg Qbn Qbm Qtv Qtu Qfg Qtt Qxw Qi8 Q95 Qts Qi7 yp Q74 Qi2 qy Qdm Qp9 Qi1 Vj Qi0 Qtr Qtq Qp7 Qp6 Qhx Qp5 Qp4 Qhu Qht xr Qdi Qbi Qdh Qhs Qtp Qhr Q8z Qhq Qtn Qf9 Qbg z7 Qnx Qtm Qnv Qxs Qtk".splitOn " ").map λn=>Lean.mkIdent (.mkSimple n)).toArray;`(tactic|with_reducible first $[|apply $a]* | refine Kh (T := "dict") (o:=xh) ?_ ?_ ?_ ?_ ?_ ?_ ?_ ?_ ?_ | refine Kh (T := "list") (o:=Kb) ?_ ?_ ?_ ?_ ?_ ?_ ?_ ?_ ?_ | refine Kh (T := "tuple") (o:=Wh) ?_ ?_ ?_ ?_ ?_ ?_ ?_ ?_ ?_ | apply Qib | apply Qhy | apply SimW.t)
local macro_rules|`(tactic|fail "o")=>do let a:=(("Qw9 Qmv Qw8 Qs4 Qav Qw7 Qmu Q4u Qk4 Qut Qqe Qyg Qyf Qye Qsz Qus Qju Qjt Qyd Qur Qyc Quq Qup Qsy Q60 Qun Qum".splitOn " ").map λn=>Lean.mkIdent (.mkSimple n)).toArray;`(tactic|first | (with_reducible first $[|apply $a]*))
local macro_rules | `(tactic| fail "r")=>`(tactic| first | rfl | assumption | decide | exact .inl rfl | exact .inr rfl | exact .inr (.inl rfl) | exact .inr (.inr rfl) | exact λ_=>rfl | exact λ_ _=>rfl | exact λ_ _ _=>rfl | exact ⟨by kernel_rfl⟩ | exact Q41 _ | exact Room.mono ‹_› (by decide) | exact Wy | exact zd | exact PassesOwn.leaving | exact FnScope.nd ‹_› | exact Qyw (by kernel_rfl) | exact xw ‹_› | exact Room.units ‹_› | exact Qis | with_unfolding_all rfl)
local macro_rules|`(tactic|fail "s")=>do let a:=(("jW Qn6 Qh6 Qh5 Qn5 Qm zx Qn4 Qn3 Qb2 Qn2 xi".splitOn " ").map λn=>Lean.mkIdent (.mkSimple n)).toArray;`(tactic|first | (with_reducible first $[|exact $a]*) | rfl | (fail "m" <;> fail "s") | (fail "o" <;> fail "r") | ((first | apply Qfa | apply ss_compTA | apply Xq) <;> fail "s") | fail "r" | (intro _ _ _ _ _; fail "s"))
local macro_rules | `(tactic| fail "k")=>`(tactic| (refine Qrq ‹_› ‹_› rfl rfl rfl ?_; fail "j"))
local macro_rules | `(tactic| fail "K")=>`(tactic| (refine Q4q ‹_› ‹_› rfl rfl rfl ?_; fail "j"))
local macro_rules | `(tactic| fail "j")=>`(tactic| (intros; rcases ‹Txt _ _› with ⟨_,_,_,_,_,_,_,_,_,_,_,_,_,_,_,⟨_,_⟩,⟨_,_⟩,⟨_,_⟩,⟨_,_⟩,⟨_,_⟩,⟨_,_⟩,⟨_,_⟩,_⟩; show SimB _ _ (_ :: _) _; fail "s"))
local macro_rules | `(tactic| fail "c")=>`(tactic| exact ⟨rfl,rfl,rfl,by decide +kernel,rfl,by decide +kernel,by decide +kernel⟩)
variable{P:aK}{K:bZ}{mg:zAE}{base:Heap}
section
variable{w:aJ}
def yx:MS:=(J2 (yz (jj "int" (Q2 0)) (Qvd (jj "bool" (Q2 0)))))
def Vy:FN:=Jw yx 1
def Q9t(F:Fun K "is_whole" "is_whole" yq f fd)(T:Txt K mg):FnOk P w K mg base (CXD P w) 1 f fd ["thing"] (spF mg 1 Vy):=by
 have:FnScope ["thing"] ["thing"] (Q9 yq):=by fail "c"
 delta Vy yx
 fail "k"
def Kz:MS:=(J2 (yz (Qa 1 Vy (Q1 (Q2 0) Q6)) (qb (oI λa b=>.bl (decide (a<=b))) (oI λa b=>.bl (decide (a<=b))) (Q2 1) (Q2 0) (Q2 2))))
def J9:FN:=Jw Kz 3
def Q5c(F:Fun K "is_between" "is_between" Ku f fd)(T:Txt K mg)(j:DefS P w K mg base 1 "is_whole" 1 Vy):FnOk P w K mg base (CXD P w) 2 f fd ["thing","least","most"] (spF mg 3 J9):=by
 have:FnScope ["thing","least","most"] ["thing","least","most"] (Q9 Ku):=by fail "c"
 delta J9 Kz
 fail "k"
def Yq:MS:=(J2 (yz (jj "tuple" (Q2 0)) (qb (oI λa b=>.bl (decide (a<=b))) (oI λa b=>.bl (decide (a<=b))) (Q2 1) (Qx Yc (Q1 (Q2 0) Q6)) (Q2 2))))
def Qp:FN:=Jw Yq 3
def Q01(F:Fun K "is_sized_tuple" "is_sized_tuple" Vk f fd)(T:Txt K mg):FnOk P w K mg base (CXD P w) 1 f fd ["thing","least","most"] (spF mg 3 Qp):=by
 have:FnScope ["thing","least","most"] ["thing","least","most"] (Q9 Vk):=by fail "c"
 delta Qp Yq
 fail "k"
def Xj:ME:=(qb Qg2 Qg2 (mC (.str "a")) (Q2 0) (mC (.str "z")))
def Q19:MS:=(Qd (Jm (Kr (Zx (toB (jj "str" (Q2 0)))) (Zx (toB (qb (oI λa b=>.bl (decide (a<=b))) (oI λa b=>.bl (decide (a<=b))) (mC (.int 1)) (Qx Yc (Q1 (Q2 0) Q6)) (mC (.int 8)))))) (J2 (mC (.bl yo))) J3)
  (J2 (Qx (jw λns=>.bl (ns.all id)) (Q1 (V1 (Ja [zl] (Qb 0) (Qe3 (Q2 0)) Ya Xj)) Q6))))
def Yv:FN:=Jw Q19 1
def Qc1(F:Fun K "is_word" "is_word" Q0x f fd)(T:Txt K mg):FnOk P w K mg base (CXD P w) 1 f fd ["thing"] (spF mg 1 Yv):=by
 have:FnScope ["thing"] ["thing"] (Q9 Q0x):=by fail "c"
 delta Yv Q19 Xj
 fail "k"
def je:MS:=(Qd (Jm (Kr (Zx (toB (Qa 3 Qp (Q1 (Q2 1) (Q1 (mC (.int 2)) (Q1 (mC (.int 2)) Q6)))))) (Zx (toB (Qa 3 J9 (Q1 (mOp oIx (Q2 1) (mC (.int 0))) (Q1 (mC (.int 0)) (Q1 (mOp (oI λa b=>.int (a-b)) (Q2 0) (mC (.int 1))) Q6))))))) (J2 (mC (.bl yo))) J3)
  (J2 (yz (Qa 1 Yv (Q1 (mOp oIx (Q2 1) (mC (.int 1))) Q6)) (Q7u zb ["go","fall"] (mOp oIx (Q2 1) (mC (.int 1)))))))
def Ub:FN:=Jw je 2
def Q7k(F:Fun K "is_letter" "is_letter" j3 f fd)(T:Txt K mg)(j:DefS P w K mg base 1 "is_sized_tuple" 3 Qp)(q:DefS P w K mg base 2 "is_between" 3 J9)(z:DefS P w K mg base 1 "is_word" 1 Yv):FnOk P w K mg base (CXD P w) 3 f fd ["n","thing"] (spF mg 2 Ub):=by
 have:FnScope ["n","thing"] ["n","thing"] (Q9 j3):=by fail "c"
 delta Ub je
 fail "k"
def Wm:ME:=(Qa 2 Ub (Q1 (Q2 1) (Q1 (Q2 0) Q6)))
def Y5:MS:=(J2 (yz (Qa 3 Qp (Q1 (Q2 1) (Q1 (mC (.int 0)) (Q1 (mC (.int 8)) Q6)))) (Qx (jw λns=>.bl (ns.all id)) (Q1 (V1 (Ja [zl,zo 0] (Qb 0) (W1 (Q2 1)) Ya Wm)) Q6))))
def Ji:FN:=Jw Y5 2
def Ky(F:Fun K "are_letters_of_rule" "are_letters_of_rule" Y4 f fd)(T:Txt K mg)(j:DefS P w K mg base 1 "is_sized_tuple" 3 Qp)(q:DefS P w K mg base 3 "is_letter" 2 Ub):FnOk P w K mg base (CXD P w) 4 f fd ["n","thing"] (spF mg 2 Ji):=by
 have:FnScope ["n","thing"] ["n","thing"] (Q9 Y4):=by fail "c"
 delta Ji Y5 Wm
 fail "k"
def Q1z:ME:=(Qa 1 Yv (Q1 (Q2 0) Q6))
def Q1a:MS:=(Qd (Jm (Kr (Zx (toB (Qa 3 Qp (Q1 (Q2 1) (Q1 (mC (.int 6)) (Q1 (mC (.int 6)) Q6)))))) (Zx (toB (Qa 3 J9 (Q1 (mOp oIx (Q2 1) (mC (.int 0))) (Q1 (mC (.int 0)) (Q1 (mOp (oI λa b=>.int (a-b)) (Q2 0) (mC (.int 1))) Q6))))))) (J2 (mC (.bl yo))) J3)
  (Qd (Jm (Zx (toB (Qx (jw λns=>.bl (ns.all id)) (Q1 (V1 (Ja [zl] (Qb 0) (W1 (mSl (Q2 1) (Q1u (mC (.int 1))) (Q1u (mC (.int 4))))) Ya Q1z)) Q6)))) (J2 (mC (.bl yo))) J3)
  (J2 (yz (Qa 3 J9 (Q1 (mOp oIx (Q2 1) (mC (.int 4))) (Q1 (mC (.int 0)) (Q1 (mC (.int 9)) Q6)))) (Qa 2 Ji (Q1 (Q2 0) (Q1 (mOp oIx (Q2 1) (mC (.int 5))) Q6)))))))
def Kq:FN:=Jw Q1a 2
def Qc2(F:Fun K "is_rule" "is_rule" Q0y f fd)(T:Txt K mg)(q:DefS P w K mg base 1 "is_sized_tuple" 3 Qp)(z:DefS P w K mg base 2 "is_between" 3 J9)(G:DefS P w K mg base 1 "is_word" 1 Yv)(j:DefS P w K mg base 4 "are_letters_of_rule" 2 Ji):FnOk P w K mg base (CXD P w) 5 f fd ["n","thing"] (spF mg 2 Kq):=by
 have:FnScope ["n","thing"] ["n","thing"] (Q9 Q0y):=by fail "c"
 delta Kq Q1a Q1z
 fail "k"
def yi:ME:=(Qa 2 Kq (Q1 (Q2 1) (Q1 (Q2 0) Q6)))
def jg:MS:=(Qd (Jm (Kr (Zx (toB (Qa 3 Qp (Q1 (Q2 1) (Q1 (mC (.int 0)) (Q1 (mC (.int 60)) Q6)))))) (Zx (toB (Qx (jw λns=>.bl (ns.all id)) (Q1 (V1 (Ja [zl,zo 0] (Qb 0) (W1 (Q2 1)) Ya yi)) Q6))))) (J2 (mC (.bl yo))) J3)
  (J2 (mOp oEq (Q0c (Q2 1)) (Qx Yc (Q1 (Q2 1) Q6)))))
def Ud:FN:=Jw jg 2
def Q7p(F:Fun K "are_rules" "are_rules" j6 f fd)(T:Txt K mg)(j:DefS P w K mg base 1 "is_sized_tuple" 3 Qp)(q:DefS P w K mg base 5 "is_rule" 2 Kq):FnOk P w K mg base (CXD P w) 6 f fd ["n","thing"] (spF mg 2 Ud):=by
 have:FnScope ["n","thing"] ["n","thing"] (Q9 j6):=by fail "c"
 delta Ud jg yi
 fail "k"
def js:ME:=(Qa 1 Yv (Q1 (Q2 0) Q6))
def qa:MS:=(J2 (yz (Qa 3 Qp (Q1 (Q2 0) (Q1 (mC (.int 1)) (Q1 (mC (.int 4)) Q6)))) (Qx (jw λns=>.bl (ns.all id)) (Q1 (V1 (Ja [zl] (Qb 0) (W1 (Q2 0)) Ya js)) Q6))))
def Vd:FN:=Jw qa 1
def Q5d(F:Fun K "are_starts" "are_starts" Kv f fd)(T:Txt K mg)(j:DefS P w K mg base 1 "is_sized_tuple" 3 Qp)(q:DefS P w K mg base 1 "is_word" 1 Yv):FnOk P w K mg base (CXD P w) 2 f fd ["thing"] (spF mg 1 Vd):=by
 have:FnScope ["thing"] ["thing"] (Q9 Kv):=by fail "c"
 delta Vd qa js
 fail "k"
def jd:MS:=(Qd (Jm (Kr (Zx (toB (Qa 3 Qp (Q1 (Q2 0) (Q1 (mC (.int 3)) (Q1 (mC (.int 3)) Q6)))))) (Zx (toB (Qa 3 J9 (Q1 (mOp oIx (Q2 0) (mC (.int 0))) (Q1 (mC (.int 0)) (Q1 (mC (.int 20)) Q6))))))) (J2 (mC (.bl yo))) J3)
  (J2 (yz (Qa 1 Vd (Q1 (mOp oIx (Q2 0) (mC (.int 1))) Q6)) (Qa 2 Ud (Q1 (Qx Yc (Q1 (mOp oIx (Q2 0) (mC (.int 1))) Q6)) (Q1 (mOp oIx (Q2 0) (mC (.int 2))) Q6))))))
def Ua:FN:=Jw jd 1
def Q7j(F:Fun K "is_manner" "is_manner" qz f fd)(T:Txt K mg)(j:DefS P w K mg base 1 "is_sized_tuple" 3 Qp)(z:DefS P w K mg base 2 "is_between" 3 J9)(q:DefS P w K mg base 2 "are_starts" 1 Vd)(G:DefS P w K mg base 6 "are_rules" 2 Ud):FnOk P w K mg base (CXD P w) 7 f fd ["thing"] (spF mg 1 Ua):=by
 have:FnScope ["thing"] ["thing"] (Q9 qz):=by fail "c"
 delta Ua jd
 fail "k"
def Vz:MS:=(Jm (Zx (toB (Qa 1 Ua (Q1 (Q2 0) Q6)))) (Q47 "NoManner" (mC (.str "this is no manner"))) J3)
def Y1:FN:=Jw Vz 1
def Q3t(F:Fun K "need_manner" "need_manner" Xr f fd)(T:Txt K mg)(j:∃C,mg "NoManner"=zo (.ref C)/\cF K C Q51 "ValueError.__new__"=zb)(q:DefS P w K mg base 7 "is_manner" 1 Ua):FnOk P w K mg base (CXD P w) 8 f fd ["manner"] (spF mg 1 Y1):=by
 obtain⟨_,_,_⟩:=j;have:FnScope ["manner"] ["manner"] (Q9 Xr):=by fail "c"
 delta Y1 Vz
 fail "k"
def jf:MS:=(J2 (Yr (Q1 (mOp oIx (Q2 0) (mC (.int 1))) (Q1 (Yr Q6) (Q1 (mC (.int 0)) Q6)))))
def Z2:FN:=Jw jf 1
def Q7n(F:Fun K "beginning" "beginning" j5 f fd)(T:Txt K mg):FnOk P w K mg base (CXD P w) 1 f fd ["manner"] (spF mg 1 Z2):=by
 have:FnScope ["manner"] ["manner"] (Q9 j5):=by fail "c"
 delta Z2 jf
 fail "k"
def U0:MS:=(Qd (Jm (toB (mOp oNe (mOp oIx (mOp oIx (Q2 1) (mC (.int 0))) (mOp oIx (Q2 0) (mC (.int 0)))) (mOp oIx (Q2 0) (mC (.int 1))))) (J2 (mC (.bl yo))) J3)
  (J2 (mOr (Q7u yo ["go","fall"] (mOp oIx (Q2 0) (mC (.int 2)))) (mOp Qv4 (Yr (Q1 (mOp oIx (Q2 0) (mC (.int 0))) (Q1 (mOp oIx (Q2 0) (mC (.int 2))) Q6))) (mOp oIx (Q2 1) (mC (.int 1)))))))
def W4:FN:=Jw U0 2
def Q3u(F:Fun K "may_be_done" "may_be_done" Xs f fd)(T:Txt K mg):FnOk P w K mg base (CXD P w) 1 f fd ["rule","stand"] (spF mg 2 W4):=by
 have:FnScope ["rule","stand"] ["rule","stand"] (Q9 Xs):=by fail "c"
 delta W4 U0
 fail "k"
def Yj:ME:=(Q2 0)
def Ye:MT:=(toB (Qa 2 W4 (Q1 (Q2 1) (Q1 (Q2 2) Q6))))
def Wg:MS:=(J2 (qu (Ja [zl,zl,zo 1] (Q4n (Vt (Qb 0) (Vt (Qb 1) Q4p))) (Qa9 (Q1 (mOp oIx (Q2 0) (mC (.int 2))) Q6)) Ye Yj)))
def Qq:FN:=Yw Wg 2
def yd(F:Fun K "numbers_that_may" "numbers_that_may" Wf f fd)(T:Txt K mg)(j:DefS P w K mg base 1 "may_be_done" 2 W4):FnOk P w K mg base (CXD P w) 2 f fd ["manner","stand"] (spF mg 2 Qq):=by
 have:FnScope ["manner","stand"] ["manner","stand"] (Q9 Wf):=by fail "c"
 delta Qq Wg Ye Yj
 fail "K"
def Wz:MS:=(Qd (J1 2 (mOp Zu (mOp Zu (mSl (mOp oIx (Q2 1) (mC (.int 0))) zg (Q1u (mOp oIx (Q2 0) (mC (.int 0))))) (Yr (Q1 (mOp oIx (Q2 0) (mC (.int 3))) Q6))) (mSl (mOp oIx (Q2 1) (mC (.int 0))) (Q1u (mOp Zu (mOp oIx (Q2 0) (mC (.int 0))) (mC (.int 1)))) zg)))
  (J2 (Yr (Q1 (Q2 2) (Q1 (Qx Wh (Q1 (zf (mOp Zu (mOp oIx (Q2 1) (mC (.int 1))) (mOp oIx (Q2 0) (mC (.int 5))))) Q6)) (Q1 (mOp Zu (mOp oIx (Q2 1) (mC (.int 2))) (mOp oIx (Q2 0) (mC (.int 4)))) Q6))))))
def Qz:FN:=Jw Wz 3
def Q27(F:Fun K "stand_behind" "stand_behind" X0 f fd)(T:Txt K mg):FnOk P w K mg base (CXD P w) 1 f fd ["rule","stand"] (spF mg 2 Qz):=by
 have:FnScope ["rule","stand","states"] ["rule","stand"] (Q9 X0):=by fail "c"
 delta Qz Wz
 fail "k"
def xj:MS:=(Qd (Xi (mBM Jg (Q2 2) (Q1 (mOp oIx (X7 (Q2 0) (Q2 3)) (mC (.int 0))) Q6)))
  (J1 3 (mOp oIx (X7 (Q2 0) (Q2 3)) (mC (.int 1)))))
def yn:MT:=(toB (mOp K0 (X7 (Q2 0) (Q2 3)) (mC .non)))
def Q45:MS:=(Qd (J1 2 (qu (qk Q6)))
  (Qd (J1 3 (Q2 1))
  (Qd (J5 yn xj 100000)
  (J2 (qu (Qr1 (Q2 2)))))))
def Vc:FN:=Yw Q45 4
def Qfz(F:Fun K "run_to" "run_to" Q3b f fd)(T:Txt K mg):FnOk P w K mg base (CXD P w) 1 f fd ["found","stand"] (spF mg 2 Vc):=by
 have:FnScope ["found","stand","run","at"] ["found","stand"] (Q9 Q3b):=by fail "c"
 delta Vc Q45 yn xj
 fail "K"
def Zg:MS:=(Jm (toB (mOp (oI λa b=>.bl (decide (b<a))) (mOp Zu (mOp oIx (Q2 2) (mC (.int 2))) (mOp oIx (mOp oIx (mOp oIx (Q2 0) (mC (.int 2))) (Q2 3)) (mC (.int 4)))) (mOp oIx (Q2 0) (mC (.int 0))))) (J2 (Yr (Q1 (Q2 3) (Q1 (Q2 2) Q6)))) J3)
def Zh:MS:=(U7 (Qb 3) (W1 (Qa 2 Qq (Q1 (Q2 0) (Q1 (Q2 2) Q6)))) Zg)
def W9:MS:=(Qd (U7 (Qb 2) (W1 (Q2 1)) Zh)
  (J2 (mC .non)))
def Zb:FN:=Yw W9 4
def Q13(F:Fun K "breaking_step" "breaking_step" Uh f fd)(T:Txt K mg)(j:DefS P w K mg base 2 "numbers_that_may" 2 Qq):FnOk P w K mg base (CXD P w) 3 f fd ["manner","stands"] (spF mg 2 Zb):=by
 have:FnScope ["manner","stands","stand","number"] ["manner","stands"] (Q9 Uh):=by fail "c"
 delta Zb W9 Zh Zg
 fail "K"
def Wj:MS:=(Qd (J1 6 (Qa 2 Qz (Q1 (mOp oIx (mOp oIx (Q2 0) (mC (.int 2))) (Q2 5)) (Q1 (Q2 4) Q6))))
  (Jm (toB (mOp (Q16 zb) (Q2 6) (Q2 1))) (Qd (X6 (Q2 1) (Q2 6) (Yr (Q1 (Q2 5) (Q1 (Q2 4) Q6))))
  (Qd (Xi (mBM Jg (Q2 3) (Q1 (Q2 6) Q6)))
  (Jm (toB (mOp (oI λa b=>.bl (decide (b<a))) (Qx Q0r (Q1 (Q2 1) Q6)) (mC (.int 2000)))) (Q47 "TooMany" (mC (.str "more stands than are walked through"))) J3))) J3))
def Wk:MS:=(U7 (Qb 5) (W1 (Qa 2 Qq (Q1 (Q2 0) (Q1 (Q2 4) Q6)))) Wj)
def Vs:MS:=(Qd (J1 3 (qu (qk Q6)))
  (Qd (U7 (Qb 4) (W1 (Q2 2)) Wk)
  (J2 (Q2 3))))
def Zq:FN:=Yw Vs 7
def Q02(F:Fun K "further_stands" "further_stands" Vm f fd)(T:Txt K mg)(q:∃C,mg "TooMany"=zo (.ref C)/\cF K C Q51 "ValueError.__new__"=zb)(j:DefS P w K mg base 2 "numbers_that_may" 2 Qq)(z:DefS P w K mg base 1 "stand_behind" 2 Qz):FnOk P w K mg base (CXD P w) 3 f fd ["manner","found","stands"] (spF mg 3 Zq):=by
 obtain⟨_,_,_⟩:=q;have:FnScope ["manner","found","stands","further","stand","number","after"] ["manner","found","stands"] (Q9 Vm):=by fail "c"
 delta Zq Vs Wk Wj
 fail "K"
def Vv:MS:=(Qd (J1 3 (Qa 2 Zb (Q1 (Q2 0) (Q1 (Q2 2) Q6))))
  (Qd (Jm (toB (mOp K0 (Q2 3) (mC .non))) (J2 (Yr (Q1 (Q2 1) (Q1 (qu (Q65 (Qa 2 Vc (Q1 (Q2 1) (Q1 (mOp oIx (Q2 3) (mC (.int 1))) Q6))) (yy (Q1 (mOp oIx (Q2 3) (mC (.int 0))) Q6)))) Q6)))) J3)
  (J1 2 (Qa 3 Zq (Q1 (Q2 0) (Q1 (Q2 1) (Q1 (Q2 2) Q6)))))))
def Yd:MT:=(toB (mOp (oI λa b=>.bl (decide (b<a))) (Qx Yc (Q1 (Q2 2) Q6)) (mC (.int 0))))
def Q0a:MS:=(Qd (J1 1 (zh (Qa 1 Z2 (Q1 (Q2 0) Q6)) (mC .non)))
  (Qd (J1 2 (yy (Q1 (Qa 1 Z2 (Q1 (Q2 0) Q6)) Q6)))
  (Qd (J5 Yd Vv 100000)
  (J2 (Yr (Q1 (Q2 1) (Q1 (mC .non) Q6)))))))
def jz:FN:=Yw Q0a 4
def Qfy(F:Fun K "walked" "walked" Q3a f fd)(T:Txt K mg)(z:DefS P w K mg base 1 "beginning" 1 Z2)(q:DefS P w K mg base 3 "breaking_step" 2 Zb)(G:DefS P w K mg base 1 "run_to" 2 Vc)(j:DefS P w K mg base 3 "further_stands" 3 Zq):FnOk P w K mg base (CXD P w) 4 f fd ["manner"] (spF mg 1 jz):=by
 have:FnScope ["manner","found","fresh","step"] ["manner"] (Q9 Q3a):=by fail "c"
 delta jz Q0a Yd Vv
 fail "K"
def K8:ME:=(mOp oIx (mOp oIx (Q2 1) (mC (.int 2))) (Q2 0))
def K7:ME:=(Q2 0)
def Xp:MT:=(toB (Q7u zb ["go","fall"] (mOp oIx (Q2 0) (mC (.int 2)))))
def K6:ME:=(mOp oEq (Qa 2 Qz (Q1 (Q2 0) (Q1 (Q2 1) Q6))) (Q2 1))
def Xh:MS:=(Qd (J1 2 (V1 (Ja [zl,zo 0] (Qb 0) (W1 (Qa 2 Qq (Q1 (Q2 0) (Q1 (Q2 1) Q6)))) Ya K8)))
  (Qd (J1 3 (V1 (Ja [zl] (Qb 0) (W1 (Q2 2)) Xp K7)))
  (J2 (Qx (jw λns=>.bl (ns.all id)) (Q1 (V1 (Ja [zl,zo 1] (Qb 0) (W1 (Q2 3)) Ya K6)) Q6)))))
def Uc:FN:=Jw Xh 4
def Q7m(F:Fun K "does_rest" "does_rest" j4 f fd)(T:Txt K mg)(j:DefS P w K mg base 2 "numbers_that_may" 2 Qq)(q:DefS P w K mg base 1 "stand_behind" 2 Qz):FnOk P w K mg base (CXD P w) 3 f fd ["manner","stand"] (spF mg 2 Uc):=by
 have:FnScope ["manner","stand","rules","by_letters"] ["manner","stand"] (Q9 j4):=by fail "c"
 delta Uc Xh K6 Xp K7 K8
 fail "k"
def Vu:ME:=(Yr (Q1 (Q2 0) (Q1 (qu (qk Q6)) Q6)))
def Vw:MS:=(Xi (mBM Jg (X7 (Q2 2) (Qa 2 Qz (Q1 (mOp oIx (mOp oIx (Q2 0) (mC (.int 2))) (Q2 4)) (Q1 (Q2 3) Q6)))) (Q1 (Q2 3) Q6)))
def Vx:MS:=(U7 (Qb 4) (W1 (Qa 2 Qq (Q1 (Q2 0) (Q1 (Q2 3) Q6)))) Vw)
def X5:MS:=(Qd (J1 2 (Qx xh (Q1 (V1 (Ja [zl] (Qb 0) (W1 (Q2 1)) Ya Vu)) Q6)))
  (Qd (U7 (Qb 3) (W1 (Q2 1)) Vx)
  (J2 (Q2 2))))
def Yk:FN:=Yw X5 5
def Q26(F:Fun K "stands_ahead" "stands_ahead" Uz f fd)(T:Txt K mg)(j:DefS P w K mg base 2 "numbers_that_may" 2 Qq)(q:DefS P w K mg base 1 "stand_behind" 2 Qz):FnOk P w K mg base (CXD P w) 3 f fd ["manner","stands"] (spF mg 2 Yk):=by
 have:FnScope ["manner","stands","ahead","stand","number"] ["manner","stands"] (Q9 Uz):=by fail "c"
 delta Yk X5 Vx Vw Vu
 fail "K"
def V4:ME:=(Q2 0)
def Ws:MT:=(toB (Qa 2 Uc (Q1 (Q2 1) (Q1 (Q2 0) Q6))))
def V3:ME:=(Yr (Q1 (Q2 0) (Q1 (mC (.int 0)) Q6)))
def V6:MS:=(Jm (toB (mOp (Q16 zb) (Q2 7) (Q2 4))) (Qd (X6 (Q2 4) (Q2 7) (mOp Zu (X7 (Q2 4) (Q2 6)) (mC (.int 1))))
  (Xi (mBM Jg (Q2 5) (Q1 (Q2 7) Q6)))) J3)
def V7:MS:=(U7 (Qb 7) (W1 (X7 (Q2 2) (Q2 6))) V6)
def V8:MS:=(Qd (J1 5 (qu (qk Q6)))
  (Qd (U7 (Qb 6) (W1 (Q2 3)) V7)
  (J1 3 (Q2 5))))
def Wq:MT:=(toB (mOp (oI λa b=>.bl (decide (b<a))) (Qx Yc (Q1 (Q2 3) Q6)) (mC (.int 0))))
def Uk:MS:=(Qd (J1 2 (Qa 2 Yk (Q1 (Q2 0) (Q1 (Q2 1) Q6))))
  (Qd (J1 3 (V1 (Ja [zl,zo 0] (Qb 0) (W1 (Q2 1)) Ws V4)))
  (Qd (J1 4 (Qx xh (Q1 (V1 (Ja [zl] (Qb 0) (W1 (Q2 3)) Ya V3)) Q6)))
  (Qd (J5 Wq V8 100000)
  (J2 (Q2 4))))))
def Zy:FN:=Yw Uk 8
def Q12(F:Fun K "steps_to_rest" "steps_to_rest" Ug f fd)(T:Txt K mg)(j:DefS P w K mg base 3 "stands_ahead" 2 Yk)(q:DefS P w K mg base 3 "does_rest" 2 Uc):FnOk P w K mg base (CXD P w) 4 f fd ["manner","stands"] (spF mg 2 Zy):=by
 have:FnScope ["manner","stands","ahead","fresh","fewest","further","stand","earlier"] ["manner","stands"] (Q9 Ug):=by fail "c"
 delta Zy Uk Wq V8 V7 V6 V3 Ws V4
 fail "K"
def Ux:MS:=(Jm (toB (mOp (Q16 zb) (Q2 4) (Q2 3))) (J2 (Yr (Q1 (mC (.str "restless")) (Q1 (Qa 2 Vc (Q1 (mOp oIx (Q2 1) (mC (.int 0))) (Q1 (Q2 4) Q6))) Q6)))) J3)
def Xg:MS:=(Qd (Xi (Qa 1 Y1 (Q1 (Q2 0) Q6)))
  (Qd (J1 1 (Qa 1 jz (Q1 (Q2 0) Q6)))
  (Qd (Jm (toB (mOp K0 (mOp oIx (Q2 1) (mC (.int 1))) (mC .non))) (Q47 "NoStand" (mC (.str "the manner does not keep its stock"))) J3)
  (Qd (J1 2 (Qx Kb (Q1 (mOp oIx (Q2 1) (mC (.int 0))) Q6)))
  (Qd (J1 3 (Qa 2 Zy (Q1 (Q2 0) (Q1 (Q2 2) Q6))))
  (Qd (U7 (Qb 4) (W1 (Q2 2)) Ux)
  (J2 (Yr (Q1 (mC (.str "rests")) (Q1 (Q2 3) Q6))))))))))
def U5:FN:=Yw Xg 5
def Qjy(F:Fun K "rests" "rests" Q77 f fd)(T:Txt K mg)(j:∃C,mg "NoStand"=zo (.ref C)/\cF K C Q51 "ValueError.__new__"=zb)(z:DefS P w K mg base 8 "need_manner" 1 Y1)(G:DefS P w K mg base 4 "walked" 1 jz)(q:DefS P w K mg base 4 "steps_to_rest" 2 Zy)(I:DefS P w K mg base 1 "run_to" 2 Vc):FnOk P w K mg base (CXD P w) 9 f fd ["manner"] (spF mg 1 U5):=by
 obtain⟨_,_,_⟩:=j;have:FnScope ["manner","walk","stands","fewest","stand"] ["manner"] (Q9 Q77):=by fail "c"
 delta U5 Xg Ux
 fail "K"
def Ki:MS:=(Qd (Jm (toB (mOp (oI λa b=>.bl (decide (b<=a))) (Q2 0) (mOp Qg1 (mC (.int 10)) (mC (.int 18))))) (J2 (Q2 0)) J3)
  (Qd (J1 2 (mOp yw (mOp Zu (mOp Zu (mOp jb (mOp yw (Q2 0) (mC (.int 998244353))) (mC (.int 51749))) (mOp jb (Q2 1) (mC (.int 7919)))) (mC (.int 3))) (mC (.int 1000000007))))
  (Qd (J1 3 (mOp yw (mOp Zu (mOp Zu (mOp Zu (mOp jb (Q2 2) (Q2 2)) (mOp jb (mC (.int 32749)) (Q2 2))) (Q2 1)) (mC (.int 5))) (mC (.int 2147483629))))
  (Qd (J1 4 (mOp yw (mOp Zu (mOp Zu (mOp jb (Q2 3) (Q2 3)) (mOp jb (mC (.int 61)) (Q2 1))) (Q2 2)) (mC (.int 2147483587))))
  (J2 (mOp Zu (mOp jb (Q2 3) (mC (.int 2147483587))) (Q2 4)))))))
def Zr:FN:=Jw Ki 5
def Q03(F:Fun K "_law_e_stirred" "_law_e_stirred" Vn f fd)(T:Txt K mg):FnOk P w K mg base (CXD P w) 1 f fd ["cell","place"] (spF mg 2 Zr):=by
 have:FnScope ["cell","place","first","second","third"] ["cell","place"] (Q9 Vn):=by fail "c"
 delta Zr Ki
 fail "k"
def jh:MS:=(Qd (Jm (toB (mOp oLt (mOp oIx (Q2 0) (mC (.int 2))) (Q2 1))) (Qd (J1 2 (mOp oIx (Q2 0) (mC (.int 1))))
  (Qd (J1 3 (Q2 2))
  (Qd (Jm (toB (mOp oLt (Q2 2) (Qx Yc (Q1 (mOp oIx (Q2 0) (mC (.int 0))) Q6)))) (J1 3 (mOp oIx (mOp oIx (Q2 0) (mC (.int 0))) (Q2 2))) (Jm (toB (mOp (oI λa b=>.bl (decide (b<a))) (Qx Yc (Q1 (mOp oIx (Q2 0) (mC (.int 0))) Q6)) (mC (.int 0)))) (J1 3 (mOp Zu (mOp yw (mOp oIx (mOp oIx (Q2 0) (mC (.int 0))) (mOp yw (mOp jb (Q2 2) (mC (.int 3))) (Qx Yc (Q1 (mOp oIx (Q2 0) (mC (.int 0))) Q6)))) (mOp Qg1 (mC (.int 10)) (mC (.int 9)))) (mOp jb (Q2 2) (mC (.int 1000000))))) J3))
  (Qd (ji (Q2 0) (mC (.int 1)) (mOp Zu (Q2 2) (mC (.int 1))))
  (ji (Q2 0) (mC (.int 2)) (Qa 2 Zr (Q1 (Q2 3) (Q1 (Q2 2) Q6)))))))) J3)
  (Qd (J1 4 (mOp yw (mOp oIx (Q2 0) (mC (.int 2))) (Q2 1)))
  (Qd (ji (Q2 0) (mC (.int 2)) (mOp Q9v (mOp oIx (Q2 0) (mC (.int 2))) (Q2 1)))
  (J2 (Q2 4)))))
def Qe:FN:=Jw jh 5
def Q29(F:Fun K "_law_e_digit" "_law_e_digit" X2 f fd)(T:Txt K mg)(j:DefS P w K mg base 1 "_law_e_stirred" 2 Zr):FnOk P w K mg base (CXD P w) 2 f fd ["tape","many"] (spF mg 2 Qe):=by
 have:FnScope ["tape","many","place","cell","digit"] ["tape","many"] (Q9 X2):=by fail "c"
 delta Qe jh
 fail "k"
def Wb:ME:=(mOp Qqn (mC (.str "abgoflz")) (Qa 2 Qe (Q1 (Q2 1) (Q1 (mC (.int 7)) Q6))))
def U2:MS:=(Qd (Jm (toB (mOp oEq (Qa 2 Qe (Q1 (Q2 0) (Q1 (mC (.int 4)) Q6))) (mC (.int 0)))) (J2 (mOp oIx (yy (Q1 (mC (.str "go")) (Q1 (mC (.str "fall")) (Q1 (mC (.str "gone")) (Q1 (mC (.str "fallen")) (Q1 (mC (.str "gofall")) (Q1 (mC (.str "a")) (Q1 (mC (.str "aa")) (Q1 (mC (.str "abcdefgh")) Q6))))))))) (Qa 2 Qe (Q1 (Q2 0) (Q1 (mC (.int 8)) Q6))))) J3)
  (J2 (Qe5 (mC (.str "")) (Q1 (V1 (Ja [zl,zo 0] (Qb 0) (Zm (Q1 (mOp Zu (mC (.int 1)) (Qa 2 Qe (Q1 (Q2 0) (Q1 (mC (.int 4)) Q6)))) Q6)) Ya Wb)) Q6))))
def Zj:FN:=Yw U2 1
def Q3y(F:Fun K "_law_e_name" "_law_e_name" Xw f fd)(T:Txt K mg)(j:DefS P w K mg base 2 "_law_e_digit" 2 Qe):FnOk P w K mg base (CXD P w) 3 f fd ["tape"] (spF mg 1 Zj):=by
 have:FnScope ["tape"] ["tape"] (Q9 Xw):=by fail "c"
 delta Zj U2 Wb
 fail "K"
def Jn:MS:=(Qd (J1 1 (Qa 1 Zj (Q1 (Q2 0) Q6)))
  (Qd (Jm (Kr (toB (mOp oEq (Q2 1) (mC (.str "go")))) (toB (mOp oEq (Q2 1) (mC (.str "fall"))))) (J2 (mOp Zu (Q2 1) (mC (.str "a")))) J3)
  (J2 (Q2 1))))
def Jr:FN:=Yw Jn 2
def qt(F:Fun K "_law_e_letter_name" "_law_e_letter_name" Yg f fd)(T:Txt K mg)(j:DefS P w K mg base 3 "_law_e_name" 1 Zj):FnOk P w K mg base (CXD P w) 4 f fd ["tape"] (spF mg 1 Jr):=by
 have:FnScope ["tape","name"] ["tape"] (Q9 Yg):=by fail "c"
 delta Jr Jn
 fail "K"
def Ur:MS:=(Xi (mBM Jg (Q2 9) (Q1 (Yr (Q1 (Qa 2 Qe (Q1 (Q2 0) (Q1 (Q2 1) Q6))) (Q1 (mOp oIx (Q2 3) (Qa 2 Qe (Q1 (Q2 0) (Q1 (Qx Yc (Q1 (Q2 3) Q6)) Q6)))) Q6))) Q6)))
def K2:MS:=(Qd (J1 4 (Qa 2 Qe (Q1 (Q2 0) (Q1 (Q2 1) Q6))))
  (Qd (J1 5 (mOp oIx (Q2 2) (Qa 2 Qe (Q1 (Q2 0) (Q1 (Qx Yc (Q1 (Q2 2) Q6)) Q6)))))
  (Qd (J1 6 (mOp oIx (yy (Q1 (mC (.str "go")) (Q1 (mC (.str "go")) (Q1 (mC (.str "fall")) (Q1 (mOp oIx (Q2 3) (Qa 2 Qe (Q1 (Q2 0) (Q1 (Qx Yc (Q1 (Q2 3) Q6)) Q6)))) Q6))))) (Qa 2 Qe (Q1 (Q2 0) (Q1 (mC (.int 4)) Q6)))))
  (Qd (J1 7 (mOp oIx (Q2 2) (Qa 2 Qe (Q1 (Q2 0) (Q1 (Qx Yc (Q1 (Q2 2) Q6)) Q6)))))
  (Qd (J1 8 (mOp oIx (yy (Q1 (mC (.int 0)) (Q1 (mC (.int 0)) (Q1 (mC (.int 0)) (Q1 (mC (.int 1)) (Q1 (mC (.int 1)) (Q1 (mC (.int 2)) (Q1 (mC (.int 9)) Q6)))))))) (Qa 2 Qe (Q1 (Q2 0) (Q1 (mC (.int 7)) Q6)))))
  (Qd (J1 9 (qu (qk Q6)))
  (Qd (U7 (Qb 10) (Zm (Q1 (mOp oIx (yy (Q1 (mC (.int 0)) (Q1 (mC (.int 0)) (Q1 (mC (.int 1)) (Q1 (mC (.int 2)) (Q1 (mC (.int 3)) (Q1 (mC (.int 8)) Q6))))))) (Qa 2 Qe (Q1 (Q2 0) (Q1 (mC (.int 6)) Q6)))) Q6)) Ur)
  (J2 (Yr (Q1 (Q2 4) (Q1 (Q2 5) (Q1 (Q2 6) (Q1 (Q2 7) (Q1 (Q2 8) (Q1 (Qx Wh (Q1 (Q2 9) Q6)) Q6)))))))))))))))
def W5:FN:=Yw K2 11
def Q3x(F:Fun K "_law_e_rule" "_law_e_rule" Xv f fd)(T:Txt K mg)(j:DefS P w K mg base 2 "_law_e_digit" 2 Qe):FnOk P w K mg base (CXD P w) 3 f fd ["tape","n","states","names"] (spF mg 4 W5):=by
 have:FnScope ["tape","n","states","names","house","state","event","onward","use","letters","turn"] ["tape","n","states","names"] (Q9 Xv):=by fail "c"
 delta W5 K2 Ur
 fail "K"
def Q0n:ME:=(Qa 1 Zj (Q1 (Q2 1) Q6))
def Q0m:ME:=(Qa 1 Jr (Q1 (Q2 1) Q6))
def Xm:MS:=(X6 (Q2 8) (Qa 4 W5 (Q1 (Q2 0) (Q1 (Q2 2) (Q1 (Q2 6) (Q1 (Q2 7) Q6))))) (mC (.bl zb)))
def Xk:ME:=(mOp oIx (Q2 1) (Qa 2 Qe (Q1 (Q2 2) (Q1 (Q2 3) Q6))))
def Um:MS:=(Qd (J1 1 (yy (Q1 (Yr (Q1 (mC (.int 2)) (Q1 (mC (.int 3)) (Q1 (mC (.int 2)) (Q1 (mC (.int 4)) Q6))))) (Q1 (Yr (Q1 (mC (.int 3)) (Q1 (mC (.int 2)) (Q1 (mC (.int 1)) (Q1 (mC (.int 4)) Q6))))) (Q1 (Yr (Q1 (mC (.int 1)) (Q1 (mC (.int 2)) (Q1 (mC (.int 1)) (Q1 (mC (.int 21)) Q6))))) (Q1 (Yr (Q1 (mC (.int 2)) (Q1 (mC (.int 2)) (Q1 (mC (.int 1)) (Q1 (mC (.int 21)) Q6))))) (Q1 (Yr (Q1 (mC (.int 4)) (Q1 (mC (.int 2)) (Q1 (mC (.int 1)) (Q1 (mC (.int 2)) Q6))))) Q6)))))))
  (Qd (Qka (Q4n (Vt (Qb 2) (Vt (Qb 3) (Vt (Qb 4) (Vt (Qb 5) Q4p))))) (mOp oIx (Q2 1) (Qa 2 Qe (Q1 (Q2 0) (Q1 (mC (.int 5)) Q6)))))
  (Qd (J1 6 (V1 (Ja [zl,zo 0] (Qb 0) (Zm (Q1 (Q2 3) Q6)) Ya Q0n)))
  (Qd (J1 7 (V1 (Ja [zl,zo 0] (Qb 0) (Zm (Q1 (Q2 4) Q6)) Ya Q0m)))
  (Qd (J1 8 Q48)
  (Qd (U7 (Qb 9) (Zm (Q1 (Qa 2 Qe (Q1 (Q2 0) (Q1 (mC (.int 10)) Q6))) Q6)) Xm)
  (Qd (J1 10 (Qx Wh (Q1 (V1 (Ja [zl,zo 6,zo 0,zo 3] (Qb 0) (Zm (Q1 (Q2 2) Q6)) Ya Xk)) Q6)))
  (J2 (Yr (Q1 (Qa 2 Qe (Q1 (Q2 0) (Q1 (Q2 5) Q6))) (Q1 (Q2 10) (Q1 (Qx Wh (Q1 (Qx Kb (Q1 (Q2 8) Q6)) Q6)) Q6))))))))))))
def Wd:FN:=Yw Um 11
def sc__law_e_manner:FnScope ["tape","sizes","n","many","words","most","states","names","rules","turn","starts"] ["tape"] (Q9 Ui):=⟨rfl,rfl,rfl,by decide +kernel,rfl,by decide +kernel,by decide +kernel⟩
def Q14(F:Fun K "_law_e_manner" "_law_e_manner" Ui f fd)(T:Txt K mg)(j:DefS P w K mg base 2 "_law_e_digit" 2 Qe)(z:DefS P w K mg base 3 "_law_e_name" 1 Zj)(q:DefS P w K mg base 4 "_law_e_letter_name" 1 Jr)(G:DefS P w K mg base 3 "_law_e_rule" 4 W5):FnOk P w K mg base (CXD P w) 5 f fd ["tape"] (spF mg 1 Wd):=by
 refine Q4q (k:=4) (m:=Um) F sc__law_e_manner rfl rfl rfl λJ A outer s H E I=>?_
 exact(Zk (Xq 1 sc__law_e_manner.nd (Qbm (Qg (yp (Qg Jz (Qg Jz (Qg Jz (Qg Jz J7))))) (Qg (yp (Qg Jz (Qg Jz (Qg Jz (Qg Jz J7))))) (Qg (yp (Qg Jz (Qg Jz (Qg Jz (Qg Jz J7))))) (Qg (yp (Qg Jz (Qg Jz (Qg Jz (Qg Jz J7))))) (Qg (yp (Qg Jz (Qg Jz (Qg Jz (Qg Jz J7))))) J7)))))))
  (Zk (Qhu (Qdn (Qt 1) (Ym j (I.mono (by decide)) Wy rfl (Qg (Qt 0) (Qg Jz J7)))) (Qi2 rfl (qy (W7 (i:=2) sc__law_e_manner.nd) (qy (W7 (i:=3) sc__law_e_manner.nd) (qy (W7 (i:=4) sc__law_e_manner.nd) (qy (W7 (i:=5) sc__law_e_manner.nd) Qdm))))))
  (Zk (by first|exact Q36 [zl,zo 0] ["turn","tape"] 6 sc__law_e_manner.nd rfl (Vj rfl T.b_range (Qg (Qt 3) J7)) (λ_ _ _ _ _=>(W7 (i:=0) (show(["turn","tape"]:List Str).Nodup by decide +kernel))) (λ_ _ _ _ _=>(Ym z (I.mono (by decide)) zd rfl (Qg (Qt 1) J7))) (λ_ _ _ _ _=>z7) Uw|exact Xq 6 sc__law_e_manner.nd (Q74 (Q2i [zl,zo 0] ["turn","tape"] rfl (Vj rfl T.b_range (Qg (Qt 3) J7)) (λ_ _ _ _ _=>(W7 (i:=0) (show(["turn","tape"]:List Str).Nodup by decide +kernel))) (λ_ _ _ _ _=>(Ym z (I.mono (by decide)) zd rfl (Qg (Qt 1) J7))) (λ_ _ _ _ _=>z7) Uw)))
  (Zk (by first|exact Q36 [zl,zo 0] ["turn","tape"] 7 sc__law_e_manner.nd rfl (Vj rfl T.b_range (Qg (Qt 4) J7)) (λ_ _ _ _ _=>(W7 (i:=0) (show(["turn","tape"]:List Str).Nodup by decide +kernel))) (λ_ _ _ _ _=>(Ym q (I.mono (by decide)) zd rfl (Qg (Qt 1) J7))) (λ_ _ _ _ _=>z7) Uw|exact Xq 7 sc__law_e_manner.nd (Q74 (Q2i [zl,zo 0] ["turn","tape"] rfl (Vj rfl T.b_range (Qg (Qt 4) J7)) (λ_ _ _ _ _=>(W7 (i:=0) (show(["turn","tape"]:List Str).Nodup by decide +kernel))) (λ_ _ _ _ _=>(Ym q (I.mono (by decide)) zd rfl (Qg (Qt 1) J7))) (λ_ _ _ _ _=>z7) Uw)))
  (Zk (Xq 8 sc__law_e_manner.nd Q39)
  (Zk (Qbi PassesOwn.leaving rfl (Vj rfl T.b_range (Qg (Ym j (I.mono (by decide)) Wy rfl (Qg (Qt 0) (Qg Jz J7))) J7)) (W7 (i:=9) sc__law_e_manner.nd) (Kt (xr (xw I) Q5v (Qt 8) (Ym G (I.mono (by decide)) Wy rfl (Qg (Qt 0) (Qg (Qt 2) (Qg (Qt 6) (Qg (Qt 7) J7))))))))
  (Zk (Xq 10 sc__law_e_manner.nd (Kh Q4u rfl T.b_tuple xi (Qg (Q74 (Q2i [zl,zo 6,zo 0,zo 3] ["house","states","tape","many"] rfl (Vj rfl T.b_range (Qg (Qt 2) J7)) (λ_ _ _ _ _=>(W7 (i:=0) (show(["house","states","tape","many"]:List Str).Nodup by decide +kernel))) (λ_ _ _ _ _=>(Qdn (Qt 1) (Ym j (I.mono (by decide)) zd rfl (Qg (Qt 2) (Qg (Qt 3) J7))))) (λ_ _ _ _ _=>z7) Uw)) J7)))
  (Kt (Q6z (yp (Qg (Ym j (I.mono (by decide)) Wy rfl (Qg (Qt 0) (Qg (Qt 5) J7))) (Qg (Qt 10) (Qg (Kh Q4u rfl T.b_tuple xi (Qg (Kh (Qav rfl) rfl T.b_list zx (Qg (Qt 8) J7)) J7)) J7)))))))))))))
def U3:MS:=(Qd (Jm (toB (mOp oNe (mOp oIx (mOp oIx (Q2 1) (mC (.int 0))) (mOp oIx (Q2 0) (mC (.int 0)))) (mOp oIx (Q2 0) (mC (.int 1))))) (J2 (mC (.bl yo))) J3)
  (J2 (mOr (mOp oEq (mOp oIx (Q2 0) (mC (.int 2))) (mC (.str "go"))) (mOr (mOp oEq (mOp oIx (Q2 0) (mC (.int 2))) (mC (.str "fall"))) (mOp (oIn yo) (Yr (Q1 (mOp oIx (Q2 0) (mC (.int 0))) (Q1 (mOp oIx (Q2 0) (mC (.int 2))) Q6))) (mOp oIx (Q2 1) (mC (.int 1))))))))
def Qs:FN:=Jw U3 2
def Q40(F:Fun K "_law_e_fits" "_law_e_fits" Xy f fd)(T:Txt K mg):FnOk P w K mg base (CXD P w) 1 f fd ["rule","stand"] (spF mg 2 Qs):=by
 have:FnScope ["rule","stand"] ["rule","stand"] (Q9 Xy):=by fail "c"
 delta Qs U3
 fail "k"
def Wc:MS:=(X6 (Q2 3) (Q2 4) (mC (.bl zb)))
def U1:MS:=(Qd (J1 2 (qu (Q7t (mOp oIx (Q2 1) (mC (.int 0))))))
  (Qd (ji (Q2 2) (mOp oIx (Q2 0) (mC (.int 0))) (mOp oIx (Q2 0) (mC (.int 3))))
  (Qd (J1 3 Q48)
  (Qd (U7 (Qb 4) (W1 (mOp Zu (mOp oIx (Q2 1) (mC (.int 1))) (mOp oIx (Q2 0) (mC (.int 5))))) Wc)
  (J2 (Yr (Q1 (Qx Wh (Q1 (Q2 2) Q6)) (Q1 (Qx Wh (Q1 (Qx Q4w (Q1 (Q2 3) Q6)) Q6)) (Q1 (mOp Zu (mOp oIx (Q2 1) (mC (.int 2))) (mOp oIx (Q2 0) (mC (.int 4)))) Q6)))))))))
def Qu:FN:=Jw U1 5
def Q3w(F:Fun K "_law_e_step" "_law_e_step" Xu f fd)(T:Txt K mg):FnOk P w K mg base (CXD P w) 1 f fd ["rule","stand"] (spF mg 2 Qu):=by
 have:FnScope ["rule","stand","states","letters","letter"] ["rule","stand"] (Q9 Xu):=by fail "c"
 delta Qu U1 Wc
 fail "k"
def Je:MS:=(Jm (toB (Qa 2 Qs (Q1 (Q2 6) (Q1 (Q2 5) Q6)))) (Qd (J1 7 (Qa 2 Qu (Q1 (Q2 6) (Q1 (Q2 5) Q6))))
  (Qd (Jm (toB (mOp (oI λa b=>.bl (decide (b<a))) (mOp oIx (Q2 7) (mC (.int 2))) (mOp oIx (Q2 0) (mC (.int 0))))) (J2 (Yr (Q1 (Q2 1) (Q1 (Q2 3) Q6)))) J3)
  (Jm (toB (mOp (Q16 zb) (Q2 7) (Q2 1))) (Qd (X6 (Q2 1) (Q2 7) (Q2 3))
  (Xi (mBM Jg (Q2 4) (Q1 (Q2 7) Q6)))) J3))) J3)
def Zi:MS:=(U7 (Qb 6) (W1 (mOp oIx (Q2 0) (mC (.int 2)))) Je)
def Jt:MS:=(Qd (J1 3 (mOp Zu (Q2 3) (mC (.int 1))))
  (Qd (J1 4 (qu (qk Q6)))
  (Qd (U7 (Qb 5) (W1 (Q2 2)) Zi)
  (J1 2 (Q2 4)))))
def Js:MT:=(toB (mOp oNe (Q2 2) (yy Q6)))
def Wa:MS:=(Qd (J1 1 Q48)
  (Qd (X6 (Q2 1) (Yr (Q1 (mOp oIx (Q2 0) (mC (.int 1))) (Q1 (Yr Q6) (Q1 (mC (.int 0)) Q6)))) (mC (.int 0)))
  (Qd (J1 2 (Qx Kb (Q1 (Q2 1) Q6)))
  (Qd (J1 3 (mC (.int 0)))
  (Qd (J5 Js Jt 100000)
  (J2 (Yr (Q1 (Q2 1) (Q1 (mC (.int 0)) Q6)))))))))
def Zz:FN:=Yw Wa 8
def Q15(F:Fun K "_law_e_levels" "_law_e_levels" Uj f fd)(T:Txt K mg)(j:DefS P w K mg base 1 "_law_e_fits" 2 Qs)(q:DefS P w K mg base 1 "_law_e_step" 2 Qu):FnOk P w K mg base (CXD P w) 2 f fd ["manner"] (spF mg 1 Zz):=by
 have:FnScope ["manner","known","level","depth","fresh","stand","rule","there"] ["manner"] (Q9 Uj):=by fail "c"
 delta Zz Wa Js Jt Zi Je
 fail "K"
def Uq:MS:=(Qd (Jm (Kr (Zx (toB (jj "int" (Q2 3)))) (Kr (toB (jj "bool" (Q2 3))) (Kr (toB (mOp oLt (Q2 3) (mC (.int 0)))) (toB (mOp (oI λa b=>.bl (decide (b<=a))) (Q2 3) (Qx Yc (Q1 (mOp oIx (Q2 0) (mC (.int 2))) Q6))))))) (J2 (mC .non)) J3)
  (Qd (Jm (Zx (toB (Qa 2 Qs (Q1 (mOp oIx (mOp oIx (Q2 0) (mC (.int 2))) (Q2 3)) (Q1 (Q2 2) Q6))))) (J2 (mC .non)) J3)
  (J1 2 (Qa 2 Qu (Q1 (mOp oIx (mOp oIx (Q2 0) (mC (.int 2))) (Q2 3)) (Q1 (Q2 2) Q6))))))
def K1:MS:=(Qd (Jm (Zx (toB (jj "list" (Q2 1)))) (J2 (mC .non)) J3)
  (Qd (J1 2 (Yr (Q1 (mOp oIx (Q2 0) (mC (.int 1))) (Q1 (Yr Q6) (Q1 (mC (.int 0)) Q6)))))
  (Qd (U7 (Qb 3) (W1 (Q2 1)) Uq)
  (J2 (Q2 2)))))
def Y2:FN:=Jw K1 4
def Q3v(F:Fun K "_law_e_walk" "_law_e_walk" Xt f fd)(T:Txt K mg)(j:DefS P w K mg base 1 "_law_e_fits" 2 Qs)(q:DefS P w K mg base 1 "_law_e_step" 2 Qu):FnOk P w K mg base (CXD P w) 2 f fd ["manner","run"] (spF mg 2 Y2):=by
 have:FnScope ["manner","run","stand","number"] ["manner","run"] (Q9 Xt):=by fail "c"
 delta Y2 K1 Uq
 fail "k"
def Jx:MS:=(Jm (qw (toB (mOp oNe (mOp oIx (Q2 2) (mC (.int 2))) (mC (.str "go")))) (qw (toB (mOp oNe (mOp oIx (Q2 2) (mC (.int 2))) (mC (.str "fall")))) (toB (Qa 2 Qs (Q1 (Q2 2) (Q1 (Q2 1) Q6)))))) (Jm (toB (mOp oNe (Qa 2 Qu (Q1 (Q2 2) (Q1 (Q2 1) Q6))) (Q2 1))) (J2 (mC (.bl yo))) J3) J3)
def Y9:MS:=(Qd (U7 (Qb 2) (W1 (mOp oIx (Q2 0) (mC (.int 2)))) Jx)
  (J2 (mC (.bl zb))))
def J6:FN:=Jw Y9 3
def yu(F:Fun K "_law_e_is_still" "_law_e_is_still" Ww f fd)(T:Txt K mg)(j:DefS P w K mg base 1 "_law_e_fits" 2 Qs)(q:DefS P w K mg base 1 "_law_e_step" 2 Qu):FnOk P w K mg base (CXD P w) 2 f fd ["manner","stand"] (spF mg 2 J6):=by
 have:FnScope ["manner","stand","rule"] ["manner","stand"] (Q9 Ww):=by fail "c"
 delta J6 Y9 Jx
 fail "k"
def Z6:ME:=(mOp (Q16 yo) (Q2 0) (Q2 1))
def Y6:ME:=(X7 (Q2 1) (Qa 2 Qu (Q1 (Q2 0) (Q1 (Q2 2) Q6))))
def Y3:MT:=(toB (Qa 2 Qs (Q1 (Q2 0) (Q1 (Q2 2) Q6))))
def Z8:MS:=(Qd (J1 4 (X7 (Q2 2) (Q2 3)))
  (Qd (Jm (Kr (Zx (toB (jj "int" (Q2 4)))) (toB (jj "bool" (Q2 4)))) (J2 (mC (.bl yo))) J3)
  (Jm (toB (Qa 2 J6 (Q1 (Q2 0) (Q1 (Q2 3) Q6)))) (Jm (toB (mOp oNe (Q2 4) (mC (.int 0)))) (J2 (mC (.bl yo))) J3) (Qd (J1 5 (V1 (Ja [zl,zo 2,zo 3] (Qb 0) (W1 (mOp oIx (Q2 0) (mC (.int 2)))) Y3 Y6)))
  (Jm (toB (mOp oNe (Q2 4) (mOp Zu (mC (.int 1)) (Qx Qh3 (Q1 (Q2 5) Q6))))) (J2 (mC (.bl yo))) J3)))))
def Yz:MS:=(Qd (Q1b (Jm (Kr (Zx (toB (jj "dict" (Q2 2)))) (Kr (toB (mOp oNe (Qx Q0r (Q1 (Q2 2) Q6)) (Qx Q0r (Q1 (Q2 1) Q6)))) (Zx (toB (Qx (jw λns=>.bl (ns.all id)) (Q1 (V1 (Ja [zl,zo 1] (Qb 0) (K3 (Q2 2)) Ya Z6)) Q6)))))) (J2 (mC (.bl yo))) J3))
  (Qd (Q1b (U7 (Qb 3) (K3 (Q2 1)) Z8))
  (J2 (mC (.bl zb)))))
def Jy:FN:=Yw Yz 6
def ja(F:Fun K "_law_e_dict_right" "_law_e_dict_right" Yx f fd)(T:Txt K mg)(j:DefS P w K mg base 2 "_law_e_is_still" 2 J6)(z:DefS P w K mg base 1 "_law_e_step" 2 Qu)(q:DefS P w K mg base 1 "_law_e_fits" 2 Qs):FnOk P w K mg base (CXD P w) 3 f fd ["manner","known","found"] (spF mg 3 Jy):=by
 have:FnScope ["manner","known","found","stand","many","ahead"] ["manner","known","found"] (Q9 Yx):=by fail "c"
 delta Jy Yz Z8 Y3 Y6 Z6
 fail "K"
def V9:MS:=(Jm (toB (Qa 2 Qs (Q1 (Q2 5) (Q1 (Q2 4) Q6)))) (Qd (J1 6 (Qa 2 Qu (Q1 (Q2 5) (Q1 (Q2 4) Q6))))
  (Jm (toB (mOp (Q16 zb) (Q2 6) (Q2 2))) (Qd (X6 (Q2 2) (Q2 6) (mC (.bl zb)))
  (Xi (mBM Jg (Q2 3) (Q1 (Q2 6) Q6)))) J3)) J3)
def Va:MS:=(Qd (J1 4 (mBM Qa1 (Q2 3) Q6))
  (Qd (Jm (toB (Qa 2 J6 (Q1 (Q2 0) (Q1 (Q2 4) Q6)))) (J2 (mC (.bl yo))) J3)
  (U7 (Qb 5) (W1 (mOp oIx (Q2 0) (mC (.int 2)))) V9)))
def Wr:MT:=(toB (mOp oNe (Q2 3) (yy Q6)))
def Yh:MS:=(Qd (J1 2 Q48)
  (Qd (X6 (Q2 2) (Q2 1) (mC (.bl zb)))
  (Qd (J1 3 (qu (qk (Q1 (Q2 1) Q6))))
  (Qd (J5 Wr Va 100000)
  (J2 (mC (.bl zb)))))))
def Jq:FN:=Yw Yh 7
def sc__law_e_never_still:FnScope ["manner","stand","met","row","here","rule","there"] ["manner","stand"] (Q9 Yf):=⟨rfl,rfl,rfl,by decide +kernel,rfl,by decide +kernel,by decide +kernel⟩
def qr(F:Fun K "_law_e_never_still" "_law_e_never_still" Yf f fd)(T:Txt K mg)(j:DefS P w K mg base 2 "_law_e_is_still" 2 J6)(q:DefS P w K mg base 1 "_law_e_fits" 2 Qs)(z:DefS P w K mg base 1 "_law_e_step" 2 Qu):FnOk P w K mg base (CXD P w) 3 f fd ["manner","stand"] (spF mg 2 Jq):=by
 refine Q4q (k:=2) (m:=Yh) F sc__law_e_never_still rfl rfl rfl λI A outer s H E G=>?_
 exact(Zk (Xq 2 sc__law_e_never_still.nd Q39)
  (Zk (xr (xw G) Q5v (Qt 2) (Qt 1))
  (Zk (Xq 3 sc__law_e_never_still.nd (Qi7 (Qhx (Qg (Qt 1) J7))))
  (Zk (Q8z 100000 PassesOwn.leaving (Qbh (Qsy G.units) (Qt 3) (Qbm J7)) (Zk (Xq 4 sc__law_e_never_still.nd (Qic dz PySem.F.slot_list_pop PySem.F.type_list_pop Qk4 (Qt 3)))
  (Zk (Qdh (Qbg (Ym j (G.mono (by decide)) Wy rfl (Qg (Qt 0) (Qg (Qt 4) J7)))) (Kt (Q6z Q5v)) Q76)
  (Kt (Qbi PassesOwn.leaving rfl (Qi0 (Qdn (Qt 0) Jz)) (W7 (i:=5) sc__law_e_never_still.nd) (Kt (Qdh (Qbg (Ym q (G.mono (by decide)) Wy rfl (Qg (Qt 5) (Qg (Qt 4) J7)))) (Zk (Xq 6 sc__law_e_never_still.nd (Ym z (G.mono (by decide)) Wy rfl (Qg (Qt 5) (Qg (Qt 4) J7))))
  (Kt (Qdh (Qbh (Q60 (xw G)) (Qt 6) (Qt 2)) (Zk (xr (xw G) Q5v (Qt 2) (Qt 6))
  (Kt (Qdi (Q5w (Qt 3) (Qg (Qt 6) J7))))) Q76))) Q76)))))))
  (Kt (Q6z Q5v))))))
def Qxu(c:Nat->aB):Sp:=λvs H Q E=>∃e dv,vs=[V.ref e]/\((H e=zo (.ext (IsXD e (c 5) dv))/\∀H2,Same H H2->Q (.str "stand") H2))
def sc__law_e_kind:FnScope ["caught","names","kinds"] ["caught"] (Q9 Xx):=⟨rfl,rfl,rfl,by decide +kernel,rfl,by decide +kernel,by decide +kernel⟩
def Q3z(F:Fun K "_law_e_kind" "_law_e_kind" Xx f fd)(T:Txt K mg)(j:Nms mg c)(G:TgtS K c 5):FnOk P w K mg base (CXD P w) 1 f fd ["caught"] (Qxu c):=by
 refine Fun.okD (k:=0) F sc__law_e_kind (λvs H Q E h=>by obtain⟨e,S,rfl,_⟩:=h;rfl) λO A outer s H vs Q E U I=>?_
 obtain ⟨e,S,rfl,q,J⟩:=I;refine jok ?_;refine ⟨_,X8 (Q1h (i:=1) sc__law_e_kind.nd rfl (Or.inl rfl) (xf ⟨Q9r ["road", "house", "table", "deed", "letter", "stand", "plan", "book", "manner", "many", "text", "row"] [(_,_),(_,_),(_,_),(_,_),(_,_),(_,_),(_,_),(_,_),(_,_),(_,_),(_,_),(_,_)] rfl⟩))
   (X8 (Q1h (i:=2) sc__law_e_kind.nd rfl (Or.inl rfl) (xf (Yb ⟨Jd (Jj K) (by rfl) j.isi Qm (Qk (pv 0) (Qk (Z5 (v:=.ref (c 6)) (by rfl) j.m6 rfl) Jb))⟩ (Yb ⟨Jd (Jj K) (by rfl) j.isi Qm (Qk (pv 0) (Qk (Z5 (v:=.ref (c 2)) (by rfl) j.m2 rfl) Jb))⟩ (Yb ⟨Jd (Jj K) (by rfl) j.isi Qm (Qk (pv 0) (Qk (Z5 (v:=.ref (c 1)) (by rfl) j.m1 rfl) Jb))⟩ Q4i)))))
   (X8 (Q1h (i:=2) sc__law_e_kind.nd rfl (Or.inl rfl) (Qag yt ⟨pv 2⟩ (xf (Yb ⟨Jd (Jj K) (by rfl) j.isi Qm (Qk (pv 0) (Qk (Z5 (v:=.ref (c 3)) (by rfl) j.m3 rfl) Jb))⟩ (Yb ⟨Jd (Jj K) (by rfl) j.isi Qm (Qk (pv 0) (Qk (Z5 (v:=.ref (c 4)) (by rfl) j.m4 rfl) Jb))⟩ (Yb ⟨Jd (Jj K) (by rfl) j.isi Qm (Qk (pv 0) (Qk (Z5 (v:=.ref (c 5)) (by rfl) j.m5 rfl) Jb))⟩ Q4i))))))
   (X8 (Q1h (i:=2) sc__law_e_kind.nd rfl (Or.inl rfl) (Qag yt ⟨pv 2⟩ (xf (Yb ⟨Jd (Jj K) (by rfl) j.isi Qm (Qk (pv 0) (Qk (Z5 (v:=.ref (c 7)) (by rfl) j.m7 rfl) Jb))⟩ (Yb ⟨Jd (Jj K) (by rfl) j.isi Qm (Qk (pv 0) (Qk (Z5 (v:=.ref (c 8)) (by rfl) j.m8 rfl) Jb))⟩ (Yb ⟨Jd (Jj K) (by rfl) j.isi Qm (Qk (pv 0) (Qk (Z5 (v:=.ref (c 9)) (by rfl) j.m9 rfl) Jb))⟩ Q4i))))))
   (X8 (Q1h (i:=2) sc__law_e_kind.nd rfl (Or.inl rfl) (Qag yt ⟨pv 2⟩ (xf (Yb ⟨Jd (Jj K) (by rfl) j.isi Qm (Qk (pv 0) (Qk (Z5 (v:=.ref (c 10)) (by rfl) j.m10 rfl) Jb))⟩ (Yb ⟨Jd (Jj K) (by rfl) j.isi Qm (Qk (pv 0) (Qk (Z5 (v:=.ref (c 11)) (by rfl) j.m11 rfl) Jb))⟩ (Yb ⟨Jd (Jj K) (by rfl) j.isi Qm (Qk (pv 0) (Qk (Z5 (v:=.ref (c 12)) (by rfl) j.m12 rfl) Jb))⟩ Q4i))))))
   (X8 (Q1h (i:=2) sc__law_e_kind.nd rfl (Or.inl rfl) (Qag yt ⟨pv 2⟩ (xf (Yb ⟨Jd (Jj K) (by rfl) j.isi Qm (Qk (pv 0) (Qk (Z5 (v:=.ref (c 13)) (by rfl) j.m13 rfl) Jb))⟩ (Yb ⟨Jd (Jj K) (by rfl) j.isi Qm (Qk (pv 0) (Qk (Z5 (v:=.ref (c 14)) (by rfl) j.m14 rfl) Jb))⟩ Q4i)))))
   (X8 (Qzc (PW.pt (Qsv (Q2k Qyh (Qdv dz iO PySem.F.type_list_count Qg4 (pv 2) (Qk Qjp Jb)) Qjj (Q41 _)) (Qiu (Qiz (Qiy (Jd (Jj K) (by rfl) j.isi Qm (Qk (pv 0) (Qk (Qdw (v:=.ty "ValueError") (by rfl) j.ve Q2d rfl) Jb)))))))) (Qee (Qks Qvu)) Qrg)
   (Qee (Qks (Qzd ix_list (Qag yt ⟨pv 1⟩ (xf ⟨Q9r ["name","short"] [(_,_),(_,_)] rfl⟩)) ⟨Qdv dz iP PySem.F.type_list_index Qg3 (pv 2) (Qk Qjp Jb)⟩ (λ_ _=>rfl)))))))))),?_⟩
 repeat first
  |refine⟨_,rfl,e,_,_,_,_,_,rfl,rfl,(by repeat first|exact Qj|exact q|refine Q0f ?_ ‹_›),G.xc,G.k _ (by decide) (by decide),?_⟩
  |refine⟨_,rfl,e,_,_,_,_,zb,rfl,rfl,(by repeat first|exact Qj|exact q|refine Q0f ?_ ‹_›),G.xc,G.ve,_,rfl,Qvw ?_⟩
  |refine⟨by decide,λ_ _=>?_⟩
  |refine⟨_,rfl,?_⟩
  |refine⟨_,_,_,_,rfl,rfl,(by repeat first|exact Qj|exact q|refine Q0f ?_ ‹_›),(by repeat first|exact Qj|exact q|refine Q0f ?_ ‹_›),by decide,λ_ _=>?_⟩
  |refine⟨.inl ⟨rfl,_,.inl (.inl (by repeat first|exact Qj|exact q|refine Q0f ?_ ‹_›))⟩,_,[yo,yo,yo,yo,yo,zb,yo,yo,yo,yo,yo,yo,yo,yo],rfl,rfl,(by repeat first|exact Qj|exact q|refine Q0f ?_ ‹_›),rfl,_,rfl,Qvw ?_⟩
  |refine⟨.inl ⟨rfl,_,.inl (.inl (by repeat first|exact Qj|exact q|refine Q0f ?_ ‹_›))⟩,_,[yo,yo,yo,yo,yo,zb,yo,yo,yo,yo,yo,yo,yo,yo],5,rfl,rfl,(by repeat first|exact Qj|exact q|refine Q0f ?_ ‹_›),by decide,rfl,noB _ _ (by decide) (by decide),?_⟩
  |refine⟨_,_,_,_,rfl,rfl,.inl (.inl (by repeat first|exact Qj|exact q|refine Q0f ?_ ‹_›)),rfl,?_⟩
 exact J _ (by repeat first|exact λ_ _ z=>z|refine Qif ?_ ‹_›)
def Jk:FN:=λps st=>match U5 ps st with
|.ok v st1=>.ok (.str "") st1
|.exc x st1=>if x.cls="NoStand" then .ok (.str "stand") st1 else .stuck
|.stuck=>.stuck
def sc__law_e_refused:FnScope ["manner","caught","e"] ["manner"] (Q9 Vp):=⟨rfl,rfl,rfl,by decide +kernel,rfl,by decide +kernel,by decide +kernel⟩
def Q04(F:Fun K "_law_e_refused" "_law_e_refused" Vp f fd)(T:Txt K mg)(Nm:Nms mg c)(T5:TgtS K c 5)(q:DefS P w K mg base 9 "rests" 1 U5)(j:DefX P w K mg base 1 "_law_e_kind" ["caught"] (Qxu c)):FnOk P w K mg base (CXD P w) 10 f fd ["manner"] (spF mg 1 Jk):=by
 obtain⟨fR,a2,a4,FR,mR,kR,bR,lR⟩:=q.ex;obtain⟨fX,a3,FX,mX,kX,bX⟩:=j.ex;refine Fun.okD (k:=9) F sc__law_e_refused (λvs H Q E h=>h.1) λa1 A outer s H vs Q E I S=>?_
 obtain ⟨hl,ρ,J,O,R,rl,z⟩:=S;refine ⟨_,j8 (Q7d (i:=1) sc__law_e_refused.nd rfl (Or.inl rfl) Qbw)
   (j8 (Qfm FR (I.mono (by decide)) mR kR bR (Qk (pv 0) Jb) sc__law_e_refused.nd (i:=2) rfl rfl (λe=>xz (Q7d (i:=1) sc__law_e_refused.nd rfl (Or.inl rfl) (pv 2))) Nm.m0)
   (j8 (Qj2 (Q2k Qv0 (pv 1) Qbw (Q41 _)) (xz (Q7e Q7f)) Q7c)
   (xz (Q7e (Qdu (x:="_law_e_kind") (E:=E) FX (I.mono (by decide)) (by rfl) mX kX bX .nil Wy (Qk (pv 1) Jb)))))),?_⟩
 match vs,hl with
|[v0],hl=>
 refine⟨_,rfl,  rfl,ρ,J,O,R,rl,?_⟩;unfold Jk at z;cases I:U5 O J with
|ok a Y=>
  rw[I]at z;exact λH1 ρ1 x1 U v r=>⟨_,rfl,rfl,_,rfl,J24 (z H1 ρ1 x1 U _ rfl)⟩
|stuck=>
  rw[I]at z;exact z.elim
|exc x Y=>
  rw[I]at z;dsimp only at z
  by_cases G:x.cls="NoStand"
  ·rw[bU G]at z;intro C Z H1 ρ1 hm x1 U fs;rw[G,Nm.m5]at hm;cases hm;refine⟨_,rfl,T5.ex,λe he=>?_⟩;have x2:Ext H1 ρ1 (upd H1 e (.ext (IsXD e (c 5) Z))) ρ1:=Ext.add he;have R2:=U.add (o:=.ext (IsXD e (c 5) Z)) he;refine⟨_,rfl,_,rfl,rfl,_,rfl,Qvw ?_⟩;refine⟨_,rfl,e,Z,rfl,⟨Qj,λH2 sm=>z _ _ ((x1.trans x2).trans (Ext.same sm)) (R2.same sm) _ rfl⟩⟩
  ·rw[bV G]at z;exact z.elim
def V0:MS:=(Qd (Jm (Kr (Zx (toB (jj "tuple" (Q2 2)))) (toB (mOp oNe (Qx Yc (Q1 (Q2 2) Q6)) (mC (.int 2))))) (J2 (mC (.bl yo))) J3)
  (Qd (Jm (toB (mOp oEq (mOp oIx (Q2 2) (mC (.int 0))) (mC (.str "rests")))) (J2 (Qa 3 Jy (Q1 (Q2 0) (Q1 (Q2 1) (Q1 (mOp oIx (Q2 2) (mC (.int 1))) Q6))))) J3)
  (Qd (Jm (toB (mOp oNe (mOp oIx (Q2 2) (mC (.int 0))) (mC (.str "restless")))) (J2 (mC (.bl yo))) J3)
  (Qd (J1 3 (Qa 2 Y2 (Q1 (Q2 0) (Q1 (mOp oIx (Q2 2) (mC (.int 1))) Q6))))
  (J2 (yz (mOp K0 (Q2 3) (mC .non)) (Qa 2 Jq (Q1 (Q2 0) (Q1 (Q2 3) Q6)))))))))
def Z4:FN:=Jw V0 4
def Q28(F:Fun K "_law_e_right" "_law_e_right" X1 f fd)(T:Txt K mg)(q:DefS P w K mg base 3 "_law_e_dict_right" 3 Jy)(z:DefS P w K mg base 2 "_law_e_walk" 2 Y2)(j:DefS P w K mg base 3 "_law_e_never_still" 2 Jq):FnOk P w K mg base (CXD P w) 4 f fd ["manner","known","found"] (spF mg 3 Z4):=by
 have:FnScope ["manner","known","found","stand"] ["manner","known","found"] (Q9 X1):=by fail "c"
 delta Z4 V0
 fail "k"
def Q2v:MS:=(Qd (J1 7 (Qa 1 U5 (Q1 (Q2 3) Q6)))
  (Qd (Jm (Zx (toB (Qa 3 Z4 (Q1 (Q2 3) (Q1 (Q2 4) (Q1 (Q2 7) Q6)))))) (J2 (mC (.bl yo))) J3)
  (Xi (Qaa (mOp oIx (Q2 7) (mC (.int 1)))))))
def Q0t:MS:=(Qd (Jm (qw (toB (mOp (oI λa b=>.bl (decide (b<a))) (Q2 2) (mC (.int 1)))) (toB (mOp (oI λa b=>.bl (decide (b<=a))) (mOp oIx (Q2 1) (mC (.int 1))) (Qx Yc (Q1 (Q2 0) Q6))))) Qca J3)
  (Qd (J1 3 (Qa 1 Wd (Q1 (Q2 1) Q6)))
  (Qd (Qka (Q4n (Vt (Qb 4) (Vt (Qb 5) Q4p))) (Qa 1 Zz (Q1 (Q2 3) Q6)))
  (Jm (toB (mOp (oI λa b=>.bl (decide (b<a))) (Q2 5) (mC (.int 0)))) (Jm (toB (mOp oNe (Qa 1 Jk (Q1 (Q2 3) Q6)) (mC (.str "stand")))) (J2 (mC (.bl yo))) J3) (U7 (Qb 6) (Zm (Q1 (mC (.int 2)) Q6)) Q2v)))))
def Qk6:MS:=(Qd (J1 1 (qu (qk (Q1 (Q2 0) (Q1 (mC (.int 0)) (Q1 (mC (.int 0)) Q6))))))
  (Qd (U7 (Qb 2) (Zm (Q1 (mC (.int 3)) Q6)) Q0t)
  (J2 (mC (.bl zb)))))
def Qf1:FN:=Jw Qk6 8
def Qv2(F:Fun K "law" "law" xu f fd)(T:Txt K mg)(q:DefS P w K mg base 5 "_law_e_manner" 1 Wd)(z:DefS P w K mg base 2 "_law_e_levels" 1 Zz)(j:DefS P w K mg base 10 "_law_e_refused" 1 Jk)(I:DefS P w K mg base 9 "rests" 1 U5)(G:DefS P w K mg base 4 "_law_e_right" 3 Z4):FnOk P w K mg base (CXD P w) 11 f fd ["script"] (spF mg 1 Qf1):=by
 have:FnScope ["script","tape","k","manner","known","depth","turn","found"] ["script"] (Q9 xu):=by fail "c"
 delta Qf1 Qk6 Q0t Q2v
 fail "k"
end
def Qrz(a:Int){b:Int}(h:0<b):0<=a%b/\a%b<b:=⟨gF a (),gE a h⟩
def Qyz(x:Int){n:Nat}(h:1<=n):∃k:Nat,k<n/\x%(n:Int)=(k:Int):=by
 have:=Qrz x (b:=(n:Int)) ();exact⟨(x%(n:Int)).toNat,by omega,by omega⟩
def Q86 i st:Vy [.int i] st=.ok (.bl zb) st:=by
 simp[Vy,Jw,yx,isI,tyN]
def Qs7 x a b st:J9 [.int x,.int a,.int b] st=.ok (.bl (decide (a<=x)&&decide (x<=b))) st:=by
 have:=Q86 x st
 by_cases q:a<=x<;>simp[J9,Jw,Kz,this,q]
def Q3{a b:MS}(h1:a Γ S=.nx j S1)(h2:b j S1=r):Qd a b Γ S=r:=by rw[Q0b,h1];exact h2
def Qh{m:ME}{Γ:Gam}(h:m Γ S=.ok v S1):J1 i m Γ S=.nx (Γ.set i (zo v)) S1:=by rw[Qqy,h];rfl
def Q5{F:FN}{mr:ML}{ps:List PV}(h1:mr Γ S=.ok ps S1)(h2:ps.length=n)(q:F ps S1=.ok v j):Qa n F mr Γ S=.ok v j:=by rw[Qgb,h1,Qy,bU h2,q]
def Q4{o:OP}{a b:ME}(h1:a Γ S=.ok x S1)(h2:b Γ S1=.ok y j)(q:o j x y=.ok v S3):mOp o a b Γ S=.ok v S3:=by rw[Qvc,h1,Qy,h2,Qy,q]
def Q8{m:ME}{mr:ML}(h1:m Γ S=.ok p S1)(h2:mr Γ S1=.ok ps j):Q1 m mr Γ S=.ok (p::ps) j:=by rw[Qk7,h1,Qy,h2,Qy]
def Zp{o:CF}{mr:ML}(h1:mr Γ S=.ok ps S1)(h2:o S1 ps=.ok v j):Qx o mr Γ S=.ok v j:=by rw[Qk8,h1,Qy,h2]
def Jp{mi:MI}(h1:mi Γ S=.ok (xs,w) S1)(h2:Jv ga b w xs Γ S1=r):U7 ga mi b Γ S=r:=by rw[Qr2,h1];exact h2
def Wn{c:MT}{a:MS}(h1:c Γ S=.ok zb S1)(h2:a Γ S1=r):Jm c a b Γ S=r:=by rw[Qe6,h1];exact h2
def Z0{c:MT}{b:MS}(h1:c Γ S=.ok yo S1)(h2:b Γ S1=r):Jm c a b Γ S=r:=by rw[Qe6,h1];exact h2
def Qne{ga:GA}{m:ME}(h1:m Γ S=.ok p S1)(h2:ga p Γ=zo j):Qka ga m Γ S=.nx j S1:=by rw[Qr3,h1];show(match ga p Γ with|some j=>SR.nx j S1|none=>.stuck)=_;rw[h2]
def Z1{m:ME}{xs:List PV}(h1:m Γ S=.ok p S1)(h2:Ve S1 p=zo (xs,w))(j:xs.length<=1000000):W1 m Γ S=.ok (xs,w) S1:=by rw[Qqz,h1,Qy,h2];exact bU j
def Ue{m:ML}(h:m Γ S=.ok ps S1):V1 m Γ S=.ok (.lst ps) S1:=by rw[Qqv,h,Qy]
def Yu{cap:zAC}{ga:GA}{mi:MI}{mt:MT}{me:ME}{Γ:Gam}{S S1 j:Q0}{xs ys:List PV}{w:Wt}(h1:mi Γ S=.ok (xs,w) S1)(h2:Zt ga mt me w (Wp cap Γ) xs S1=.ok ys j):Ja cap ga mi mt me Γ S=.ok ys j:=by rw[Qga,h1,Qy,h2];rfl
def Vh{m:ML}{S1:Q0}(h:m Γ S=.ok ps S1):qu m Γ S=.ok (.ref S1.length) (S1++[.lst ps]):=by rw[Qqx,h,Qy]
def Za{t:MT}(h:t Γ S=.ok b S1):Zx t Γ S=.ok (!b) S1:=by rw[Qhm,h,Qy]
def Qf{m:ME}(h:m Γ S=.ok (.bl b) S1):toB m Γ S=.ok b S1:=by rw[Qtd,h];rfl
def Q72{mo mi m:ME}(h1:m Γ S=.ok p S1)(h2:mo Γ S1=.ok o j)(G:mi Γ j=.ok i S3)(z:qi S3 o i p=zo q):ji mo mi m Γ S=.nx Γ q:=by
 rw[Qg9,h1,xt,h2,xt,G,xt,z]
def xm{f:MF}{mo:ME}{mr:ML}(h1:mo Γ S=.ok p S1)(h2:V2 S1 p=zo xs)(z:mr Γ S1=.ok ps j)(q:f j p ps=.ok v S3):Xi (mBM f mo mr) Γ S=.nx Γ S3:=by
 rw[Qa8,Qk9,h1,Qy];simp only[h2];rw[z,Qy,q,xt]
def Q8d{m:ME}(h:m Γ S=.ok v S1):Xi m Γ S=.nx Γ S1:=by rw[Qa8,h];rfl
def J1w{a:MT}(h:a Γ S=.ok zb S1):Kr a b Γ S=.ok zb S1:=by rw[Qdf,h];rfl
def yc{a b:MT}(h:a Γ S=.ok yo S1)(h2:b Γ S1=r):Kr a b Γ S=r:=by rw[Qdf,h];exact h2
def We{a:MS}(h:a Γ S=.rt v S1):Qd a b Γ S=.rt v S1:=by rw[Q0b,h]
def Xn{mr:ML}{ps:List PV}(h1:mr Γ S=.ok ps S1)(h2:ps.length<=1000000):Yr mr Γ S=.ok (.tup ps) S1:=by rw[Qqw,h1,Qy];exact bU h2
def J4{m:MS}{ps:List PV}(h:m (ps.map zo++bh (nl-ps.length) zl) S=.rt v S'):Yw m nl ps S=.ok v S':=by unfold Yw;rw[h]
def Zf{m:MS}{ps:List PV}(h:m (ps.map zo++bh (nl-ps.length) zl) S=.rt v S'):Jw m nl ps S=fin S v S':=by unfold Jw;rw[h]
def qe{S:Q0}{xs:List PV}(h:S[L]?=zo (.lst xs))(j:xs.length<1000000)y:Jg S (.ref L) [y]=.ok .non (S.set L (.lst (xs++[y]))):=by
 simp only[Jg,chg,h];rw[bU (show xs.length<lim from j)]
def Qew{a b:MT}(h:a Γ S=.ok zb S1)(h2:b Γ S1=r):qw a b Γ S=r:=by rw[Q8w,h];exact h2
def Qnf{a:MT}(h:a Γ S=.ok yo S1):qw a b Γ S=.ok yo S1:=by rw[Q8w,h];rfl
def Qw{m:ME}(h:m Γ S=.ok v S1):J2 m Γ S=.rt v S1:=by rw[Qr0,h];rfl
def Qt7 S(h:a=b):oEq S (.int a) (.int b)=.ok (.bl zb) S:=by simp[h]
def Qzx S(h:¬a=b):oEq S (.int a) (.int b)=.ok (.bl yo) S:=by simp[h]
def Qt5 S(h:a<b):oLt S (.int a) (.int b)=.ok (.bl zb) S:=by simp[h]
def Qkd S(h:¬a<b):oLt S (.int a) (.int b)=.ok (.bl yo) S:=by
 have:oLt S (.int a) (.int b)=.ok (.bl (decide (a<b))) S:=by simp
 rw[this,bW h]
def Q0j S(h:b<a):(oI λa b=>.bl (decide (b<a))) S (.int a) (.int b)=.ok (.bl zb) S:=by
 show Res.ok (PV.bl (decide (b<a))) S=_;rw[bY h]
def Q1x S(h:¬b<a):(oI λa b=>.bl (decide (b<a))) S (.int a) (.int b)=.ok (.bl yo) S:=by
 show Res.ok (PV.bl (decide (b<a))) S=_;rw[bW h]
def Qc8 S(h:0<b):yw S (.int a) (.int b)=.ok (.int (a%b)) S:=by
 show(if 0<b then _ else _)=_;rw[bU h]
def Q8n S a b:Zu S (.int a) (.int b)=.ok (.int (a+b)) S:=by simp
def Qnb{mr:ML}{ps:List PV}(h:mr Γ S=.ok ps S1)(j:ps.length<=1000000:=by decide):yy mr Γ S=.ok (.lst ps) S1:=by
 unfold yy;rw[h,Qy];exact bU j
def Q9y S a:oNe S (.int a) (.int a)=.ok (.bl yo) S:=by simp
def Qss{n:Nat}(j:n<=1000){m:ME}{Γ:Gam}{S:Q0}(h:m Γ S=.ok (.int n) S):Zm (Q1 m Q6) Γ S=.ok (Vq 0 n,[]) S:=by
 rw[Q46,Q8 h (show Q6 Γ S=.ok [] S from rfl),Qy];show(if -(lim:Int)<=(n:Int)/\(n:Int)<=lim then _ else _)=_;rw[bU (by rw[Q1e];omega),bw]
def Qmk S a:oEq S (.str a) (.str a)=.ok (.bl zb) S:=by simp
def Qek S(h:¬a=b):oEq S (.str a) (.str b)=.ok (.bl yo) S:=by simp[h]
def Qxv{a:MS}(h:a Γ S=.exc x S1):Qd a b Γ S=.exc x S1:=by rw[Q0b,h]
def Qa0 S(h:(-(2^64)<a/\a<2^64)\/(-(2^64)<b/\b<2^64)):jb S (.int a) (.int b)=.ok (.int (a*b)) S:=bU h
def Qyx S a b(h0:0<m)(h:m<2^64):jb S (.int (a%m)) (.int b)=.ok (.int (a%m*b)) S:=Qa0 S (.inl ⟨Int.lt_of_lt_of_le (by decide) (gF a (Int.ne_of_gt h0)),Int.lt_trans (gE a h0) h⟩)
def Q8c{st st':Q0}(h:st'.length=st.length)d:fin st (.int d) st'=.ok (.int d) st':=by
 unfold fin
 by_cases q:st<+:st'
 ·rw[bU q,<- q.eq_of_length h.symm,fz];rfl
 ·rw[bV q]
def Qnz(c:Int)(p:Nat)(st:Q0):∃z:Int,Zr [.int c,.int p] st=.ok (.int z) st:=by
 by_cases q:(10:Int)^jP 18<=c
 ·exact⟨c,(Zf (We (Wn (Qf (Q4 rfl rfl (congrArg (λz=>Res.ok (PV.bl z) st) (bY q)))) (Qw rfl)))).trans (Q8c rfl c)⟩
 ·exact⟨_,(Zf (Q3 (Z0 (Qf (Q4 rfl rfl (congrArg (λz=>Res.ok (PV.bl z) st) (bW q)))) rfl)
   (Q3 (Qh (Q4 (Q4 (Q4 (Q4 (Q4 rfl rfl (Qc8 _ (by decide))) rfl (Qa0 _ (.inr (by decide)))) (Q4 rfl rfl (Qa0 _ (.inr (by decide)))) rfl) rfl rfl) rfl (Qc8 _ (by decide))))
   (Q3 (Qh (Q4 (Q4 (Q4 (Q4 (Q4 rfl rfl (Qyx _ _ _ (by decide) (by decide))) (Q4 rfl rfl (Qa0 _ (.inl (by decide)))) rfl) rfl rfl) rfl rfl) rfl (Qc8 _ (by decide))))
   (Q3 (Qh (Q4 (Q4 (Q4 (Q4 rfl rfl (Qyx _ _ _ (by decide) (by decide))) (Q4 rfl rfl (Qa0 _ (.inl (by decide)))) rfl) rfl rfl) rfl (Qc8 _ (by decide))))
   (Qw (Q4 (Q4 rfl rfl (Qa0 _ (.inr (by decide)))) rfl rfl))))))).trans (Q8c rfl _)⟩
def TapeAt(S:Q0)(L:Nat)(ns:List Int):Prop:=∃(p:Nat)(c:Int),S[L]?=zo (.lst [.fro (ns.map .int),.int p,.int c])
def TapeAt.lt{S:Q0}(h:TapeAt S L ns):L<S.length:=let ⟨_,_,e⟩:=h;(O0.mp e).1
def Q31{S:Q0}x(h:S[L]?=zo (.lst [a,b,c])):qi S (.ref L) (.int 1) x=zo (S.set L (.lst [a,x,c]))/\qi S (.ref L) (.int 2) x=zo (S.set L (.lst [a,b,x])):=by
 unfold qi;simp only[h];exact⟨rfl,rfl⟩
def Q2g(h:S[L]?=zo (.lst [a,b,c])):oIx S (.ref L) (.int 0)=.ok a S/\oIx S (.ref L) (.int 1)=.ok b S/\oIx S (.ref L) (.int 2)=.ok c S:=by
 have j:ListAt S (.ref L) [a,b,c]:=.inr (.inr ⟨L,rfl,h⟩);rw[j.ix,j.ix,j.ix];exact⟨rfl,rfl,rfl⟩
def Qnd{ns:List Int}(h:i<ns.length):oIx S (.fro (ns.map .int)) (.int i)=.ok (.int (ns.getD i 0)) S:=by
 show okO S (atI (ns.map PV.int) (i:Int))=_;rw[Qsb,Sm.atI_get (Qgp h 0)];rfl
def Qz6:MS:=Jm (toB (mOp oLt (Q2 2) (Qx Yc (Q1 (mOp oIx (Q2 0) (mC (.int 0))) Q6)))) (J1 3 (mOp oIx (mOp oIx (Q2 0) (mC (.int 0))) (Q2 2))) (Jm (toB (mOp (oI λa b=>.bl (decide (b<a))) (Qx Yc (Q1 (mOp oIx (Q2 0) (mC (.int 0))) Q6)) (mC (.int 0)))) (J1 3 (mOp Zu (mOp yw (mOp oIx (mOp oIx (Q2 0) (mC (.int 0))) (mOp yw (mOp jb (Q2 2) (mC (.int 3))) (Qx Yc (Q1 (mOp oIx (Q2 0) (mC (.int 0))) Q6)))) (mOp Qg1 (mC (.int 10)) (mC (.int 9)))) (mOp jb (Q2 2) (mC (.int 1000000))))) J3)
def Qz1:MS:=Qd (J1 4 (mOp yw (mOp oIx (Q2 0) (mC (.int 2))) (Q2 1))) (Qd (ji (Q2 0) (mC (.int 2)) (mOp Q9v (mOp oIx (Q2 0) (mC (.int 2))) (Q2 1))) (J2 (Q2 4)))
def Qra(ns:List Int):Yc S [.fro (ns.map .int)]=.ok (.int ns.length) S:=by
 show Res.ok (PV.int ((ns.map PV.int).length:Nat)) S=_;rw[O1]
def Qs5(ns:List Int)(p:Nat){S:Q0}{L:Nat}{c:PV}(U:S[L]?=zo (.lst [.fro (ns.map .int),.int p,c]))(J I:Option PV):∃z:Int,Qz6 [zo (.ref L),J,zo (.int p),zo (.int p),I] S=.nx [zo (.ref L),J,zo (.int p),zo (.int z),I] S:=by
 obtain⟨O,_,_⟩:=Q2g U;have j:(Qx Yc (Q1 (mOp oIx (Q2 0) (mC (.int 0))) Q6)) [zo (.ref L),J,zo (.int p),zo (.int p),I] S=.ok (.int ns.length) S:=Zp (Q8 (Q4 rfl rfl O) rfl) (Qra ns)
 by_cases q:p<ns.length
 ·exact⟨_,Wn (Qf (Q4 rfl j (Qt5 S (dG.mpr q)))) (Qh (Q4 (Q4 rfl rfl O) rfl (Qnd q)))⟩
 ·have f:=Qkd S (λz=>q (dG.mp z))
  by_cases G:0<ns.length
  ·obtain⟨m,hm,Y⟩:=Qyz ((p:Int)*3) G;have g:yw S (.int ((p:Int)*3)) (.int ns.length)=.ok (.int m) S:=(Qc8 S (dG.mpr G)).trans (congrArg (λz=>Res.ok (PV.int z) S) Y)
   exact⟨_,Z0 (Qf (Q4 rfl j f)) (Wn (Qf (Q4 j rfl (Q0j S (dG.mpr G)))) (Qh (Q4 (Q4 (Q4 (Q4 rfl rfl O) (Q4 (Q4 rfl rfl (Qa0 S (.inr (by decide)))) j g) (Qnd hm)) rfl (Qc8 S (by decide))) (Q4 rfl rfl (Qa0 S (.inr (by decide)))) rfl)))⟩
  ·exact⟨p,Z0 (Qf (Q4 rfl j f)) (Z0 (Qf (Q4 j rfl (Q1x S λz=>G (dG.mp z)))) rfl)⟩
structure Mv(L:Nat)(S S':Q0):Prop where
len:S'.length=S.length
keep:∀t,t≠L->S'[t]?=S[t]?
def Qc6{S1:Q0}(h:Mv L S S1)x:Mv L S (S1.set L x):=⟨L9.trans h.len,λt j=>(E2 λu=>j u.symm).trans (h.keep t j)⟩
def Qbk{S:Q0}y(h:S[L]?=zo x):(S.set L y)[L]?=zo y:=D9 (O0.mp h).1
def Ze(T:TapeAt S L ns)m(h1:1<=m)(hm:m<1267650600228229401496703205376):∃(d:Nat)(S':Q0),d<m/\TapeAt S' L ns/\Mv L S S'/\Qe [.ref L,.int m] S=.ok (.int d) S':=by
 obtain⟨p,c,j⟩:=T;have R:∀{p1:Nat}{J:Int}{S1:Q0}{U Z:Option PV},S1[L]?=zo (.lst [.fro (ns.map .int),.int p1,.int J])->Mv L S S1->∃(d:Nat)(S':Q0),d<m/\TapeAt S' L ns/\Mv L S S'/\Qz1 [zo (.ref L),zo (.int m),U,Z,zl] S1=.rt (.int d) S':=λ{p1 J S1 U Z} hS1 M=>by
  obtain⟨_,_,Y⟩:=Q2g hS1;obtain⟨d,hd,ed⟩:=Qyz J h1;have m0:(0:Int)<m:=dG.mpr h1;exact⟨d,_,hd,⟨p1,_,Qbk _ hS1⟩,Qc6 M _,Q3 (Qh (Q4 (Q4 rfl rfl Y) rfl ((Qc8 S1 m0).trans (congrArg (λz=>Res.ok (PV.int z) S1) ed))))
   (Q3 (Q72 (Q4 (Q4 rfl rfl Y) rfl (bU ⟨m0,dG.mpr hm⟩)) rfl rfl (Q31 _ hS1).2) rfl)⟩
 obtain⟨_,i1,O⟩:=Q2g j
 by_cases q:c<(m:Int)
 ·obtain⟨z,ez⟩:=Qs5 ns p j (zo (.int m)) zl;have h2:=Qbk (.lst [.fro (ns.map .int),.int ((p:Int) + 1),.int c]) j;obtain⟨y,ey⟩:=Qnz z p (S.set L (.lst [.fro (ns.map .int),.int ((p:Int) + 1),.int c]));obtain⟨d,S',hd,I,G,e⟩:=R (p1:=p + 1) (Qbk (.lst [.fro (ns.map .int),.int ((p:Int) + 1),.int y]) h2) (Qc6 (Qc6 ⟨rfl,λ_ _=>rfl⟩ _) _);exact⟨d,S',hd,I,G,(Zf (Q3 (Wn (Qf (Q4 (Q4 rfl rfl O) rfl (Qt5 S q))) (Q3 (Qh (Q4 rfl rfl i1)) (Q3 (Qh rfl) (Q3 ez
   (Q3 (Q72 (Q4 rfl rfl rfl) rfl rfl (Q31 _ j).1) (Q72 (Q5 (Q8 rfl (Q8 rfl rfl)) rfl ey) rfl rfl (Q31 _ h2).2)))))) e)).trans (Q8c G.len d)⟩
 ·obtain⟨d,S',hd,I,G,e⟩:=R j ⟨rfl,λ_ _=>rfl⟩;exact⟨d,S',hd,I,G,(Zf (Q3 (Z0 (Qf (Q4 (Q4 rfl rfl O) rfl (Qkd S q))) rfl) e)).trans (Q8c G.len d)⟩
def Qrh{α:Type}(f:α->PV)(xs:List α)(h:k<xs.length):oIx S (.lst (xs.map f)) (.int k)=.ok (f xs[k]) S:=by
 show okO S (atI (xs.map f) (k:Int))=_;rw[Sm.atI_get (show(xs.map f)[k]?=zo (f xs[k]) by rw[D8,O2 h];rfl)];rfl
def Xz{body:MS}{ps:List PV}{st:Q0}(h:body (ps.map zo++bh (nl-ps.length) zl) st=.rt (.bl b) st):Jw body nl ps st=.ok (.bl b) st:=by
 unfold Jw;rw[h];exact Zn st b
def Qs8(p:PV)(a b:Int):Bool:=match p with
|.int x=>decide (a<=x)&&decide (x<=b)
|_=>yo
def Q93(c:Nat):Bool:=decide (97<=c)&&decide (c<=122)
def Zs(x:Str):Bool:=decide (1<=(x.length:Int))&&decide ((x.length:Int)<=8)&&x.cps.toList.all Q93
def Q8p:PV->Bool
|.str x=>Zs x
|_=>yo
def evP:PV->Bool
|.str x=>Xb ["go","fall"] x
|_=>yo
def Qce(n:Int):PV->Bool
|.tup [a,b]=>Qs8 a 0 (n-1)&&(Q8p b && !evP b)
|_=>yo
def Qt6(n:Int)(p:PV):Bool:=match p with
|.tup xs=>decide ((xs.length:Int)<=8)&&xs.all (Qce n)
|_=>yo
def qj(n:Int):PV->Bool
|.tup [a,b,c,d,e,f]=>Qs8 a 0 (n-1)&&(Q8p b&&(Q8p c&&Q8p d))&&(Qs8 e 0 9&&Qt6 n f)
|_=>yo
def Qcj{m:ME}(h:m Γ S=.ok (.str x) S1):Q7u j ss m Γ S=.ok (.bl (Xb ss x !=j)) S1:=by unfold Q7u;rw[h];rfl
def Qn7 A(bs:List Bool):jw (λns=>PV.bl (ns.all id)) A [.lst (bs.map .bl)]=.ok (.bl (bs.all id)) A:=by simp -implicitDefEqProofs
def Qwi{a b:ME}(h:a Γ S=.ok (.bl x) S)(h2:x=zb->b Γ S=r)(j:x=yo->r=.ok (.bl yo) S):yz a b Γ S=r:=by
 rw[Qe7,h,Qy];cases x with
|true=>exact h2 rfl
|false=>rw[j rfl];rfl
def Q53{a b:ME}(h:a Γ S=.ok (.bl zb) S)(h2:b Γ S=r):yz a b Γ S=r:=Qwi h (λ_=>h2) (λe=>nomatch e)
def Qb5{α:Type}{g:α->PV}{xs:List α}{ga:GA}{mi:MI}{me:ME}(hi:mi Γ S=.ok (xs.map g,[]) S)(h:∀x∈xs,∃j,ga (g x) (Wp cap Γ)=zo j/\me j S=.ok (.bl zb) S):Qx (jw λns=>.bl (ns.all id)) (Q1 (V1 (Ja cap ga mi Ya me)) Q6) Γ S=.ok (.bl zb) S:=by
 have z:=jv (ga:=ga) (me:=me) (w:=[]) (Γ0:=Wp cap Γ) (st:=S) g (λ_=>PV.bl zb) (Qr S) (ys:=xs) h;have q:=Qn7 S (xs.map λ_=>zb);rw[L4,cH,show xs.all (id∘λ_=>zb)=zb from F4.mpr λ_ _=>rfl]at q
 exact Zp (Q8 (Ue (Yu hi z)) rfl) q
def z8{xs:List PV}(h1:a<=(xs.length:Int))(h2:(xs.length:Int)<=b)S:Qp [.tup xs,.int a,.int b] S=.ok (.bl zb) S:=by
 refine Xz ?_;show Yq [zo (.tup xs),zo (.int a),zo (.int b)] S=_;simp![Yq,isI,tyN,h1,h2]
def Qer(h1:a<=x)(h2:x<=b)S:J9 [.int x,.int a,.int b] S=.ok (.bl zb) S:=by rw[Qs7,bY h1,bY h2];rfl
def Qb8(h:Zs x=zb)S:Yv [.str x] S=.ok (.bl zb) S:=by
 unfold Zs at h;simp only[F3,decide_eq_true_eq,F4]at h;obtain⟨⟨J,U⟩,h3⟩:=h;have j:x.length<=lim:=by rw[Q1e];omega
 refine Xz ?_;show Q19 [zo (.str x)] S=_;have Y:Yc S [.str x]=.ok (.int x.length) S:=bU j;have q:Qe3 (Q2 0) [zo (.str x)] S=.ok (x.cps.toList.map (λc=>.str ⟨#[c]⟩),[]) S:=bU j;have O:=Qb5 (cap:=[zl]) (ga:=Qb 0) (me:=Xj) q λc z=>⟨_,rfl,by
  have:=h3 c z;unfold Q93 at this;simp only[F3,decide_eq_true_eq]at this;have I:Qg2 S (.str "a") (.str ⟨#[c]⟩)=.ok (.bl zb) S:=by
   show Res.ok (PV.bl (!decide ([c]<[97]))) S=_;rw[bW (by rw[jX];simp;omega)];rfl
  have G:Qg2 S (.str ⟨#[c]⟩) (.str "z")=.ok (.bl zb) S:=by
   show Res.ok (PV.bl (!decide ([122]<[c]))) S=_;rw[bW (by rw[jX];simp;omega)];rfl
  simp[Wp,Xj,I,G]⟩
 have h0:jj "str" (Q2 0) [zo (.str x)] S=.ok (.bl zb) S:=rfl;refine Q3 (Z0 (yc (Za (b:=zb) (Qf h0)) (Za (b:=zb) ?_)) rfl) (Qw O);simp![Y,J,U]
def Qza(h0:0<=x)(h1:x<n)(h2:Zs s=zb)(j:Xb ["go","fall"] s=yo)S:Ub [.int n,.tup [.int x,.str s]] S=.ok (.bl zb) S:=by
 refine Xz ?_;show je [zo (.int n),zo (.tup [.int x,.str s])] S=_;refine Q3 (Z0 (yc (Za (b:=zb) (Qf (Q5 (n:=3) rfl rfl (z8 (by simp) (by simp) S)))) (Za (b:=zb) (Qf (Q5 (n:=3) rfl rfl (Qer h0 () S))))) rfl) (Qw (Q53 (Q5 (n:=1) rfl rfl (Qb8 h2 S)) ?_));rw[Qcj (x:=s) (S1:=S) rfl,j];rfl
def Qrk(h:∀p∈ps,∃k,Uv d p=zo k):∃ks,W0 (Uv d) ps=zo ks:=by
 induction ps with
|nil=>exact⟨[],rfl⟩
|cons p ps z=>
  obtain⟨k,G⟩:=h p (by simp);obtain⟨ks,j⟩:=z λq I=>h q (O3 _ I)
  exact⟨k::ks,by unfold W0;rw[G,j]⟩
def Q4y(h:Qs8 p a b=zb):∃x,p=.int x/\a<=x/\x<=b:=by
 cases p with
|int x=>
  have h:(decide (a<=x)&&decide (x<=b))=zb:=h;simp at h;exact⟨x,rfl,h⟩
|_=>cases h
def z5(h:Q8p p=zb):∃x,p=.str x/\Zs x=zb:=by
 cases p with
|str x=>exact⟨x,rfl,h⟩
|_=>cases h
def Q80(h:Qce n p=zb):∃x s,p=.tup [.int x,.str s]/\0<=x/\x<n/\Zs s=zb/\Xb ["go","fall"] s=yo:=by
 unfold Qce at h
 split at h
 ·rename_i a b;rw[F3,F3]at h;obtain⟨x,rfl,h1,h2⟩:=Q4y h.1;obtain⟨s,rfl,j⟩:=z5 h.2.1;refine⟨x,s,rfl,h1,by omega,j,?_⟩;have:(!Xb ["go","fall"] s)=zb:=h.2.2;simpa using this
 ·cases h
def Q3c(h:qj n p=zb):∃x s e t u j,p=.tup [.int x,.str s,.str e,.str t,.int u,.tup j]/\0<=x/\x<n/\Zs s=zb/\Zs e=zb/\Zs t=zb/\0<=u/\u<=9/\j.length<=8/\∀l∈j,Qce n l=zb:=by
 unfold qj at h
 split at h
 ·rename_i a b c d e f;simp only[F3]at h;obtain⟨⟨h1,h2,I,G⟩,h5,h6⟩:=h;obtain⟨x,rfl,x1,x2⟩:=Q4y h1;obtain⟨s,rfl,s1⟩:=z5 h2;obtain⟨J,rfl,S⟩:=z5 I;obtain⟨t,rfl,O⟩:=z5 G;obtain⟨u,rfl,q,z⟩:=Q4y h5;unfold Qt6 at h6
  split at h6
  ·rename_i j;simp only[F3,decide_eq_true_eq,F4]at h6;exact⟨x,s,J,t,u,j,rfl,x1,by omega,s1,S,O,q,z,by omega,h6.2⟩
  ·cases h6
 ·cases h
def Q5x(h:qj n p=zb):∃k,qd p=zo k:=by
 obtain⟨x,s,e,t,u,j,rfl,_,_,_,_,_,_,_,_,G⟩:=Q3c h;obtain⟨ks,I⟩:=Qrk (d:=3) (ps:=j) λl hm=>by
  obtain⟨y,z,rfl,_⟩:=Q80 (G l hm);exact⟨_,rfl⟩
 refine⟨.tup [.int x,.str s,.str e,.str t,.int u,.tup ks],?_⟩;show(W0 (Uv 4) _).map HK.tup=_;have q:Uv 4 (.tup j)=zo (.tup ks):=by show(W0 (Uv 3) j).map HK.tup=_;rw[I];rfl
 simp only[W0,q];rfl
def Qrd{xs:List PV}(h:xs.all (qj n)=zb):∃ks,W0 qd xs=zo ks/\ks.length=xs.length:=by
 induction xs with
|nil=>exact⟨[],rfl,rfl⟩
|cons p ps q=>
  simp only[cP,F3]at h;obtain⟨k,z⟩:=Q5x h.1;obtain⟨ks,j,G⟩:=q h.2;exact⟨k::ks,by unfold W0;rw[z,j],by rw[D6,D6,G]⟩
def Qu4(h:qj n p=zb)S:Kq [.int n,p] S=.ok (.bl zb) S:=by
 obtain⟨x,s,e,t,u,j,rfl,x0,x1,s1,e1,t1,u0,O,l8,Y⟩:=Q3c h;refine Xz ?_;show Q1a [zo (.int n),zo (.tup [.int x,.str s,.str e,.str t,.int u,.tup j])] S=_;have G:Ji [.int n,.tup j] S=.ok (.bl zb) S:=by
  refine Xz ?_;show Y5 [zo (.int n),zo (.tup j)] S=_;refine Qw (Q53 (Q5 (n:=3) rfl rfl (z8 () () S)) (Qb5 (xs:=j) (g:=id) (by rw[gO];exact Z1 rfl rfl ()) λp q=>?_))
  obtain⟨y,z,rfl,Z,J,U,I⟩:=Q80 (Y p q);exact⟨_,rfl,Q5 (n:=2) rfl rfl (Qza Z J U I S)⟩
 refine Q3 (Z0 (yc (Za (b:=zb) (Qf (Q5 (n:=3) rfl rfl (z8 (by simp) (by simp) S)))) (Za (b:=zb) (Qf (Q5 (n:=3) rfl rfl (Qer x0 () S))))) rfl) (Q3 (Z0 (Za (b:=zb) (Qf (Qb5 (xs:=[s,e,t]) (g:=PV.str) (Z1 rfl rfl (by simp)) λp q=>⟨_,rfl,Q5 (n:=1) rfl rfl (Qb8 ?_ S)⟩))) rfl) (Qw (Q53 (Q5 (n:=3) rfl rfl (Qer u0 O S)) (Q5 (n:=2) rfl rfl G))))
 simp only[D7,dR,or_false]at q;rcases q with rfl|rfl|rfl<;>assumption
structure Mw(L:Nat)(S S':Q0):Prop where
len:S.length<=S'.length
keep:∀t,t≠L->t<S.length->S'[t]?=S[t]?
def Mw.refl L S:Mw L S S:=⟨O6 _,λ_ _ _=>rfl⟩
def Mw.trans(a:Mw L S S1)(b:Mw L S1 j):Mw L S j:=⟨E8 a.len b.len,λt h1 h2=>(b.keep t h1 (D5 h2 a.len)).trans (a.keep t h1 h2)⟩
def Mv.w(a:Mv L S S'):Mw L S S':=⟨by rw[a.len];exact O6 _,λt h _=>a.keep t h⟩
def Mw.add L S c:Mw L S (S++[c]):=⟨by rw[O5];omega,λt _ h=>O7 h⟩
def TapeAt.add(T:TapeAt S L ns)c:TapeAt (S++[c]) L ns:=by
 have h:=T.lt;obtain⟨p,q,e⟩:=T;exact⟨p,q,by rw[O7 h];exact e⟩
def TapeAt.put{S:Q0}(T:TapeAt S L ns)(j:M≠L)c:TapeAt (S.set M c) L ns:=by
 obtain⟨p,q,e⟩:=T;exact⟨p,q,by rw[E2 j];exact e⟩
def rgw{n:Nat}(j:n<=1000){m:ME}{Γ:Gam}{S S1:Q0}(h:m Γ S=.ok (.int n) S1):Zm (Q1 m Q6) Γ S=.ok (Vq 0 n,[]) S1:=by
 rw[Q46,Q8 h (show Q6 Γ S1=.ok [] S1 from rfl),Qy];show(if -(lim:Int)<=(n:Int)/\(n:Int)<=lim then _ else _)=_;rw[bU (by rw[Q1e];omega),bw]
def Qgn(j:List Nat)acc:cQ (λacc (p:Str)=>acc++("":Str).cps++p.cps) acc (j.map λc=>(⟨#[c]⟩:Str))=acc++j.toArray:=by
 induction j generalizing acc with
|nil=>simp
|cons c j q=>
  rw[D3,F8,q];have:("":Str).cps=#[]:=rfl;rw[this];simp
def Qcg(j:List Nat):Txt.join "" (j.map λc=>(⟨#[c]⟩:Str))=⟨j.toArray⟩:=by
 show Builtin.Str.glued "" _=_;unfold Builtin.Str.glued;cases j with
|nil=>rfl
|cons c j=>
  show(⟨cQ _ #[c] (j.map λc=>(⟨#[c]⟩:Str))⟩:Str)=_
  rw[Qgn];simp
def Qkt{j:List Nat}(h:j.length<=1000):JoinOk "" (j.map λc=>(⟨#[c]⟩:Str))=zb:=by
 unfold JoinOk;have q:∀(j:List Nat)(a:Nat),cQ (λx1 (x2:Str)=>x1+x2.length+("":Str).length) a (j.map λc=>(⟨#[c]⟩:Str))=a+j.length:=by
  intro j
  induction j with
  |nil=>intro a;rfl
  |cons c j z=>
   intro a;rw[D3,F8,z,D6];show a+1+0+_=_;omega
 rw[<- jC];show(!decide (cQ _ 0 (j.map λc=>(⟨#[c]⟩:Str))>sizeLine))=zb
 rw[q,sizeLine_eq];simp;omega
def Qbf(j:List Nat):Q1r (j.map λc=>PV.str ⟨#[c]⟩)=zo (j.map λc=>(⟨#[c]⟩:Str)):=by
 induction j with
|nil=>rfl
|cons c j q=>rw[D3,Q1r,q];rfl
def Qb9{j:List Nat}(h1:1<=j.length)(h2:j.length<=8)(h:∀c∈j,Q93 c=zb):Zs ⟨j.toArray⟩=zb:=by
 unfold Zs;have e:(⟨j.toArray⟩:Str).length=j.length:=by show j.toArray.size=_;simp
 rw[e];simp only[F3,decide_eq_true_eq,F4];exact⟨⟨by omega,by omega⟩,λc q=>h c (by simpa using q)⟩
def Qe1{ns:List Int}{S:Q0}{L:Nat}(T:TapeAt S L ns):∃(x:Str)(S':Q0),Zs x=zb/\TapeAt S' L ns/\Mw L S S'/\Zj [.ref L] S=.ok (.str x) S':=by
 obtain⟨d,S1,hd,T1,M1,e1⟩:=Ze T 4 (by decide) (by decide)
 by_cases q:d=0
 ·subst q;obtain⟨k,I,Z,T2,M2,e2⟩:=Ze T1 8 (by decide) (by decide);obtain⟨x,ex,hx⟩:∃x,oIx I (.lst ((["go","fall","gone","fallen","gofall","a","aa","abcdefgh"]:List Str).map .str)) (.int k)=.ok (.str x) I/\Zs x=zb:=⟨_,Qrh .str _ Z,(by decide +kernel:∀x∈(_:List Str),Zs x=zb) _ (L5 Z)⟩;refine⟨x,I,hx,T2,M1.w.trans M2.w,J4 ?_⟩;show U2 [zo (.ref L)] S=_;exact We (Wn (Qf (Q4 (Q5 (n:=2) rfl rfl e1) rfl (Qt7 _ rfl))) (Qw (Q4 rfl (Q5 (n:=2) rfl rfl e2) ex)))
 ·obtain⟨k,I,Z,T2,M2,e2⟩:=Ze T1 4 (by decide) (by decide);obtain⟨G,S3,ec,T3,M3,z,U,rfl,O⟩:=zw (xs:=ba (1 + k)) (λ(i:Nat)=>PV.int ((0:Int) + (i:Int))) (λi G st=>TapeAt st L ns/\Mw L I st/\∃ z:List Nat,z.length=i/\G=z.map (λc=>PV.str ⟨#[c]⟩)/\∀ c∈z,Q93 c=zb) (ga:=Qb 0) (me:=Wb) (w:=[]) (Γ0:=Wp [zl,zo 0] [zo (.ref L)]) (λ_ _ st _=>Qr st)
   (λi x G st _ ⟨Ti,Mi,z,h1,h2,h3⟩=>by
    obtain⟨j,S4,hj,T4,M4,e4⟩:=Ze Ti 7 (by decide) (by decide);obtain⟨c,Y,a1⟩:∃c,Q93 c=zb/\Qqn S4 (.str "abgoflz") (.int j)=.ok (.str ⟨#[c]⟩) S4:=by
     rcases j with _|_|_|_|_|_|_|j
     iterate 7 exact⟨_,by decide +kernel,rfl⟩
     exact absurd hj (jY (jZ 7 j))
    refine⟨_,rfl,.str ⟨#[c]⟩,S4,Q4 rfl (Q5 (n:=2) rfl rfl e4) a1,T4,Mi.trans M4.w,z++[c],by rw[O5,h1];rfl,by rw[h2,E5];rfl,λy J=>?_⟩
    rcases E9.mp J with J|J
    ·exact h3 y J
    ·have:y=c:=by simpa using J
     rw[this];exact Y)
   ⟨T2,Mw.refl L I,[],rfl,rfl,λc Y=>nomatch Y⟩
  rw[F9]at U;refine⟨⟨z.toArray⟩,S3,Qb9 () () O,T3,(M1.w.trans M2.w).trans M3,J4 ?_⟩;show U2 [zo (.ref L)] S=_;refine Q3 (Z0 (Qf (Q4 (Q5 (n:=2) rfl rfl e1) rfl (Qzx _ ()))) rfl) (Qw ?_);show Qe5 _ _ _ _=_;have hl:V1 (Ja [zl,zo 0] (Qb 0) (Zm (Q1 (mOp Zu (mC (.int 1)) (Qa 2 Qe (Q1 (Q2 0) (Q1 (mC (.int 4)) Q6)))) Q6)) Ya Wb) [zo (.ref L)] S1=.ok (.lst (z.map λc=>PV.str ⟨#[c]⟩)) S3:=Ue (Yu (rgw (n:=1+k) () (Q4 rfl (Q5 (n:=2) rfl rfl e2) (by rw[Q8n];push_cast;rfl))) ec);unfold Qe5;show((Q1 _ Q6) [zo (.ref L)] S1).bind _=_;rw[Q8 hl (show Q6 _ S3=.ok [] S3 from rfl),Qy];show(match (zo (z.map λc=>PV.str ⟨#[c]⟩)).bind Q1r with|some ss=>if JoinOk "" ss=zb then Res.ok (PV.str (Txt.join "" ss)) S3 else .stuck|none=>.stuck)=_
  rw[eA,Qbf];show(if JoinOk "" _=zb then _ else _)=_;rw[bU (Qkt ()),Qcg]
def Qsk(x:Str):Prop:=Zs x=zb/\Xb ["go","fall"] x=yo
def Q4f(T:TapeAt S L ns):∃(x:Str)(S':Q0),Qsk x/\TapeAt S' L ns/\Mw L S S'/\Jr [.ref L] S=.ok (.str x) S':=by
 obtain⟨x,S1,G,j,M1,z⟩:=Qe1 T
 by_cases q:x="go"
 ·subst q;refine⟨"goa",S1,⟨by decide +kernel,by decide +kernel⟩,j,M1,J4 ?_⟩;show Jn [zo (.ref L),zl] S=_;exact Q3 (Qh (Q5 (n:=1) rfl rfl z)) (We (Wn (J1w (Qf (Q4 rfl rfl (Qmk _ _)))) (Qw (Q4 rfl rfl rfl))))
 ·by_cases r:x="fall"
  ·subst r;refine⟨"falla",S1,⟨by decide +kernel,by decide +kernel⟩,j,M1,J4 ?_⟩;show Jn [zo (.ref L),zl] S=_;exact Q3 (Qh (Q5 (n:=1) rfl rfl z)) (We (Wn (yc (Qf (Q4 rfl rfl (Qek _ q))) (Qf (Q4 rfl rfl (Qmk _ _)))) (Qw (Q4 rfl rfl rfl))))
  ·refine⟨x,S1,⟨G,?_⟩,j,M1,J4 ?_⟩
   ·unfold Xb;simp only[N3,jl,dM,bW (λh=>q (Eq.symm h)),bW (λh=>r (Eq.symm h))]
   ·show Jn [zo (.ref L),zl] S=_;exact Q3 (Qh (Q5 (n:=1) rfl rfl z)) (Q3 (Z0 (yc (Qf (Q4 rfl rfl (Qek _ q))) (Qf (Q4 rfl rfl (Qek _ r)))) rfl) (Qw rfl))
def Qkv{xs:List PV}{k:Nat}{p:PV}(h:xs[k]?=zo p)(S:Q0):oIx S (.lst xs) (.int k)=.ok p S:=by
 show okO S (atI xs (k:Int))=_;rw[Qev h];rfl
def ix_tup{xs:List PV}{k:Nat}{p:PV}(h:xs[k]?=zo p)(S:Q0):oIx S (.tup xs) (.int k)=.ok p S:=by
 show okO S (atI xs (k:Int))=_;rw[Qev h];rfl
def U6(xs:List Str):PV:=.lst (xs.map .str)
def Q2m{ns:List Int}{S:Q0}{L i:Nat}(T:TapeAt S L ns){xs:List Str}(h1:1<=xs.length)(h2:xs.length<=100){Γ:Gam}(z:∀st,Q2 0 Γ st=.ok (.ref L) st)(j:∀st,Q2 i Γ st=.ok (U6 xs) st):∃(x:Str)(S':Q0),x∈xs/\TapeAt S' L ns/\Mw L S S'/\(mOp oIx (Q2 i) (Qa 2 Qe (Q1 (Q2 0) (Q1 (Qx Yc (Q1 (Q2 i) Q6)) Q6)))) Γ S=.ok (.str x) S':=by
 have G:(xs.map PV.str).length=xs.length:=O1 _;obtain⟨d,S1,hd,I,M1,J⟩:=Ze T xs.length h1 ();have q:(xs.map PV.str)[d]?=zo (.str xs[d]):=by rw[D8,O2 hd];rfl
 refine⟨xs[d],S1,L5 hd,I,M1.w,Q4 (j S) (Q5 (n:=2) (Q8 (z S) (Q8 (Zp (Q8 (j S) rfl) rfl) rfl)) rfl ?_) (Qkv q S1)⟩;show Qe [.ref L,.int ((xs.map PV.str).length:Nat)] S=_;rw[G];exact J
def Q56(ws:List Str)(r:PV):Prop:=∀a b c d e ls,r=.tup [a,b,c,d,e,.tup ls]->∀l∈ls,∃(h:Int)(y:Str),l=.tup [.int h,.str y]/\y∈ws
def Qda(ss:List Str)(r:PV):Prop:=∀a b c d e ls,r=.tup [a,b,c,d,e,ls]->∃y∈ss,d=.str y
def Qpj {ns:List Int} {S:Q0} {L n:Nat} (T:TapeAt S L ns) (a2:1<=n) (hn:n<=100) {ss ws:List Str} (s1:1<=ss.length) (s2:ss.length<=100) (s3:∀x∈ss,Zs x=zb) (w1:1<=ws.length) (w2:ws.length<=100) (w3:∀x∈ws,Qsk x):
  ∃(r:PV)(S':Q0),qj n r=zb/\Q56 ws r/\Qda ss r/\TapeAt S' L ns/\Mw L S S'/\W5 [.ref L,.int n,U6 ss,U6 ws] S=.ok r S':=by
 obtain⟨G,S1,h1,T1,M1,e1⟩:=Ze T n a2 ();obtain⟨st,S2,h2,T2,M2,e2⟩:=Q2m (i:=2) T1 s1 s2 (Γ:=[zo (.ref L),zo (.int n),zo (U6 ss),zo (U6 ws),zo (.int G),zl,zl,zl,zl,zl,zl]) (λ_=>rfl) (λ_=>rfl);obtain⟨wd,S3,h3,T3,M3,e3⟩:=Q2m (i:=3) T2 w1 w2 (Γ:=[zo (.ref L),zo (.int n),zo (U6 ss),zo (U6 ws),zo (.int G),zo (.str st),zl,zl,zl,zl,zl]) (λ_=>rfl) (λ_=>rfl);obtain⟨k4,S4,h4,T4,M4,e4⟩:=Ze T3 4 (by decide) (by decide);have hw:∀x∈(["go","go","fall",wd]:List Str),Zs x=zb:=gP.mpr ⟨by decide +kernel,gP.mpr ⟨by decide +kernel,gP.mpr ⟨by decide +kernel,List.forall_mem_singleton.mpr (w3 wd h3).1⟩⟩⟩;obtain⟨I,a7,a5⟩:∃I,Zs I=zb/\oIx S4 (.lst [.str "go",.str "go",.str "fall",.str wd]) (.int k4)=.ok (.str I) S4:=⟨_,hw _ (L5 h4),Qrh .str ["go","go","fall",wd] h4⟩;obtain⟨U,S5,h5,T5,M5,e5⟩:=Q2m (i:=2) T4 s1 s2 (Γ:=[zo (.ref L),zo (.int n),zo (U6 ss),zo (U6 ws),zo (.int G),zo (.str st),zo (.str I),zl,zl,zl,zl]) (λ_=>rfl) (λ_=>rfl)
 obtain⟨k6,j,h6,T6,M6,e6⟩:=Ze T5 7 (by decide) (by decide);obtain⟨z,a8,a9⟩:∃z:Int,(0<=z/\z<=9)/\oIx j (.lst [.int 0,.int 0,.int 0,.int 1,.int 1,.int 2,.int 9]) (.int k6)=.ok (.int z) j:=⟨_,(by decide:∀x∈([0,0,0,1,1,2,9]:List Int),0<=x/\x<=9) _ (L5 h6),Qrh .int [0,0,0,1,1,2,9] h6⟩;have a4:=T6.add (.lst []);obtain⟨k7,S7,h7,T7,M7,e7⟩:=Ze a4 6 (by decide) (by decide);have hM:j.length≠L:=by have:=T6.lt;omega
 have Y:j.length<(j++[Cell.lst []]).length:=by rw[O5];simp
 have c7:S7[j.length]?=zo (.lst []):=by rw[M7.w.keep _ hM Y,E4 (O6 _),cE];rfl
 obtain⟨ct,a1,b3⟩:∃ct:Nat,ct<=8/\oIx S7 (.lst [.int 0,.int 0,.int 1,.int 2,.int 3,.int 8]) (.int k7)=.ok (.int ct) S7:=⟨_,(by decide:∀x∈[0,0,1,2,3,8],x<=8) _ (L5 h7),Qrh (λn:Nat=>PV.int n) [0,0,1,2,3,8] h7⟩;obtain⟨b5,Z,e8,T8,M8,q,c8,b4,J,t8,rfl⟩:=Q4r (xs:=ba ct) (λ(i:Nat)=>PV.int ((0:Int)+(i:Int)))
  (λi Γ A=>TapeAt A L ns/\Mw L j A/\∃q:List PV,A[j.length]?=zo (.lst q)/\q.length=i/\(∀l∈q,Qce n l=zb/\∃(h:Int)(y:Str),l=.tup [.int h,.str y]/\y∈ws)/\∃t,Γ=[zo (.ref L),zo (.int n),zo (U6 ss),zo (U6 ws),zo (.int G),zo (.str st),zo (.str I),zo (.str U),zo (.int z),zo (.ref j.length),t])
  (ga:=Qb 10) (body:=Ur) (w:=[]) (λ_ _ A _=>Qr A) (λi x Γ A hx ⟨Ti,Mi,q,ci,O,J,t,a6⟩=>by
   subst a6;obtain⟨d,A1,hd,TA,MA,ea⟩:=Ze Ti n a2 ();obtain⟨y,A2,hy,TB,MB,eb⟩:=Q2m (i:=3) TA w1 w2 (Γ:=[zo (.ref L),zo (.int n),zo (U6 ss),zo (U6 ws),zo (.int G),zo (.str st),zo (.str I),zo (.str U),zo (.int z),zo (.ref j.length),zo (.int ((0:Int)+(x:Int)))]) (λ_=>rfl) (λ_=>rfl);have a3:j.length<A.length:=(O0.mp ci).1;have b0:j.length<A1.length:=D5 a3 MA.w.len;have c2:A2[j.length]?=zo (.lst q):=by rw[MB.keep _ hM b0,MA.w.keep _ hM a3];exact ci
   have b2:j.length<A2.length:=(O0.mp c2).1;have b6:i<ct:=by have:=(O0.mp hx).1;rwa [F9]at this
   refine⟨_,rfl,_,A2.set j.length (.lst (q++[.tup [.int d,.str y]])),xm (xs:=q) rfl (by show(match A[j.length]? with|some (.lst xs)=>zo xs|_=>zl)=_;rw[ci]) (Q8 (Xn (Q8 (Q5 (n:=2) rfl rfl ea) (Q8 eb rfl)) (by simp)) rfl) (qe c2 () _),TB.put hM _,⟨?_,λt h1 h2=>?_⟩,q++[.tup [.int d,.str y]],?_,by rw[O5,O];rfl,λl hm=>?_,_,rfl⟩
   ·rw[L9];exact E8 Mi.len (E8 MA.w.len MB.len)
   ·rw[E2 ()];exact((Mi.trans MA.w).trans MB).keep t h1 h2
   ·rw[D9 b2]
   ·rcases E9.mp hm with hm|hm
    ·exact J l hm
    ·have:l=.tup [.int d,.str y]:=by simpa using hm
     subst this;obtain⟨y1,y2⟩:=w3 y hy;refine⟨?_,d,y,rfl,hy⟩;show(decide ((0:Int)<=d)&&decide ((d:Int)<=n-1)&&(Zs y && !Xb ["go","fall"] y))=zb;rw[y1,y2];simp;omega)
  (Γ:=[zo (.ref L),zo (.int n),zo (U6 ss),zo (U6 ws),zo (.int G),zo (.str st),zo (.str I),zo (.str U),zo (.int z),zo (.ref j.length),zl]) (st:=S7)
  ⟨T7,(Mw.add L j _).trans M7.w,[],c7,rfl,λl O=>(nomatch O),zl,rfl⟩
 rw[F9]at b4;refine⟨.tup [.int G,.str st,.str I,.str U,.int z,.tup q],Z,?_,?_,?_,T8,((((M1.w.trans M2).trans M3).trans M4.w).trans M5).trans (M6.w.trans M8),J4 ?_⟩
 ·show(decide ((0:Int)<=G)&&decide ((G:Int)<=n-1)&&(Zs st&&(Zs I&&Zs U))&&(decide ((0:Int)<=z)&&decide (z<=9)&&(decide ((q.length:Int)<=8)&&q.all (Qce n))))=zb;rw[s3 st h2,a7,s3 U h5];simp only[F3,decide_eq_true_eq,F4];exact⟨⟨⟨by omega,by omega⟩,trivial,trivial,trivial⟩,a8,by omega,λl O=>(J l O).1⟩
 ·intro a b c d e b1 eq l O;cases eq;exact(J l O).2
 ·intro a b c d e b1 eq;cases eq;exact⟨U,h5,rfl⟩
 ·show K2 [zo (.ref L),zo (.int n),zo (U6 ss),zo (U6 ws),zl,zl,zl,zl,zl,zl,zl] S=_;have a1:Wh Z [.ref j.length]=.ok (.tup q) Z:=by
   show(match (match Z[j.length]? with|some (.lst xs)=>zo xs|_=>zl)with|some xs=>Res.ok (PV.tup xs) Z|none=>.stuck)=_
   rw[c8]
  exact Q3 (Qh (Q5 (n:=2) rfl rfl e1)) (Q3 (Qh e2) (Q3 (Qh (Q4 (Qnb (Q8 rfl (Q8 rfl (Q8 rfl (Q8 e3 rfl)))) (by simp)) (Q5 (n:=2) rfl rfl e4) a5)) (Q3 (Qh e5) (Q3 (Qh (Q4 rfl (Q5 (n:=2) rfl rfl e6) a9)) (Q3 (Qh (Vh rfl)) (Q3 (Jp (rgw (n:=ct) () (Q4 rfl (Q5 (n:=2) rfl rfl e7) b3)) e8) (Qw (Xn (Q8 rfl (Q8 rfl (Q8 rfl (Q8 rfl (Q8 rfl (Q8 (Zp rfl a1) rfl)))))) (by simp)))))))))
def Ys{mo mi m:ME}(h1:m Γ S=.ok v S1)(h2:mo Γ S1=.ok p j)(J:mi Γ j=.ok q S3)(I:Q0p S3 p q v=zo G):X6 mo mi m Γ S=.nx Γ G:=by
 unfold X6;rw[h1];show(mo Γ S1).sbind _=_;rw[h2];show(mi Γ j).sbind _=_;rw[J];show(match Q0p S3 p q v with|some z=>SR.nx Γ z|none=>.stuck)=_;rw[I]
def W2(ks:List HK):List (HK×PV):=ks.map λk=>(k,.bl zb)
def Qiw ks k:Sm.putT (W2 ks) k (.bl zb)=W2 (Z9 ks k):=by
 unfold Sm.putT Z9
 by_cases q:k∈ks
 ·rw[bU q,bU]
  ·unfold W2;rw[L4];refine M9 λx _=>?_
   show(if x=k then(x,PV.bl zb)else(x,PV.bl zb))=_
   split<;>rfl
  ·unfold W2;rw[dZ,dF];exact⟨k,q,by simp⟩
 ·rw[bV q,bV]
  ·unfold W2;rw[E5];rfl
  ·unfold W2;rw[dZ,dF];rintro ⟨x,j,e⟩;have:x=k:=by simpa using e
   rw[this]at j;exact q j
def Q6k{S:Q0}{ks:List HK}(h:S[D]?=zo (.dtp (W2 ks)))(z:ks.length<1000000)(q:qd p=zo k):Q0p S (.ref D) p (.bl zb)=zo (S.set D (.dtp (W2 (Z9 ks k)))):=by
 have hd:Ut S (.ref D)=zo (W2 ks):=by show(match S[D]? with|some (.dtp j)=>zo j|_=>zl)=_;rw[h]
 unfold Q0p;simp only[hd,q];rw[bU (by unfold W2;rw[O1];exact z),Qiw]
def Qd9{ks:List HK}(h:ks.Nodup)k:(Z9 ks k).Nodup:=by
 unfold Z9
 split
 ·exact h
 ·rename_i q;exact L7.mpr ⟨h,by simp,λx j y z e=>by
   have:y=k:=by simpa using z
   rw[e,this]at j;exact q j⟩
def Q44:∀{ks acc:List HK},(acc++ks).Nodup->ks.foldl Z9 acc=acc++ks
|[],acc,_=>by simp
|k::ks,acc,h=>by
  rw[F8];have j:k∉acc:=λhm=>(L7.mp h).2.2 k hm k (by simp) rfl
  have e:Z9 acc k=acc++[k]:=by unfold Z9;rw[bV j]
  rw[e,Q44 (by rw[dA];exact h)];simp
def Qqs{ks:List HK}(h:ks.Nodup):Yy ks=ks:=by
 have:=Q44 (ks:=ks) (acc:=[]) (by simpa using h);simpa[Yy]using this
mutual
theorem Qm1:∀{d:Nat}{p:PV}{k:HK},Uv d p=zo k->hkV k=p
|_,.int i,_,e=>by cases j:(‹Nat›)<;>(rw[j]at e;cases e;rfl)
|_,.str x,_,e=>by cases j:(‹Nat›)<;>(rw[j]at e;cases e;rfl)
|0,.tup ps,_,e=>by cases e
|d+1,.tup ps,k,e=>by
  have e:(W0 (Uv d) ps).map HK.tup=zo k:=e;cases z:W0 (Uv d) ps with
  |none=>rw[z]at e;cases e
  |some l=>
   rw[z]at e;cases e;show PV.tup (hkVL l)=_;rw[hkVL_of z]
|0,.non,_,e=>by cases e
|0,.bl _,_,e=>by cases e
|0,.lst _,_,e=>by cases e
|0,.fro _,_,e=>by cases e
|0,.ref _,_,e=>by cases e
|0,.dic,_,e=>by cases e
|_+1,.non,_,e=>by cases e
|_+1,.bl _,_,e=>by cases e
|_+1,.lst _,_,e=>by cases e
|_+1,.fro _,_,e=>by cases e
|_+1,.ref _,_,e=>by cases e
|_+1,.dic,_,e=>by cases e
theorem hkVL_of:∀{d:Nat}{ps:List PV}{l:List HK},W0 (Uv d) ps=zo l->hkVL l=ps
|_,[],_,e=>by cases e;rfl
|d,p::ps,l,e=>by
  unfold W0 at e
  split at e
  ·rename_i k j z q;cases e;show hkV k::hkVL j=_;rw[Qm1 z,hkVL_of q]
  ·cases e
end
def Qzb(h:qd p=zo k):hkV k=p:=by
 cases p with
|tup ps=>exact Qm1 (d:=5) h
|_=>cases h
structure Man(B:Nat)(most:Int)(starts:List Str)(rules:List PV):Prop where
m0:0<=most
m1:most<=20
s1:1<=starts.length
s4:starts.length<=4
sw:∀x∈starts,Zs x=zb
r:rules.all (qj starts.length)=zb
len:rules.length<=9
ks:∃ks,W0 qd rules=zo ks/\ks.Nodup
ws:∃sts ws:List Str,ws.length<=2/\sts.length^starts.length*2^(starts.length*ws.length)*(most.toNat+1)<=B/\(∀x∈starts,x∈sts)/\(∀p∈rules,Q56 ws p/\Qda sts p)/\(∀x∈sts,Zs x=zb)/\∀x∈ws,Qsk x
def Qi(most:Int)(starts:List Str)(rules:List PV):PV:=.tup [.int most,.tup (starts.map .str),.tup rules]
def Q9z {ns:List Int} {S:Q0} {L i:Nat} {P:Str->Prop} {F:FN} (J:∀{S:Q0},TapeAt S L ns->∃(x:Str)(S':Q0),P x/\TapeAt S' L ns/\Mw L S S'/\F [.ref L] S=.ok (.str x) S') (T:TapeAt S L ns) {m:Nat} (hm:m<=100) {Γ:Gam} (hG:Wp [zl,zo 0] Γ=[zl,zo (.ref L)]) (hv:Q2 i Γ S=.ok (.int m) S):
  ∃(xs:List Str)(S':Q0),xs.length=m/\(∀x∈xs,P x)/\TapeAt S' L ns/\Mw L S S'/\V1 (Ja [zl,zo 0] (Qb 0) (Zm (Q1 (Q2 i) Q6)) Ya (Qa 1 F (Q1 (Q2 1) Q6))) Γ S=.ok (U6 xs) S':=by
 obtain⟨j,S3,O,T3,M3,xs,q,rfl,G⟩:=zw (xs:=ba m) (λ(i:Nat)=>PV.int ((0:Int)+(i:Int))) (λi j st=>TapeAt st L ns/\Mw L S st/\∃xs:List Str,xs.length=i/\j=xs.map PV.str/\∀x∈xs,P x) (ga:=Qb 0) (me:=Qa 1 F (Q1 (Q2 1) Q6)) (w:=[]) (Γ0:=[zl,zo (.ref L)]) (λ_ _ st _=>Qr st)
  (λi x j st _ ⟨Ti,Mi,xs,h1,h2,h3⟩=>by
   obtain⟨y,S4,Y,I,M4,U⟩:=J Ti;refine⟨_,rfl,.str y,S4,Q5 (n:=1) rfl rfl U,I,Mi.trans M4,xs++[y],by rw[O5,h1];rfl,by rw[h2,E5];rfl,λz hz=>?_⟩;rcases E9.mp hz with hz|hz
   ·exact h3 z hz
   ·have:z=y:=by simpa using hz
    rw[this];exact Y)
  ⟨T,Mw.refl L S,[],rfl,rfl,λc Z=>nomatch Z⟩
 rw[F9]at q;exact⟨xs,S3,q,G,T3,M3,Ue (Yu (rgw (n:=m) () hv) (by rw[hG];exact O))⟩
def Qhz {k:Nat} (j:k<5) (S:Q0):∃n m w t:Nat,(1<=n/\n<=4/\1<=m/\m<=3/\1<=w/\w<=2/\1<=t/\t<=21/\m^n*2^(n*w)*t<=576)/\
  oIx S (.lst [.tup [.int 2,.int 3,.int 2,.int 4],.tup [.int 3,.int 2,.int 1,.int 4],.tup [.int 1,.int 2,.int 1,.int 21],.tup [.int 2,.int 2,.int 1,.int 21],.tup [.int 4,.int 2,.int 1,.int 2]]) (.int k)=.ok (.tup [.int n,.int m,.int w,.int t]) S:=by
 rcases k with _|_|_|_|_|k
 ·exact⟨2,3,2,4,by decide,rfl⟩
 ·exact⟨3,2,1,4,by decide,rfl⟩
 ·exact⟨1,2,1,21,by decide,rfl⟩
 ·exact⟨2,2,1,21,by decide,rfl⟩
 ·exact⟨4,2,1,2,by decide,rfl⟩
 ·exact absurd j (jY (jZ 5 k))
def Q64:∀{ks:List HK},(∀k∈ks,∃p,qd p=zo k/\qj n p=zb/\Q56 ws p/\Qda ss p)->W0 qd (ks.map hkV)=zo ks/\(ks.map hkV).all (qj n)=zb/\∀p∈ks.map hkV,Q56 ws p/\Qda ss p
|[],_=>⟨rfl,rfl,λp h=>nomatch h⟩
|k::ks,h=>by
  obtain⟨p,h1,h2,G⟩:=h k (by simp);obtain⟨a,b,c⟩:=Q64 λx z=>h x (O3 _ z)
  have e:=Qzb h1;refine⟨?_,?_,λq j=>?_⟩
  ·rw[D3,e];unfold W0;rw[h1,a]
  ·rw[D3,cP,e,h2,b];rfl
  ·rw[D3,e]at j;rcases D7.mp j with rfl|j
   ·exact G
   ·exact c q j
def Qg8{ns:List Int}{S:Q0}{L:Nat}(T:TapeAt S L ns):∃(most:Int)(j:List Str)(rules:List PV)(S':Q0),Man 576 most j rules/\TapeAt S' L ns/\Mw L S S'/\Wd [.ref L] S=.ok (Qi most j rules) S':=by
 obtain⟨k,S1,hk,T1,M1,e1⟩:=Ze T 5 (by decide) (by decide);obtain⟨n,m,w,t,⟨n1,n4,m1,m3,w1,w2,t1,t2,a3⟩,es⟩:=Qhz hk S1;generalize hsz:PV.lst [.tup [.int 2,.int 3,.int 2,.int 4],.tup [.int 3,.int 2,.int 1,.int 4],.tup [.int 1,.int 2,.int 1,.int 21],.tup [.int 2,.int 2,.int 1,.int 21],.tup [.int 4,.int 2,.int 1,.int 2]]=sz at es;obtain⟨ss,S2,b0,J,T2,M2,e2⟩:=Q9z (i:=3) Qe1 T1 (m:=m) () (Γ:=[zo (.ref L),zo sz,zo (.int n),zo (.int m),zo (.int w),zo (.int t),zl,zl,zl,zl,zl]) rfl rfl;obtain⟨ws,S3,a5,a2,T3,M3,e3⟩:=Q9z (i:=4) Q4f T2 (m:=w) () (Γ:=[zo (.ref L),zo sz,zo (.int n),zo (.int m),zo (.int w),zo (.int t),zo (U6 ss),zl,zl,zl,zl]) rfl rfl;have a9:=T3.add (.dtp []);obtain⟨k4,S4,h4,T4,M4,e4⟩:=Ze a9 10 (by decide) (by decide);have hM:S3.length≠L:=by have:=T3.lt;omega
 have c4:S4[S3.length]?=zo (.dtp (W2 [])):=by rw[M4.w.keep _ hM (by rw[O5];simp),E4 (O6 _),cE];rfl
 obtain⟨b3,S5,e5,T5,M5,ks,c5,a7,a6,G,t5,rfl⟩:=Q4r (xs:=ba k4) (λ(i:Nat)=>PV.int ((0:Int)+(i:Int)))
  (λi Γ A=>TapeAt A L ns/\Mw L S3 A/\∃ks:List HK,A[S3.length]?=zo (.dtp (W2 ks))/\ks.length<=i/\ks.Nodup/\(∀k∈ks,∃p,qd p=zo k/\qj n p=zb/\Q56 ws p/\Qda ss p)/\∃u,Γ=[zo (.ref L),zo sz,zo (.int n),zo (.int m),zo (.int w),zo (.int t),zo (U6 ss),zo (U6 ws),zo (.ref S3.length),u,zl])
  (ga:=Qb 9) (body:=Xm) (w:=[]) (λ_ _ A _=>Qr A) (λi x Γ A hx ⟨Ti,Mi,ks,ci,hl,nd,G,u,a8⟩=>by
   subst a8;obtain⟨p,A1,hp,pw,ps,TA,MA,ea⟩:=Qpj Ti n1 () () () J () () a2;obtain⟨k,hk⟩:=Q5x hp;have Z:S3.length<A.length:=(O0.mp ci).1;have c2:A1[S3.length]?=zo (.dtp (W2 ks)):=by rw[MA.keep _ hM Z];exact ci
   have b2:S3.length<A1.length:=(O0.mp c2).1;have b5:i<k4:=by have:=(O0.mp hx).1;rwa [F9]at this
   refine⟨_,rfl,_,A1.set S3.length (.dtp (W2 (Z9 ks k))),Ys rfl rfl (Q5 (n:=4) rfl rfl ea) (Q6k c2 () hk),TA.put hM _,⟨?_,λt h1 h2=>?_⟩,Z9 ks k,?_,?_,Qd9 nd k,λy I=>?_,_,rfl⟩
   ·rw[L9];exact E8 Mi.len MA.len
   ·rw[E2 ()];exact(Mi.trans MA).keep t h1 h2
   ·rw[D9 b2]
   ·have:(Z9 ks k).length<=ks.length+1:=by unfold Z9;split<;>simp
    omega
   ·unfold Z9 at I
    split at I
    ·exact G y I
    ·rcases E9.mp I with I|I
     ·exact G y I
     ·have:y=k:=by simpa using I
      rw[this];exact⟨p,hk,hp,pw,ps⟩)
  (Γ:=[zo (.ref L),zo sz,zo (.int n),zo (.int m),zo (.int w),zo (.int t),zo (U6 ss),zo (U6 ws),zo (.ref S3.length),zl,zl]) (st:=S4)
  ⟨T4,(Mw.add L S3 _).trans M4.w,[],c4,O6 _,dC,λk hk=>(nomatch hk),zl,rfl⟩
 rw[F9]at a7;obtain⟨U,S6,e6,T6,M6,xs,a1,rfl,a4⟩:=zw (xs:=ba n) (λ(i:Nat)=>PV.int ((0:Int)+(i:Int))) (λi U A=>TapeAt A L ns/\Mw L S5 A/\∃xs:List Str,xs.length=i/\U=xs.map PV.str/\∀x∈xs,Zs x=zb/\x∈ss) (ga:=Qb 0) (me:=Xk) (w:=[]) (Γ0:=[zl,zo (U6 ss),zo (.ref L),zo (.int m)]) (λ_ _ A _=>Qr A)
  (λi x U A _ ⟨Ti,Mi,xs,h1,h2,h3⟩=>by
   obtain⟨d,A1,hd,TA,MA,ea⟩:=Ze Ti m m1 ();have Y:d<ss.length:=by omega
   have hg:(ss.map PV.str)[d]?=zo (.str ss[d]):=by rw[D8,O2 Y];rfl
   refine⟨_,rfl,.str ss[d],A1,Q4 rfl (Q5 (n:=2) rfl rfl ea) (Qkv hg A1),TA,Mi.trans MA.w,xs++[ss[d]],by rw[O5,h1];rfl,by rw[h2,E5];rfl,λz hz=>?_⟩;rcases E9.mp hz with hz|hz
   ·exact h3 z hz
   ·have:z=ss[d]:=by simpa using hz
    rw[this];exact⟨J _ (L5 Y),L5 Y⟩)
  ⟨T5,Mw.refl L S5,[],rfl,rfl,λc hc=>(nomatch hc)⟩
 rw[F9]at a1;obtain⟨mo,q,b4,T7,M7,e7⟩:=Ze T6 t t1 ();have Z:S3.length<S5.length:=(O0.mp c5).1;have c6:S6[S3.length]?=zo (.dtp (W2 ks)):=by rw[M6.keep _ hM Z];exact c5
 have c7:q[S3.length]?=zo (.dtp (W2 ks)):=by rw[M7.keep _ hM];exact c6
 obtain⟨q1,q2,q3⟩:=Q64 G;have hn:(n:Int)=(xs.length:Int):=by omega
 refine⟨mo,xs,ks.map hkV,q,⟨by omega,by omega,by omega,by omega,λx hx=>(a4 x hx).1,by rw[<- hn];exact q2,by rw[O1];omega,⟨ks,q1,a6⟩,ss,ws,by omega,by rw[b0,a5,a1];refine E8 (Nat.mul_le_mul_left _ ?_) a3;simp;omega,λx hx=>(a4 x hx).2,λp hp=>q3 p hp,J,a2⟩,T7,((M1.w.trans M2).trans M3).trans (M5.trans (M6.trans M7.w)),J4 ?_⟩
 show Um [zo (.ref L),zl,zl,zl,zl,zl,zl,zl,zl,zl,zl] S=_;have b1:Qx Kb (Q1 (Q2 8) Q6) [zo (.ref L),zo sz,zo (.int n),zo (.int m),zo (.int w),zo (.int t),zo (U6 ss),zo (U6 ws),zo (.ref S3.length),t5,zo (.tup (xs.map .str))] q=.ok (.lst (ks.map hkV)) q:=by
  refine Zp rfl ?_;have hd:Ut q (.ref S3.length)=zo (W2 ks):=by show(match q[S3.length]? with|some (.dtp O)=>zo O|_=>zl)=_;rw[c7]
  show(match Ut q (.ref S3.length)with|some O=>Res.ok (PV.lst (O.map λ(kv:HK×PV)=>hkV kv.1)) q|none=>.stuck)=_
  rw[hd];show Res.ok (PV.lst ((W2 ks).map λ(kv:HK×PV)=>hkV kv.1)) q=_
  unfold W2;rw[L4];rfl
 subst hsz;exact Q3 (Qh rfl) (Q3 (Qne (Q4 rfl (Q5 (n:=2) rfl rfl e1) es) rfl) (Q3 (Qh e2) (Q3 (Qh e3) (Q3 (Qh rfl) (Q3 (Jp (rgw (n:=k4) () (Q5 (n:=2) rfl rfl e4)) e5) (Q3 (Qh (Zp (Q8 (Ue (Yu (rgw (n:=n) () rfl) e6)) rfl) rfl)) (Qw (Xn (Q8 (Q5 (n:=2) rfl rfl e7) (Q8 rfl (Q8 (Zp (Q8 b1 rfl) rfl) rfl))) (by simp)))))))))
def Qv9(h:Man B most j rules)S:Ua [Qi most j rules] S=.ok (.bl zb) S:=by
 obtain⟨ks,k1,k2⟩:=h.ks;obtain⟨U,G,J⟩:=Qrd h.r;rw[k1]at G;cases G;have:=h.len;have:=h.s4;have q:(j.map PV.str).length=j.length:=O1 _;have I:Ud [.int ((j.map PV.str).length:Nat),.tup rules] S=.ok (.bl zb) S:=by
  refine Xz ?_;show jg [zo (.int ((j.map PV.str).length:Nat)),zo (.tup rules)] S=_;have hs:Q0c (Q2 1) [zo (.int ((j.map PV.str).length:Nat)),zo (.tup rules)] S=.ok (.int (rules.length:Nat)) S:=by
   show(match W0 qd rules with|some ks=>if ks.length<=76 then Res.ok (PV.int ((Yy ks).length:Nat)) S else .stuck|none=>.stuck)=_
   rw[k1];show(if ks.length<=76 then Res.ok (PV.int ((Yy ks).length:Nat)) S else .stuck)=_;rw[bU (),Qqs k2,J]
  refine Q3 (Z0 (yc (Za (b:=zb) (Qf (Q5 (n:=3) rfl rfl (z8 () () S)))) (Za (b:=zb) (Qf (Qb5 (xs:=rules) (g:=id) (by rw[gO];exact Z1 rfl rfl ()) λp Y=>⟨_,rfl,Q5 (n:=2) rfl rfl (Qu4 ?_ S)⟩)))) rfl) (Qw (Q4 hs rfl (Qt7 S rfl)))
  rw[q];exact F4.mp h.r p Y
 refine Xz ?_;show jd [zo (Qi most j rules)] S=_;have z:Vd [.tup (j.map .str)] S=.ok (.bl zb) S:=by
  refine Xz ?_;show qa [zo (.tup (j.map .str))] S=_;exact Qw (Q53 (Q5 (n:=3) rfl rfl (z8 (by rw[q];have:=h.s1;omega) (by rw[q];omega) S)) (Qb5 (xs:=j) (g:=PV.str) (Z1 rfl rfl (by rw[q];omega)) λx O=>⟨_,rfl,Q5 (n:=1) rfl rfl (Qb8 (h.sw x O) S)⟩))
 exact Q3 (Z0 (yc (Za (b:=zb) (Qf (Q5 (n:=3) rfl rfl (z8 (xs:=[.int most,.tup (j.map .str),.tup rules]) (by simp) (by simp) S)))) (Za (b:=zb) (Qf (Q5 (n:=3) rfl rfl (Qer h.m0 h.m1 S))))) rfl) (Qw (Q53 (Q5 (n:=1) rfl rfl z) (Q5 (n:=2) rfl rfl I)))
def Qe0(h:Man B most j rules)S:Y1 [Qi most j rules] S=.ok .non S:=by
 have st:Vz [zo (Qi most j rules)] S=.nx [zo (Qi most j rules)] S:=Z0 (Za (b:=zb) (Qf (Q5 (n:=1) rfl rfl (Qv9 h S)))) rfl;unfold Y1 Jw;show(match Vz [zo (Qi most j rules)] S with|.rt v st'=>fin S v st' |.nx _ st'=>fin S .non st' |.exc x st'=>Qrv S x st' |_=>.stuck)=_
 rw[st];exact Qru S
structure Ru where
h:Nat
s:Str
e:Str
t:Str
u:Int
ms:List (Int×Str)
def ruV(r:Ru):PV:=.tup [.int r.h,.str r.s,.str r.e,.str r.t,.int r.u,.tup (r.ms.map prV)]
def stV(ss:List Str)(ls:List (Int×Str))(u:Int):PV:=.tup [.tup (ss.map .str),.tup (ls.map prV),.int u]
def kP(p:Int×Str):HK:=.tup [.int p.1,.str p.2]
def Qkr(h:kP p=kP q):p=q:=by
 unfold kP at h;injection h with h
 injection h with h1 h
 injection h with h2 _
 injection h1 with h1
 injection h2 with h2
 exact cw h1 h2
def evB(e:Str):Bool:=decide (e="go")||decide (e="fall")
def Q0k(r:Ru)(ss:List Str)(ls:List (Int×Str)):Bool:=decide (ss.getD r.h cm=r.s)&&(evB r.e||decide (((r.h:Int),r.e)∈ls))
def ixs{ss:List Str}{h:Nat}(j:h<ss.length)(S:Q0):oIx S (.tup (ss.map .str)) (.int h)=.ok (.str (ss.getD h cm)) S:=by
 refine ix_tup ?_ S;rw[D8,F1,O2 j];rfl
def nes S a b:oNe S (.str a) (.str b)=.ok (.bl (!decide (a=b))) S:=by
 show Res.ok (PV.bl (!(a==b))) S=_
 by_cases q:a=b
 ·rw[bY q,beq_iff_eq.mpr q]
 ·rw[bW q,beq_eq_false_iff_ne.mpr q]
def eqs S a b:oEq S (.str a) (.str b)=.ok (.bl (decide (a=b))) S:=by
 show Res.ok (PV.bl (a==b)) S=_
 by_cases q:a=b
 ·rw[bY q,beq_iff_eq.mpr q]
 ·rw[bW q,beq_eq_false_iff_ne.mpr q]
def Qj8 p q:peq (prV p) (prV q)=decide (p=q):=by
 show((p.1==q.1)&&((p.2==q.2)&&zb))=_
 by_cases e:p=q
 ·subst e;simp
 ·rw[bW e]
  by_cases z:p.1=q.1
  ·by_cases j:p.2=q.2
   ·exact absurd (cw z j) e
   ·simp[j]
  ·simp[z]
def Qky(j:List (Int×Str))p S:oIn yo S (prV p) (.tup (j.map prV))=.ok (.bl (decide (p∈j))) S:=by
 show(if good dep (prV p)=zb/\(j.map prV).all (good dep)=zb then Res.ok (PV.bl (((j.map prV).any λy=>peq y (prV p)) !=yo)) S else .stuck)=_
 rw[bU ⟨rfl,by rw[cH,F4];exact λ_ _=>rfl⟩];have:((j.map prV).any λy=>peq y (prV p))=decide (p∈j):=by
  rw[dZ]
  by_cases q:p∈j
  ·rw[bY q,dF];exact⟨p,q,by show peq (prV p) (prV p)=zb;rw[Qj8];simp⟩
  ·rw[bW q,dJ];intro x z;show ¬peq (prV x) (prV p)=zb;rw[Qj8];intro e;have e:x=p:=by simpa using e
   rw[e]at z;exact q z
 rw[this,dy]
def Qjv{a b:ME}(h:a Γ S=.ok (.bl x) S)(h2:b Γ S=.ok (.bl y) S):mOr a b Γ S=.ok (.bl (x||y)) S:=by
 rw[Qvb,h,Qy];cases x with
|true=>rfl
|false=>exact h2
def Qrt(r:Ru){ss:List Str}(I:r.h<ss.length)z u S:Qs [ruV r,stV ss z u] S=.ok (.bl (Q0k r ss z)) S:=by
 refine Xz ?_;show U3 [zo (ruV r),zo (stV ss z u)] S=_;have h1:=ixs I S;have j:=nes S (ss.getD r.h cm) r.s;unfold U3
 by_cases q:ss.getD r.h cm=r.s
 ·rw[bY q]at j;have G:Q0k r ss z=(decide (r.e="go")||(decide (r.e="fall")||decide (((r.h:Int),r.e)∈z))):=by
   unfold Q0k evB;rw[bY q,eB,Bool.or_assoc]
  rw[G];exact Q3 (Z0 (Qf (Q4 (Q4 rfl rfl h1) rfl j)) rfl) (Qw (Qjv (Q4 rfl rfl (eqs S r.e "go")) (Qjv (Q4 rfl rfl (eqs S r.e "fall")) (Q4 rfl rfl (Qky z ((r.h:Int),r.e) S)))))
 ·rw[bW q]at j;have G:Q0k r ss z=yo:=by unfold Q0k;rw[bW q,dI]
  rw[G];exact We (Wn (Qf (Q4 (Q4 rfl rfl h1) rfl j)) rfl)
def Jf(S:Q0)c:(S++[c])[S.length]?=zo c:=by rw[E4 (O6 _),cE];rfl
def Qsf S{a b:List PV}(h:a.length+b.length<=1000000):Zu S (.tup a) (.tup b)=.ok (.tup (a++b)) S:=bU (show _<=lim from h)
def Qpc{S:Q0}{xs:List PV}(h:S[n]?=zo (.lst xs))(j:k<xs.length)v:qi S (.ref n) (.int k) v=zo (S.set n (.lst (xs.set k v))):=by
 unfold qi;simp only[h];rw[Qri j];rfl
def Qsg(acc:List (Int×Str))p:Z9 (acc.map kP) (kP p)=(Z9 acc p).map kP:=by
 unfold Z9
 by_cases q:p∈acc
 ·rw[bU q,bU (E3.mpr ⟨p,q,rfl⟩)]
 ·rw[bV q,bV,E5]
  ·rfl
  ·intro h;obtain⟨x,j,e⟩:=E3.mp h;rw[Qkr e]at j;exact q j
def Qni{α:Type}[DecidableEq α](acc:List α)p:(Z9 acc p).length<=acc.length+1:=by unfold Z9;split<;>simp
def Q5s:∀(ps acc:List (Int×Str))(S:Q0)a,S[D]?=zo (.dtp (W2 (acc.map kP)))->acc.length+ps.length<1000->
  ∃z,Jv (Qb 4) Wc [] (ps.map prV) [x0,x1,x2,zo (.ref D),a] S=.nx [x0,x1,x2,zo (.ref D),z] (S.set D (.dtp (W2 ((ps.foldl Z9 acc).map kP))))
|[],acc,S,a,h,_=>⟨a,by
  have I:=(O0.mp h).1;have:S.set D (.dtp (W2 (acc.map kP)))=S:=by
   apply cf;intro i
   by_cases q:D=i
   ·subst q;rw[D9 I,h]
   ·rw[E2 q]
  simp[Jv,this]⟩
|p::ps,acc,S,a,h,J=>by
  rw[D6]at J;have I:=(O0.mp h).1;have j:=Q6k h (by rw[O1];omega) (p:=prV p) (k:=kP p) rfl;rw[Qsg]at j;have G:Wc [x0,x1,x2,zo (.ref D),zo (prV p)] S=.nx [x0,x1,x2,zo (.ref D),zo (prV p)] (S.set D (.dtp (W2 ((Z9 acc p).map kP)))):=Ys rfl rfl rfl j;obtain⟨z,e⟩:=Q5s ps (Z9 acc p) (S.set D (.dtp (W2 ((Z9 acc p).map kP)))) (zo (prV p)) (D9 I) (by have:=Qni acc p;omega);refine⟨z,?_⟩;rw[jo]at e;rw[D3,F8,<- e];simp[Jv,G]
def lsT(ls ms:List (Int×Str)):List (Int×Str):=Xe (Yy (ls++ms))
def Qgg(ps:List (Int×Str)):Q6b (W2 (ps.map kP))=zo ps:=by
 induction ps with
|nil=>rfl
|cons p ps j=>
  show(match Qcf (kP p),Q6b (W2 (ps.map kP))with|some p,zo l=>zo (p::l)|_,_=>zl)=_
  rw[j];rfl
def Q2h ss j u:good 12 (stV ss j u)=zb:=by
 show((ss.map PV.str).all (good 10)&&((j.map prV).all (good 10)&&(zb&&zb)))=zb;have h1:(ss.map PV.str).all (good 10)=zb:=by rw[cH,F4];exact λ_ _=>rfl
 have h2:(j.map prV).all (good 10)=zb:=by rw[cH,F4];exact λ_ _=>rfl
 rw[h1,h2];rfl
def Qp0(r:Ru){ss:List Str}(Z:r.h<ss.length){j:List (Int×Str)}(hl:j.length+r.ms.length<64)u S:Qu [ruV r,stV ss j u] S=.ok (stV (ss.set r.h r.t) (lsT j r.ms) (u+r.u)) S:=by
 have c1:(S++[Cell.lst (ss.map .str)])[S.length]?=zo (.lst (ss.map .str)):=Jf _ _;have hs:=Qpc c1 (k:=r.h) (by rw[O1];exact Z) (.str r.t);have e1:(S++[Cell.lst (ss.map PV.str)]).set S.length (.lst ((ss.map PV.str).set r.h (.str r.t)))=S++[Cell.lst ((ss.set r.h r.t).map PV.str)]:=by
  rw[fA _ _ (O6 _),cE,List.map_set];rfl
 rw[e1]at hs;obtain⟨q,I⟩:∃q,S++[Cell.lst ((ss.set r.h r.t).map PV.str)]=q:=⟨_,rfl⟩;rw[I]at hs;have cD:(q++[Cell.dtp []])[q.length]?=zo (.dtp (W2 (([]:List (Int×Str)).map kP))):=Jf _ _;have Y:(j++r.ms).length<64:=by rw[O5];exact hl
 obtain⟨a',U⟩:=Q5s (x0:=zo (ruV r)) (x1:=zo (stV ss j u)) (x2:=zo (.ref S.length)) (j++r.ms) [] (q++[Cell.dtp []]) zl cD (by simp only[cO];omega);have e3:(q++[Cell.dtp []]).set q.length (.dtp (W2 (((j++r.ms).foldl Z9 []).map kP)))=q++[Cell.dtp (W2 ((Yy (j++r.ms)).map kP))]:=by
  rw[fA _ _ (O6 _),cE];rfl
 rw[e3]at U;have a1:=Q08 (j++r.ms);obtain⟨z,G⟩:∃z,q++[Cell.dtp (W2 ((Yy (j++r.ms)).map kP))]=z:=⟨_,rfl⟩;rw[G]at U;have d4:Ut z (.ref q.length)=zo (W2 ((Yy (j++r.ms)).map kP)):=by
  have:z[q.length]?=zo (.dtp (W2 ((Yy (j++r.ms)).map kP))):=by rw[<- G];exact Jf _ _
  show(match z[q.length]? with|some (.dtp O)=>zo O|_=>zl)=_
  rw[this]
 have s4:Q4w z [.ref q.length]=.ok (.lst ((lsT j r.ms).map prV)) z:=by
  unfold Q4w;simp only[d4,Qgg];rw[bU ()];rfl
 have t4:Wh z [.ref S.length]=.ok (.tup ((ss.set r.h r.t).map .str)) z:=by
  have:z[S.length]?=zo (.lst ((ss.set r.h r.t).map .str)):=by
   rw[<- G,<- I,O7 (by simp)];exact Jf _ _
  show(match (match z[S.length]? with|some (.lst xs)=>zo xs|_=>zl)with|some xs=>Res.ok (PV.tup xs) z|none=>.stuck)=_
  rw[this]
 have J:Zu (q++[Cell.dtp []]) (.tup (j.map prV)) (.tup (r.ms.map prV))=.ok (.tup ((j++r.ms).map prV)) (q++[Cell.dtp []]):=by
  rw[Qsf _ (by rw[O1,O1];omega),E5]
 have st:U1 [zo (ruV r),zo (stV ss j u),zl,zl,zl] S=.rt (stV (ss.set r.h r.t) (lsT j r.ms) (u+r.u)) z:=by
  unfold U1;refine Q3 (Qh (Vh (ps:=ss.map .str) rfl)) ?_;refine Q3 (Q72 rfl rfl rfl hs) ?_;refine Q3 (Qh rfl) ?_;refine Q3 (Jp (Z1 (Q4 rfl rfl J) rfl (by rw[O1];omega)) U) ?_;exact Qw (Xn (Q8 (Zp rfl t4) (Q8 (Zp (Q8 (Zp rfl s4) rfl) rfl) (Q8 (Q4 rfl rfl (Q8n z u r.u)) rfl))) (by simp))
 have:=Zf (nl:=5) (ps:=[ruV r,stV ss j u]) st;unfold Qu;rw[this,<- G,<- I,dA];exact Qgs (Q2h _ _ _)
def Yn{α:Type}[DecidableEq α]:∀{l m:List α},l.Nodup->(∀x∈l,x∈m)->l.length<=m.length
|[],_,_,_=>G8 _
|a::l,m,h,hs=>by
  obtain⟨h1,h2⟩:=cp.mp h;have q:=hs a (by simp);have:=Yn (m:=m.erase a) h2 λx j=>(iq (show x≠a from λe=>h1 (by rw[<- e];exact j))).mpr (hs x (O3 _ j))
  rw[ip q]at this;have:=io q;rw[D6];omega
def Qk5{α:Type}[DecidableEq α]{acc:List α}{p x:α}:x∈Z9 acc p<->x∈acc\/x=p:=by
 unfold Z9
 split
 ·rename_i q;exact⟨.inl,λh=>h.elim id (λe=>e▸q)⟩
 ·simp
def Qa5{α:Type}[DecidableEq α]{x:α}:∀{ps acc:List α},x∈ps.foldl Z9 acc<->x∈acc\/x∈ps
|[],acc=>by simp
|p::ps,acc=>by
  rw[F8,Qa5,Qk5,D7];constructor
  ·rintro ((h|h)|h)
   ·exact .inl h
   ·exact .inr (.inl h)
   ·exact .inr (.inr h)
  ·rintro (h|h|h)
   ·exact .inl (.inl h)
   ·exact .inl (.inr h)
   ·exact .inr h
def Qsh{α:Type}[DecidableEq α]{ks:List α}(h:ks.Nodup)k:(Z9 ks k).Nodup:=by
 unfold Z9
 split
 ·exact h
 ·rename_i q;exact L7.mpr ⟨h,by simp,λx j y z e=>by
   have:y=k:=by simpa using z
   rw[e,this]at j;exact q j⟩
def Qei{α:Type}[DecidableEq α]:∀{ps acc:List α},acc.Nodup->(ps.foldl Z9 acc).Nodup
|[],_,h=>h
|p::ps,_,h=>by rw[F8];exact Qei (Qsh h p)
def mem_lsT:x∈lsT j ms<->x∈j\/x∈ms:=by
 unfold lsT;rw[(Vi _).mem_iff];unfold Yy;rw[Qa5,E9];simp
def InW(ws:List Str)(p:Int×Str):Prop:=0<=p.1/\p.1<4/\p.2∈ws
structure StI(n:Nat)(ws:List Str)(ss:List Str)(ls:List (Int×Str)):Prop where
len:ss.length=n
nd:ls.Nodup
sub:∀p∈ls,InW ws p
def StI.small{ws:List Str}{q:List (Int×Str)}(I:StI n ws ss q)(G:ws.length<=2):q.length<=8:=by
 have h:=Yn (m:=(ws.map λw=>(0,w))++(ws.map λw=>(1,w))++(ws.map λw=>(2,w))++(ws.map λw=>((3:Int),w))) I.nd λp z=>by
  obtain⟨h1,h2,j⟩:=I.sub p z;have:p.1=0\/p.1=1\/p.1=2\/p.1=3:=by omega
  obtain⟨a,b⟩:=p;simp only[E9,E3,Prod.mk.injEq];rcases this with e|e|e|e
  ·exact .inl (.inl (.inl ⟨b,j,e.symm,rfl⟩))
  ·exact .inl (.inl (.inr ⟨b,j,e.symm,rfl⟩))
  ·exact .inl (.inr ⟨b,j,e.symm,rfl⟩)
  ·exact .inr ⟨b,j,e.symm,rfl⟩
 simp only[O5,O1]at h;omega
structure RuI(n:Nat)(ws:List Str)(r:Ru):Prop where
h:r.h<n
ms:r.ms.length<=8
sub:∀p∈r.ms,InW ws p
def Qxa(rs:List Ru):List Int->List Str->List (Int×Str)->Int->Option Int
|[],_,_,u=>zo u
|k::ks,ss,ls,u=>match rs[k.toNat]? with
  |some r=>if 0<=k/\Q0k r ss ls=zb then Qxa rs ks (ss.set r.h r.t) (lsT ls r.ms) (u+r.u)else zl
  |none=>zl
structure MI1(starts:List Str)(rs:List Ru)(ws:List Str):Prop where
w2:ws.length<=2
ru:∀r∈rs,RuI starts.length ws r
len:rs.length<=9
def gei S a b:(oI λa b=>.bl (decide (b<=a))) S (.int a) (.int b)=.ok (.bl (decide (b<=a))) S:=rfl
def Qqu(r:Ru){ss:List Str}(I:r.h<ss.length)z u S:W4 [ruV r,stV ss z u] S=.ok (.bl (Q0k r ss z)) S:=by
 refine Xz ?_;show U0 [zo (ruV r),zo (stV ss z u)] S=_;have h1:=ixs I S;have j:=nes S (ss.getD r.h cm) r.s;have G:Q7u yo ["go","fall"] (mOp oIx (Q2 0) (mC (.int 2))) [zo (ruV r),zo (stV ss z u)] S=.ok (.bl (evB r.e)) S:=by
  rw[Qcj (x:=r.e) (S1:=S) rfl];congr 2;rw[dy];show(decide ("go"=r.e)||(decide ("fall"=r.e)||false))=_;unfold evB;rw[dM];congr 1<;>exact decide_eq_decide.mpr eq_comm
 unfold U0 Q0k
 by_cases q:ss.getD r.h cm=r.s
 ·rw[bY q]at j ⊢;rw[eB];exact Q3 (Z0 (Qf (Q4 (Q4 rfl rfl h1) rfl j)) rfl) (Qw (Qjv G (Q4 rfl rfl (Qky z ((r.h:Int),r.e) S))))
 ·rw[bW q]at j ⊢;rw[dI];exact We (Wn (Qf (Q4 (Q4 rfl rfl h1) rfl j)) rfl)
def Qpy(ns:List (Int×Str)):Q9n (ns.map prV)=zo ns:=by
 induction ns with
|nil=>rfl
|cons p ns j=>show(Q9n (ns.map prV)).map ((p.1,p.2) :: ·)=_;rw[j];rfl
def Qi3{α:Type}(l:List α)(j:h<l.length)x:l.take h++[x]++l.drop (h+1)=l.set h x:=by
 rw[List.set_eq_take_append_cons_drop,bU j];simp
def Qbp(r:Ru){ss:List Str}(O:r.h<ss.length)(Z:ss.length<=100){j:List (Int×Str)}(G:j.length+r.ms.length<64)u S:Qz [ruV r,stV ss j u] S=.ok (stV (ss.set r.h r.t) (lsT j r.ms) (u+r.u)) S:=by
 have st:Wz [zo (ruV r),zo (stV ss j u),zl] S=.rt (stV (ss.set r.h r.t) (lsT j r.ms) (u+r.u)) S:=by
  unfold Wz;have k1:mSl (mOp oIx (Q2 1) (mC (.int 0))) zg (Q1u (mOp oIx (Q2 0) (mC (.int 0)))) [zo (ruV r),zo (stV ss j u),zl] S=.ok (.tup ((ss.take r.h).map .str)) S:=by
   show Res.ok (PV.tup (cut (ss.map PV.str) zl (zo (r.h:Int)))) S=_;rw[Qgw,jG]
  have k2:mSl (mOp oIx (Q2 1) (mC (.int 0))) (Q1u (mOp Zu (mOp oIx (Q2 0) (mC (.int 0))) (mC (.int 1)))) zg [zo (ruV r),zo (stV ss j u),zl] S=.ok (.tup ((ss.drop (r.h+1)).map .str)) S:=by
   show Res.ok (PV.tup (cut (ss.map PV.str) (zo ((r.h:Int)+1)) zl)) S=_;rw[show((r.h:Int)+1)=((r.h+1:Nat):Int) by push_cast;rfl,Qmt,jH]
  have Y:((ss.take r.h).map PV.str).length<=100:=by rw[O1,cN];omega
  have U:((ss.drop (r.h+1)).map PV.str).length<=100:=by rw[O1,cx];omega
  have J:Zu S (.tup ((ss.take r.h).map .str)) (.tup [.str r.t])=.ok (.tup ((ss.take r.h++[r.t]).map .str)) S:=by rw[Qsf S (by simp;omega),E5];rfl
  have I:Zu S (.tup ((ss.take r.h++[r.t]).map .str)) (.tup ((ss.drop (r.h+1)).map .str))=.ok (.tup ((ss.set r.h r.t).map .str)) S:=by
   rw[Qsf S (by rw[E5,O5];simp;omega),<- E5,Qi3 ss O]
  have q:Zu S (.tup (j.map prV)) (.tup (r.ms.map prV))=.ok (.tup ((j++r.ms).map prV)) S:=by
   rw[Qsf S (by rw[O1,O1];omega),E5]
  have z:zf (mOp Zu (mOp oIx (Q2 1) (mC (.int 1))) (mOp oIx (Q2 0) (mC (.int 5)))) [zo (ruV r),zo (stV ss j u),zo (.tup ((ss.set r.h r.t).map .str))] S=.ok (.lst ((lsT j r.ms).map prV)) S:=by
   unfold zf;rw[Q4 rfl rfl q,Qy];show(match Q9n ((j++r.ms).map prV)with|some ns=>if ns.length<64 then Res.ok (PV.lst ((Xe (Yy ns)).map prV)) S else .stuck|none=>.stuck)=_
   rw[Qpy];show(if(j++r.ms).length<64 then _ else _)=_;rw[bU (by rw[O5];exact G)];rfl
  exact Q3 (Qh (Q4 (Q4 k1 rfl J) k2 I)) (Qw (Xn (Q8 rfl (Q8 (Zp (Q8 z rfl) rfl) (Q8 (Q4 rfl rfl (Q8n S u r.u)) rfl))) (by simp)))
 have:=Zf (nl:=3) (ps:=[ruV r,stV ss j u]) st;unfold Qz;rw[this];exact Kk (Q2h _ _ _)
def jt(rs:List Ru)(ss:List Str)(ls:List (Int×Str)):List (Ru×Nat):=rs.zipIdx.filter λp=>Q0k p.1 ss ls
def nV(p:Ru×Nat):PV:=.int (p.2:Int)
def Qzz(rs:List Ru)(ss:List Str)(ls:List (Int×Str)):List PV:=(jt rs ss ls).map nV
def Qmp:∀(rs:List Ru)n,Us n (rs.map ruV)=(rs.zipIdx n).map λp=>.tup [.int (p.2:Int),ruV p.1]
|[],_=>rfl
|r::rs,n=>by rw[D3,kA,D3,<- Qmp rs (n+1)];rfl
def Qha{rs:List Ru}{p:Ru×Nat}(h:p∈rs.zipIdx):rs[p.2]?=zo p.1:=N2.mp h
def Qc4{j:List Str}{rs:List Ru}(M:MI1 j rs ws){ss:List Str}(hs:ss.length=j.length)q u(S:Q0):Qq [Qi most j (rs.map ruV),stV ss q u] S=.ok (.ref S.length) (S++[.lst (Qzz rs ss q)]):=by
 refine J4 ?_;show Wg [zo (Qi most j (rs.map ruV)),zo (stV ss q u)] S=_;have z:Zt (Q4n (Vt (Qb 0) (Vt (Qb 1) Q4p))) Ye Yj [] [zl,zl,zo (stV ss q u)] (Us 0 (rs.map ruV)) S=.ok (Qzz rs ss q) S:=by
  rw[Qmp];exact zu (λp:Ru×Nat=>.tup [.int (p.2:Int),ruV p.1]) nV (λp=>Q0k p.1 ss q) (Qr _) λp I=>⟨_,rfl,Qf (Q5 (n:=2) rfl rfl (Qqu p.1 (by rw[hs];exact(M.ru _ (E6 (Qha I))).h) q u S)),λ_=>rfl⟩
 have G:Qa9 (Q1 (mOp oIx (Q2 0) (mC (.int 2))) Q6) [zo (Qi most j (rs.map ruV)),zo (stV ss q u)] S=.ok (Us 0 (rs.map ruV),[]) S:=by
  show(if(rs.map ruV).length<=lim then Res.ok (Us 0 (rs.map ruV),([]:Wt)) S else .stuck)=_;exact bU (by rw[O1,Q1e];have:=M.len;omega)
 exact Qw (Vh (Yu G z))
def InG(n:Nat)(ws:List Str)(p:Int×Str):Prop:=0<=p.1/\p.1<n/\p.2∈ws
def Qe9{n:Nat}{ws:List Str}:∀{q:List PV},(∀l∈q,Qce n l=zb)->(∀l∈q,∃(h:Int)(y:Str),l=.tup [.int h,.str y]/\y∈ws)->∃ms:List (Int×Str),q=ms.map prV/\∀p∈ms,InG n ws p
|[],_,_=>⟨[],rfl,λp j=>nomatch j⟩
|l::q,h1,h2=>by
  obtain⟨ms,e,hm⟩:=Qe9 (λx z=>h1 x (O3 _ z)) (λx z=>h2 x (O3 _ z))
  obtain⟨x,s,G,x0,x1,_⟩:=Q80 (h1 l (by simp));obtain⟨h,y,I,J⟩:=h2 l (by simp);rw[G]at I;cases I;refine⟨(x,s)::ms,by rw[D3,<- e,G];rfl,λp j=>?_⟩;rcases D7.mp j with rfl|j
  ·exact⟨x0,by show x<n;omega,J⟩
  ·exact hm p j
structure RuJ(n:Nat)(sts ws:List Str)(r:Ru):Prop where
h:r.h<n
ms:r.ms.length<=8
sub:∀p∈r.ms,InG n ws p
t:r.t∈sts
u0:0<=r.u
def Qpk{n:Nat}{j ws:List Str}{p:PV}(h:qj n p=zb)(O:Q56 ws p)(hs:Qda j p):∃r,p=ruV r/\RuJ n j ws r:=by
 obtain⟨x,s,e,t,u,I,rfl,x0,x1,_,_,_,u0,_,G,q⟩:=Q3c h;obtain⟨ms,rfl,z⟩:=Qe9 q (O _ _ _ _ _ I rfl);obtain⟨y,J,S⟩:=hs _ _ _ _ _ _ rfl;cases S;refine⟨⟨x.toNat,s,e,t,u,ms⟩,?_,⟨by show x.toNat<n;omega,by rw[O1]at G;exact G,z,J,u0⟩⟩;show _=PV.tup [.int (x.toNat:Nat),.str s,.str e,.str t,.int u,.tup (ms.map prV)];rw[fq x0]
def Q97{n:Nat}{q ws:List Str}:∀{rules:List PV},(∀p∈rules,qj n p=zb/\Q56 ws p/\Qda q p)->∃rs:List Ru,rules=rs.map ruV/\∀r∈rs,RuJ n q ws r
|[],_=>⟨[],rfl,λr z=>nomatch z⟩
|p::rules,h=>by
  obtain⟨rs,e,z⟩:=Q97 λx j=>h x (O3 _ j)
  obtain⟨h1,h2,G⟩:=h p (by simp);obtain⟨r,I,h1⟩:=Qpk h1 h2 G;refine⟨r::rs,by rw[D3,<- e,I],λx j=>?_⟩;rcases D7.mp j with rfl|j
  ·exact h1
  ·exact z x j
structure MI2(most:Int)(starts:List Str)(rs:List Ru)(sts ws:List Str):Prop where
m0:0<=most
w2:ws.length<=2
n4:starts.length<=4
cnt:sts.length^starts.length*2^(starts.length*ws.length)*(most.toNat+1)<=1200
st:∀x∈starts,x∈sts
ru:∀r∈rs,RuJ starts.length sts ws r
len:rs.length<=9
sw:∀x∈sts,Zs x=zb
lw:∀x∈ws,Qsk x
def MI2.one(M:MI2 most j rs z ws):MI1 j rs ws:=⟨M.w2,λr q=>⟨(M.ru r q).h,(M.ru r q).ms,λp G=>let ⟨a,b,c⟩:=(M.ru r q).sub p G;⟨a,by have:=M.n4;omega,c⟩⟩,M.len⟩
def Qva(J:B<=1200)(h:Man B most j rules):∃rs q ws,rules=rs.map ruV/\MI2 most j rs q ws:=by
 obtain⟨q,ws,w2,O,h1,I,U,S⟩:=h.ws;obtain⟨rs,e,G⟩:=Q97 (rules:=rules) λp z=>⟨F4.mp h.r p z,I p z⟩
 exact⟨rs,q,ws,e,h.m0,w2,h.s4,E8 O J,h1,G,by have:=h.len;rw[e,O1]at this;exact this,U,S⟩
abbrev Sd:=List Str×List (Int×Str)×Int
def sdV(s:Sd):PV:=stV s.1 s.2.1 s.2.2
def sdK(s:Sd):HK:=.tup [.tup (s.1.map .str),.tup (s.2.1.map kP),.int s.2.2]
def Qkp d(ss:List Str):W0 (Uv d) (ss.map .str)=zo (ss.map .str):=by
 induction ss with
|nil=>rfl
|cons x ss j=>
  rw[D3,W0,j];have:Uv d (.str x)=zo (.str x):=by cases d<;>rfl
  rw[this];rfl
def Qre d(j:List (Int×Str)):W0 (Uv (d+1)) (j.map prV)=zo (j.map kP):=by
 induction j with
|nil=>rfl
|cons p j q=>
  rw[D3,W0,q];have:Uv (d+1) (prV p)=zo (kP p):=by cases d<;>rfl
  rw[this];rfl
def Q0w s:qd (sdV s)=zo (sdK s):=by
 show(W0 (Uv 4) [.tup (s.1.map .str),.tup (s.2.1.map prV),.int s.2.2]).map HK.tup=_;have q:Uv 4 (.tup (s.1.map .str))=zo (.tup (s.1.map .str)):=by
  show(W0 (Uv 3) (s.1.map .str)).map HK.tup=_;rw[Qkp];rfl
 have j:Uv 4 (.tup (s.2.1.map prV))=zo (.tup (s.2.1.map kP)):=by
  show(W0 (Uv 3) (s.2.1.map prV)).map HK.tup=_;rw[Qre];rfl
 simp only[W0,q,j];rfl
def Q75(h:sdK s=sdK t):s=t:=by
 obtain⟨a,b,c⟩:=s;obtain⟨j,z,G⟩:=t;unfold sdK at h;simp only[HK.tup.injEq,gL,HK.int.injEq,and_true]at h;obtain⟨h1,h2,q⟩:=h;have k1:a=j:=kB (λx y e=>by cases e;rfl) |>.mp h1;have k2:b=z:=kB (λx y e=>Qkr e) |>.mp h2;rw[k1,k2,q]
def Qkz s:hkV (sdK s)=sdV s:=Qzb (Q0w s)
def stp(r:Ru)(s:Sd):Sd:=(s.1.set r.h r.t,lsT s.2.1 r.ms,s.2.2+r.u)
def fit(r:Ru)(s:Sd):Bool:=Q0k r s.1 s.2.1
structure SdI(n:Nat)(sts ws:List Str)(s:Sd):Prop where
len:s.1.length=n
st:∀x∈s.1,x∈sts
nd:s.2.1.Nodup
so:s.2.1.Pairwise leQ
sub:∀p∈s.2.1,InG n ws p
u0:0<=s.2.2
def SdI.one{s:Sd}(I:SdI n j ws s)(z:n<=4):StI n ws s.1 s.2.1:=⟨I.len,I.nd,λp q=>let ⟨a,b,c⟩:=I.sub p q;⟨a,by omega,c⟩⟩
def SdI.step(I:SdI n j ws s)(J:RuJ n j ws r):SdI n j ws (stp r s) where
 len:=by show(s.1.set r.h r.t).length=n;rw[L9];exact I.len
 st:=λx q=>by
  rcases List.mem_or_eq_of_mem_set q with h|h
  ·exact I.st x h
  ·rw[h];exact J.t
 nd:=(Vi _).nodup_iff.mpr (Qei dC)
 so:=Wu _
 sub:=λp z=>(mem_lsT.mp z).elim (I.sub p) (J.sub p)
 u0:=by show 0<=s.2.2+r.u;have:=I.u0;have:=J.u0;omega
def pws{α:Type}(xs:List α):Nat->List (List α)
|0=>[[]]
|n+1=>xs.flatMap λx=>(pws xs n).map (x :: ·)
def Q7a{α:Type}(xs:List α):∀n,(pws xs n).length=xs.length^n
|0=>rfl
|n+1=>by
  rw[pws,fB];have:(xs.map λx=>((pws xs n).map (x :: ·)).length)=xs.map λ_=>xs.length^n:=M9 λx _=>by rw[O1,Q7a xs n]
  rw[this,fC,fD,gD,eM]
def Q7s{α:Type}{xs:List α}:∀{n:Nat}{l:List α},l.length=n->(∀x∈l,x∈xs)->l∈pws xs n
|0,[],_,_=>by simp[pws]
|n+1,a::l,h,hs=>by
  rw[pws,N0];exact⟨a,hs a (by simp),E3.mpr ⟨l,Q7s (by simpa using h) λx j=>hs x (O3 _ j),rfl⟩⟩
def Qma(n:Nat)(ws:List Str):List (Int×Str):=(ba n).flatMap λ(h:Nat)=>ws.map λw=>((h:Int),w)
def Qm9 n(ws:List Str):(Qma n ws).length=n*ws.length:=by
 unfold Qma;rw[fB];have:((ba n).map λ(h:Nat)=>(ws.map λw=>((h:Int),w)).length)=(ba n).map λ_=>ws.length:=M9 λx _=>by rw[O1]
 rw[this,fC,fD,F9]
def Qa4(h:InG n ws p):p∈Qma n ws:=by
 obtain⟨a,b,c⟩:=h;refine N0.mpr ⟨p.1.toNat,cM.mpr (),E3.mpr ⟨p.2,c,?_⟩⟩;rw[fq a]
def tel(n:Nat)(ws:List Str)(s:Sd):List Str×List Bool×Nat:=(s.1,(Qma n ws).map (λp=>decide (p∈s.2.1)),s.2.2.toNat)
def Qns(I:SdI n j ws s)(J:SdI n j ws t)(h:tel n ws s=tel n ws t):s=t:=by
 obtain⟨a,b,c⟩:=s;obtain⟨a',O,S⟩:=t;unfold tel at h;simp only[Prod.mk.injEq]at h;obtain⟨h1,h2,Z⟩:=h;have hm:∀p,p∈b<->p∈O:=λp=>by
  have z:∀q∈Qma n ws,decide (q∈b)=decide (q∈O):=λq hq=>List.map_inj_left.mp h2 q hq
  constructor
  ·intro G;have:=z p (Qa4 (I.sub p G));rw[bY G]at this;exact of_decide_eq_true this.symm
  ·intro G;have:=z p (Qa4 (J.sub p G));rw[bY G]at this;exact of_decide_eq_true this
 have k2:b=O:=Ks ((jD I.nd J.nd).mpr hm) I.so J.so;have U:=I.u0;have Y:=J.u0;have k3:c=S:=by
  have Z:c.toNat=S.toNat:=Z;have U:0<=c:=U;have Y:0<=S:=Y;omega
 rw[h1,k2,k3]
def Q05{α β:Type}(f:α->β):∀{l:List α},l.Nodup->(∀x∈l,∀y∈l,f x=f y->x=y)->(l.map f).Nodup
|[],_,_=>dC
|a::l,h,hi=>by
  obtain⟨h1,h2⟩:=cp.mp h;rw[D3];refine cp.mpr ⟨λhm=>?_,Q05 f h2 λx j y q=>hi x (O3 _ j) y (O3 _ q)⟩;obtain⟨x,j,e⟩:=E3.mp hm;rw[hi x (O3 _ j) a (by simp) e]at j;exact h1 j
def few{most:Int}{j:List Str}{rs:List Ru}{q ws:List Str}(M:MI2 most j rs q ws){l:List Sd}(h:l.Nodup)(G:∀s∈l,SdI j.length q ws s/\s.2.2<=most):l.length<=1200:=by
 have Y:=Q05 (tel j.length ws) h λx z y O=>Qns (G x z).1 (G y O).1
 have:=Yn (m:=(pws q j.length).flatMap λa=>(pws [yo,zb] (j.length*ws.length)).flatMap λb=>(ba (most.toNat+1)).map λc=>(a,b,c)) Y λx z=>by
  obtain⟨s,hs,rfl⟩:=E3.mp z;obtain⟨I,hu⟩:=G s hs;have U:=I.u0;have J:=M.m0;refine N0.mpr ⟨s.1,Q7s I.len I.st,N0.mpr ⟨_,Q7s (by rw[O1,Qm9]) (λb _=>by cases b<;>simp),E3.mpr ⟨s.2.2.toNat,cM.mpr (),rfl⟩⟩⟩
 rw[O1]at this;refine E8 this (E8 (eN ?_) M.cnt);rw[fB];have Z:((pws q j.length).map λa=>((pws [yo,zb] (j.length*ws.length)).flatMap λb=>(ba (most.toNat+1)).map λc=>(a,b,c)).length)=(pws q j.length).map λ_=>2^(j.length*ws.length)*(most.toNat+1):=M9 λa _=>by
  rw[fB];have S:((pws [yo,zb] (j.length*ws.length)).map λb=>((ba (most.toNat+1)).map λc=>(a,b,c)).length)=(pws [yo,zb] (j.length*ws.length)).map λ_=>most.toNat+1:=M9 λb _=>by rw[O1,F9]
  rw[S,fC,fD,Q7a];rfl
 rw[Z,fC,fD,Q7a,Nat.mul_assoc]
def Qd8(a:List Sd×List Sd)(t:Sd):List Sd×List Sd:=if t∈a.1 then a else(a.1++[t],a.2++[t])
def nxt(rs:List Ru)(fr:List Sd):List Sd:=fr.flatMap λs=>(rs.filter (fit · s)).map (stp · s)
def lev(rs:List Ru)(a:List Sd×List Sd):List Sd×List Sd:=(nxt rs a.2).foldl Qd8 (a.1,[])
def lvs(rs:List Ru)(s0:Sd):Nat->List Sd×List Sd
|0=>([s0],[s0])
|i+1=>lev rs (lvs rs s0 i)
def Wi(rs:List Ru)(most:Int)(fr:List Sd):Bool:=fr.any λs=>rs.any λr=>fit r s&&decide (most<s.2.2+r.u)
def Y0:∀(xs K z:List Sd),∃ex,xs.foldl Qd8 (K,z)=(K++ex,z++ex)/\(∀x∈ex,x∈xs)/\(∀x∈xs,x∈K++ex)/\(K.Nodup->(K++ex).Nodup)
|[],K,z=>⟨[],by simp,by simp,by simp,by simp⟩
|x::xs,K,z=>by
  rw[F8]
  by_cases q:x∈K
  ·obtain⟨ex,h1,h2,I,G⟩:=Y0 xs K z;refine⟨ex,by unfold Qd8;rw[bU q];exact h1,λy j=>O3 _ (h2 y j),λy j=>?_,G⟩;rcases D7.mp j with rfl|j
   ·exact F7 _ q
   ·exact I y j
  ·obtain⟨ex,h1,h2,I,G⟩:=Y0 xs (K++[x]) (z++[x]);refine⟨x::ex,?_,λy j=>?_,λy j=>?_,λS=>?_⟩
   ·unfold Qd8;rw[bV q];show xs.foldl Qd8 (K++[x],z++[x])=_;rw[h1];simp
   ·rcases D7.mp j with rfl|j
    ·simp
    ·exact O3 _ (h2 y j)
   ·rcases D7.mp j with rfl|j
    ·simp
    ·have:=I y j;simpa using this
   ·have:(K++[x]).Nodup:=L7.mpr ⟨S,by simp,λa J b O e=>by
     have:b=x:=by simpa using O
     rw[e,this]at J;exact q J⟩
    have:=G this;simpa using this
def Qn{α:Type}(f:α->PV)(G:List (Sd×α)):List (HK×PV):=G.map λe=>(sdK e.1,f e.2)
def Jh{α:Type}(a:List (Sd×α)×List Sd)(x:Sd×α):List (Sd×α)×List Sd:=if x.1∈a.1.map (·.1)then a else(a.1++[x],a.2++[x.1])
def jy{α:Type}:∀(xs:List (Sd×α))(a:List (Sd×α)×List Sd),((xs.foldl Jh a).1.map (·.1),(xs.foldl Jh a).2)=(xs.map (·.1)).foldl Qd8 (a.1.map (·.1),a.2)
|[],a=>rfl
|x::xs,a=>by
  rw[F8,D3,F8,jy xs];congr 1;unfold Jh Qd8
  by_cases q:x.1∈a.1.map (·.1)
  ·rw[bU q,bU q]
  ·rw[bV q,bV q,E5];rfl
def W3{α:Type}:∀(xs:List (Sd×α))(a:List (Sd×α)×List Sd),∃ex,(xs.foldl Jh a).1=a.1++ex/\(xs.foldl Jh a).2=a.2++ex.map (·.1)/\∀x∈ex,x∈xs
|[],a=>⟨[],by simp,by simp,by simp⟩
|x::xs,a=>by
  rw[F8]
  by_cases q:x.1∈a.1.map (·.1)
  ·obtain⟨ex,h1,h2,z⟩:=W3 xs a;have:Jh a x=a:=by unfold Jh;rw[bU q]
   rw[this];exact⟨ex,h1,h2,λy j=>O3 _ (z y j)⟩
  ·have:Jh a x=(a.1++[x],a.2++[x.1]):=by unfold Jh;rw[bV q]
   rw[this];obtain⟨ex,h1,h2,z⟩:=W3 xs (a.1++[x],a.2++[x.1]);refine⟨x::ex,by rw[h1];simp,by rw[h2];simp,λy j=>?_⟩;rcases D7.mp j with rfl|j
   ·simp
   ·exact O3 _ (z y j)
def Qnp{α:Type}(f:α->PV)(G:List (Sd×α))t:(yb (Qn f G) (sdK t)).isSome=decide (t∈G.map (·.1)):=by
 unfold yb Qn;rw[eP]
 by_cases q:t∈G.map (·.1)
 ·rw[bY q,List.find?_isSome];obtain⟨e,I,rfl⟩:=E3.mp q;exact⟨_,E3.mpr ⟨e,I,rfl⟩,by simp⟩
 ·rw[bW q];cases z:iy (λkv=>decide (kv.1=sdK t)) (G.map λe=>(sdK e.1,f e.2))with
  |none=>rfl
  |some x=>
   have h1:=jA z;have h2:=iz z;obtain⟨y,j,rfl⟩:=E3.mp h1;have h2:sdK y.1=sdK t:=by simpa using h2
   exact absurd (E3.mpr ⟨y,j,Q75 h2⟩) q
def Qhg{α:Type}(f:α->PV):∀{G:List (Sd×α)}{t:Sd}{a:α},(G.map (·.1)).Nodup->(t,a)∈G->yb (Qn f G) (sdK t)=zo (f a)
|e::G,t,a,q,hm=>by
  unfold yb Qn;rw[D3,cb];rw[D3]at q;obtain⟨h1,h2⟩:=cp.mp q;rcases D7.mp hm with rfl|hm
  ·simp
  ·have j:¬e.1=t:=λz=>h1 (by rw[z];exact E3.mpr ⟨_,hm,rfl⟩)
   have:decide (sdK e.1=sdK t)=yo:=bW λz=>j (Q75 z)
   simp only[this];exact Qhg f h2 hm
def Qds{α:Type}(f:α->PV){G:List (Sd×α)}{t:Sd}{a:α}(h:t∉G.map (·.1)):Sm.putT (Qn f G) (sdK t) (f a)=Qn f (G++[(t,a)]):=by
 unfold Sm.putT;rw[bV]
 ·unfold Qn;rw[E5];rfl
 ·unfold Qn;rw[dZ,dF];rintro ⟨x,j,e⟩;have e:sdK x.1=sdK t:=by simpa using e
  exact h (E3.mpr ⟨x,j,Q75 e⟩)
def pV:Option (Nat×Sd)->PV
|none=>.non
|some (n,s)=>.tup [.int (n:Int),sdV s]
abbrev Pr:=Sd×Option (Nat×Sd)
def Qnr(rs:List Ru)(s:Sd):List Pr:=(jt rs s.1 s.2.1).map λp=>(stp p.1 s,zo (p.2,s))
def trp(rs:List Ru)(fr:List Sd):List Pr:=fr.flatMap (Qnr rs)
def Qb7(rs:List Ru)(p:Ru->Bool):∀n,((rs.zipIdx n).filter λx=>p x.1).map (·.1)=rs.filter p:=by
 induction rs with
|nil=>intro n;rfl
|cons r rs j=>
  intro n;rw[kA,dU,dU];cases p r with
  |true=>simp only[if_true];rw[D3,j]
  |false=>exact j (n+1)
def Qhj(rs:List Ru)s:(Qnr rs s).map (·.1)=(rs.filter (fit · s)).map (stp · s):=by
 unfold Qnr;rw[L4];show(jt rs s.1 s.2.1).map ((stp · s)∘(·.1))=_;rw[<- L4];congr 1;exact Qb7 rs (fit · s) 0
def Qnq rs j:(trp rs j).map (·.1)=nxt rs j:=by
 unfold trp nxt;rw[kC];congr 1;funext s;exact Qhj rs s
def lvF(rs:List Ru)(s0:Sd):Nat->List Pr×List Sd
|0=>([(s0,zl)],[s0])
|i+1=>(trp rs (lvF rs s0 i).2).foldl Jh ((lvF rs s0 i).1,[])
def zj rs s0:∀i,((lvF rs s0 i).1.map (·.1),(lvF rs s0 i).2)=lvs rs s0 i
|0=>rfl
|i+1=>by
  have j:=zj rs s0 i;show(((trp rs (lvF rs s0 i).2).foldl Jh ((lvF rs s0 i).1,[])).1.map (·.1),((trp rs (lvF rs s0 i).2).foldl Jh ((lvF rs s0 i).1,[])).2)=lev rs (lvs rs s0 i);rw[jy,Qnq,<- j];rfl
inductive Tr(F:List Pr):Sd->List Nat->Prop
|nil {s:Sd}:(s,zl)∈F->Tr F s []
|cons {s q:Sd} {n:Nat} {ks:List Nat}:(s,zo (n,q))∈F->Tr F q ks->Tr F s (n::ks)
def Tr.mono(h:∀e∈F,e∈j):∀{s:Sd}{ks:List Nat},Tr F s ks->Tr j s ks
|_,_,.nil a=>.nil (h _ a)
|_,_,.cons a b=>.cons (h _ a) (Tr.mono h b)
def Q7v rs s0 i:∃ex,(lvF rs s0 (i+1)).1=(lvF rs s0 i).1++ex/\(lvF rs s0 (i+1)).2=ex.map (·.1)/\∀x∈ex,x∈trp rs (lvF rs s0 i).2:=by
 obtain⟨ex,h1,h2,j⟩:=W3 (trp rs (lvF rs s0 i).2) ((lvF rs s0 i).1,[]);exact⟨ex,h1,by rw[show(lvF rs s0 (i+1)).2=_ from h2];simp,j⟩
def Qe2(h:x∈trp rs j):∃s r n,s∈j/\rs[n]?=zo r/\fit r s=zb/\x=(stp r s,zo (n,s)):=by
 obtain⟨s,hs,q⟩:=N0.mp h;obtain⟨p,z,rfl⟩:=E3.mp q;obtain⟨h1,h2⟩:=G6.mp z;exact⟨s,p.1,p.2,hs,Qha h1,h2,rfl⟩
def Qcb rs s0:∀i,∀s∈(lvF rs s0 i).2,∃ks,ks.length=i/\Tr (lvF rs s0 i).1 s ks
|0,s,h=>⟨[],rfl,.nil (by
   have:s=s0:=by simpa[lvF]using h
   rw[this];simp[lvF])⟩
|i+1,s,h=>by
  obtain⟨ex,h1,h2,I⟩:=Q7v rs s0 i;rw[h2]at h;obtain⟨x,j,rfl⟩:=E3.mp h;obtain⟨q,r,n,O,_,_,e⟩:=Qe2 (I x j);obtain⟨ks,J,z⟩:=Qcb rs s0 i q O;refine⟨n::ks,by rw[D6,J],.cons (q:=q) ?_ (z.mono λe G=>by rw[h1];exact F7 _ G)⟩;rw[h1];refine F2 _ ?_;have:(x.1,zo (n,q))=x:=by rw[e]
  rw[this];exact j
def Qtb(rs:List Ru)(s0:Sd)(F:List Pr):Prop:=∀e∈F,(e.2=zl->e.1=s0)/\∀n q,e.2=zo (n,q)->∃r,rs[n]?=zo r/\fit r q=zb/\stp r q=e.1
def Q1c rs s0:∀i,Qtb rs s0 (lvF rs s0 i).1
|0,e,h=>by
  have:e=(s0,zl):=by simpa[lvF]using h
  rw[this];exact⟨λ_=>rfl,λn q z=>by cases z⟩
|i+1,e,h=>by
  obtain⟨ex,h1,h2,I⟩:=Q7v rs s0 i;rw[h1]at h;rcases E9.mp h with h|h
  ·exact Q1c rs s0 i e h
  ·obtain⟨q,r,n,U,j,G,J⟩:=Qe2 (I e h);rw[J];exact⟨λz=>(by cases z),λS O z=>(by cases z;exact⟨r,j,G,rfl⟩)⟩
def wkS(rs:List Ru):List Nat->Sd->Option Sd
|[],s=>zo s
|k::ks,s=>match rs[k]? with
  |some r=>if fit r s=zb then wkS rs ks (stp r s)else zl
  |none=>zl
def Q8q(q:rs[n]?=zo r):∀{ks:List Nat}{a s:Sd},wkS rs ks a=zo s->fit r s=zb->wkS rs (ks++[n]) a=zo (stp r s)
|[],a,s,e,j=>by
  cases e;show(match rs[n]? with|some r=>if fit r a=zb then wkS rs [] (stp r a)else zl|none=>zl)=_
  rw[q];simp only[j,if_true];rfl
|k::ks,a,s,e,j=>by
  rw[gV];unfold wkS at e ⊢
  split at e
  ·rename_i G z
   split at e
   ·rename_i h2;rw[bU h2];exact Q8q q e j
   ·cases e
  ·cases e
def Qhk(j:Qtb rs s0 F):∀{s:Sd}{ks:List Nat},Tr F s ks->wkS rs ks.reverse s0=zo s
|s,[],.nil h=>by
  have e:s=s0:=(j _ h).1 rfl;rw[e];rfl
|s,n::ks,.cons h t=>by
  obtain⟨r,q,z,e⟩:=(j _ h).2 _ _ rfl;rw[du,Q8q q (Qhk j t) z];exact congrArg zo e
def Q35{j:List Str}(M:MI2 most j rs q ws):SdI j.length q ws (j,[],0):=⟨rfl,M.st,dC,.nil,λp z=>(nomatch z),jR _⟩
def qc{j:List Str}(M:MI2 most j rs z ws):∀i,(lvs rs (j,[],0) i).1.Nodup/\(∀s∈(lvs rs (j,[],0) i).2,s∈(lvs rs (j,[],0) i).1)/\∀s∈(lvs rs (j,[],0) i).1,SdI j.length z ws s
|0=>⟨by simp [lvs],by simp [lvs],λs hs=>by
   have:s=(j,[],0):=by simpa[lvs]using hs
   rw[this];exact Q35 M⟩
|i+1=>by
  obtain⟨h1,h2,G⟩:=qc M i;obtain⟨ex,e,J,g2,S⟩:=Y0 (nxt rs (lvs rs (j,[],0) i).2) (lvs rs (j,[],0) i).1 [];have e:lvs rs (j,[],0) (i+1)=_:=e;rw[e];refine⟨S h1,λs hs=>F2 _ (by simpa using hs),λs hs=>?_⟩;rcases E9.mp hs with hs|hs
  ·exact G s hs
  ·obtain⟨q,U,O⟩:=N0.mp (J s hs);obtain⟨r,I,rfl⟩:=E3.mp O;exact(G q (h2 q U)).step (M.ru r (G6.mp I).1)
def Qe8(M:MI2 most z rs I ws):∀i,(∀j,j<i->Wi rs most (lvs rs (z,[],0) j).2=yo)->∀s∈(lvs rs (z,[],0) i).1,s.2.2<=most
|0,_,s,hs=>by
  have:s=(z,[],0):=by simpa[lvs]using hs
  rw[this];exact M.m0
|i+1,O,s,hs=>by
  have ih:=Qe8 M i (λj hj=>O j ())
  obtain⟨ex,e,U,g2,g3⟩:=Y0 (nxt rs (lvs rs (z,[],0) i).2) (lvs rs (z,[],0) i).1 [];have e:lvs rs (z,[],0) (i+1)=_:=e;rw[e]at hs;rcases E9.mp hs with hs|hs
  ·exact ih s hs
  ·obtain⟨q,Z,Y⟩:=N0.mp (U s hs);obtain⟨r,S,rfl⟩:=E3.mp Y;obtain⟨J,G⟩:=G6.mp S;have:=dJ.mp (O i ()) q Z;have:=dJ.mp (Bool.not_eq_true _▸this) r J;simp only[G,eB,decide_eq_true_eq]at this;show q.2.2+r.u<=most;omega
def zi(M:MI2 most q rs z ws)(G:∀j,j<i->Wi rs most (lvs rs (q,[],0) j).2=yo):(lvs rs (q,[],0) i).1.length<=1200:=few M (qc M i).1 λs hs=>⟨(qc M i).2.2 s hs,Qe8 M i G s hs⟩
def jk i:(lvs rs (j,[],0) (i+1)).1.length=(lvs rs (j,[],0) i).1.length+(lvs rs (j,[],0) (i+1)).2.length:=by
 obtain⟨ex,e,_⟩:=Y0 (nxt rs (lvs rs (j,[],0) i).2) (lvs rs (j,[],0) i).1 [];have e:lvs rs (j,[],0) (i+1)=_:=e;rw[e];simp
def Kc(rs:List Ru)(most:Int)(s0:Sd)(i:Nat):Prop:=Wi rs most (lvs rs s0 i).2=zb\/(lvs rs s0 i).2=[]
def Q4s s0:∀m,(∃N,N<=m/\Kc rs most s0 N/\∀i,i<N->¬Kc rs most s0 i)\/∀i,i<=m->¬Kc rs most s0 i
|0=>by
  by_cases q:Kc rs most s0 0
  ·exact .inl ⟨0,O6 _,q,λi hi=>by omega⟩
  ·exact .inr λi hi=>by
    have:i=0:=by omega
    rw[this];exact q
|m+1=>by
  rcases Q4s s0 m with⟨N,h1,h2,j⟩|h
  ·exact .inl ⟨N,by omega,h2,j⟩
  ·by_cases q:Kc rs most s0 (m+1)
   ·exact .inl ⟨m+1,O6 _,q,λi hi=>h i ()⟩
   ·refine .inr λi hi=>?_
    by_cases z:i=m+1
    ·rw[z];exact q
    ·exact h i ()
def Qxt(M:MI2 most q rs I ws):∃N,N<=1250/\Kc rs most (q,[],0) N/\∀i,i<N->¬Kc rs most (q,[],0) i:=by
 rcases Q4s (rs:=rs) (most:=most) (q,[],0) 1250 with h|h
 ·exact h
 ·have J:∀j,j<1250->Wi rs most (lvs rs (q,[],0) j).2=yo:=λj S=>by
   cases z:Wi rs most (lvs rs (q,[],0) j).2 with
   |false=>rfl
   |true=>exact absurd (.inl z) (h j ())
  have G:∀i,i<=1250->i+1<=(lvs rs (q,[],0) i).1.length:=by
   intro i
   induction i with
   |zero=>intro _;simp[lvs]
   |succ i O=>
    intro hi;have h1:=O ();have h2:(lvs rs (q,[],0) (i+1)).2.length≠0:=λz=>h (i+1) hi (.inr (fF z))
    rw[jk];omega
  have h1:=G 1250 (O6 _);have h2:=zi M J;omega
structure Gw(P:Nat->Prop)(S A:Q0):Prop where
len:S.length<=A.length
keep:∀t,t<S.length->¬P t->A[t]?=S[t]?
def Gw.refl(P:Nat->Prop)S:Gw P S S:=⟨O6 _,λ_ _ _=>rfl⟩
def Gw.trans{P:Nat->Prop}(a:Gw P S A)(b:Gw P A B):Gw P S B:=⟨E8 a.len b.len,λt h1 h2=>(b.keep t (D5 h1 a.len) h2).trans (a.keep t h1 h2)⟩
def Gw.add(P:Nat->Prop)S T:Gw P S (S++T):=⟨by rw[O5];omega,λt h _=>O7 h⟩
def Gw.put{P:Nat->Prop}(S:Q0)(h:P n)c:Gw P S (S.set n c):=⟨by rw[L9];exact O6 _,λt _ h2=>E2 λe=>h2 (by rw[<- e];exact h)⟩
def Gw.mono{P Q:Nat->Prop}{S:Q0}(a:Gw P S A)(h:∀t,t<S.length->P t->Q t):Gw Q S A:=⟨a.len,λt h1 h2=>a.keep t h1 λz=>h2 (h t h1 z)⟩
def Gw.at{P:Nat->Prop}(a:Gw P S A)(h:S[t]?=zo c)(j:¬P t):A[t]?=zo c:=by rw[a.keep t (O0.mp h).1 j];exact h
def Gw.w{P:Nat->Prop}{S A:Q0}(a:Gw P S A){w:Wt}(h:wOk w S)(q:∀x∈w,¬P x.1):wOk w A:=λx j=>a.at (h x j) (q x j)
def Gw.tape{P:Nat->Prop}(a:Gw P S A)(T:TapeAt S L ns)(j:¬P L):TapeAt A L ns:=let ⟨p,c,e⟩:=T;⟨p,c,a.at e j⟩
def Q6j{α:Type}(f:α->PV){S:Q0}{D:Nat}{G:List (Sd×α)}(h:S[D]?=zo (.dtp (Qn f G))):Ut S (.ref D)=zo (Qn f G):=by show(match S[D]? with|some (.dtp j)=>zo j|_=>zl)=_;rw[h]
def Q6i{α:Type}(f:α->PV){S:Q0}{D:Nat}{G:List (Sd×α)}(h:S[D]?=zo (.dtp (Qn f G)))(t:Sd)(j:Bool):Q16 j S (sdV t) (.ref D)=.ok (.bl (decide (t∈G.map (·.1)) !=j)) S:=by
 unfold Q16;rw[Q6j f h,Q0w];show Res.ok (PV.bl ((yb (Qn f G) (sdK t)).isSome !=j)) S=_;rw[Qnp]
def ju{α:Type}(f:α->PV){S:Q0}{D:Nat}{G:List (Sd×α)}(h:S[D]?=zo (.dtp (Qn f G)))(j:(G.map (·.1)).Nodup){t:Sd}{a:α}(q:(t,a)∈G):Qat S (.ref D) (sdV t)=.ok (f a) S:=by
 unfold Qat
 rw[Q6j f h,Q0w];show(match yb (Qn f G) (sdK t)with|some v=>Res.ok v S|none=>.stuck)=_
 rw[Qhg f j q]
def Q1p{α:Type}(f:α->PV){S:Q0}{D:Nat}{G:List (Sd×α)}(h:S[D]?=zo (.dtp (Qn f G)))(q:G.length<1000000){t:Sd}(j:t∉G.map (·.1))(a:α):Q0p S (.ref D) (sdV t) (f a)=zo (S.set D (.dtp (Qn f (G++[(t,a)])))):=by
 unfold Q0p;simp only[Q6j f h,Q0w];rw[bU (by unfold Qn;rw[O1];exact q),Qds f j]
def Qct{α:Type}(f:α->PV){S:Q0}{D:Nat}{G:List (Sd×α)}(h:S[D]?=zo (.dtp (Qn f G)))(j:G.length<1000000):Q0r S [.ref D]=.ok (.int (G.length:Nat)) S:=by
 unfold Q0r;simp only[Q6j f h];have:(Qn f G).length=G.length:=O1 _;rw[this,bU j]
def K5{mo mi:ME}(h1:mo Γ S=.ok p S1)(h2:mi Γ S1=.ok q j)(z:Qat j p q=r):X7 mo mi Γ S=r:=by
 unfold X7;rw[h1,Qy,h2,Qy,z]
def Uu(h:S[D]?=zo (.lst xs)):Ve S (.ref D)=zo (xs,[(D,.lst xs)]):=by
 show(match S[D]? with|some (.lst xs)=>zo (xs,[(D,Cell.lst xs)])|_=>zl)=_
 rw[h]
def Xd(h:S[D]?=zo (.lst xs)):wOk [(D,.lst xs)] S:=λx j=>by
 have:x=(D,.lst xs):=by simpa using j
 rw[this];exact h
def Zv(h:S[D]?=zo (.lst xs)):V2 S (.ref D)=zo xs:=by
 show(match S[D]? with|some (.lst xs)=>zo xs|_=>zl)=_;rw[h]
def J0{ga:GA}{body:MS}(I:wOk w S)(h1:ga x Γ=zo z)(h2:body z S=.nx q G)(J:Jv ga body w xs q G=r):Jv ga body w (x::xs) Γ S=r:=by
 rw[Jv,bU I,h1];show(match body z S with|.nx q j=>Jv ga body w xs q j|.ct q j=>Jv ga body w xs q j|.bk q j=>.nx q j|.rt v j=>.rt v j|.exc x j=>.exc x j|.stuck=>.stuck)=_;rw[h2];exact J
def zq{ga:GA}{body:MS}(I:wOk w S)(h1:ga x Γ=zo z)(h2:body z S=.rt v G):Jv ga body w (x::xs) Γ S=.rt v G:=by
 rw[Jv,bU I,h1];show(match body z S with|.nx q j=>Jv ga body w xs q j|.ct q j=>Jv ga body w xs q j|.bk q j=>.nx q j|.rt v j=>.rt v j|.exc x j=>.exc x j|.stuck=>.stuck)=_;rw[h2]
def Z3(j:wOk w S):Jv ga body w [] Γ S=.nx Γ S:=by rw[Jv,bU j]
def Ke{mt:MT}{body:MS}(h1:mt Γ S=.ok zb S1)(h2:body Γ S1=.nx q z)(G:J5 mt body n q z=r):J5 mt body (n+1) Γ S=r:=by
 unfold J5;rw[h1];show(match body Γ S1 with|.nx q j=>J5 mt body n q j|.ct q j=>J5 mt body n q j|.bk q j=>.nx q j|.rt v j=>.rt v j|.exc x j=>.exc x j|.stuck=>.stuck)=_;rw[h2];exact G
def Q5j{mt:MT}{body:MS}(h1:mt Γ S=.ok zb S1)(h2:body Γ S1=.rt v z):J5 mt body (n+1) Γ S=.rt v z:=by
 unfold J5;rw[h1];show(match body Γ S1 with|.nx q j=>J5 mt body n q j|.ct q j=>J5 mt body n q j|.bk q j=>.nx q j|.rt v j=>.rt v j|.exc x j=>.exc x j|.stuck=>.stuck)=_;rw[h2]
def Vg{mt:MT}(h1:mt Γ S=.ok yo S1):J5 mt body (n+1) Γ S=.nx Γ S1:=by
 unfold J5;rw[h1];rfl
def Q7q{j:List Str}{rs:List Ru}(M:MI2 most j rs q ws){s:Sd}(I:SdI j.length q ws s)(S:Q0):Qq [Qi most j (rs.map ruV),sdV s] S=.ok (.ref S.length) (S++[.lst ((jt rs s.1 s.2.1).map nV)]):=Qc4 M.one I.len s.2.1 s.2.2 S
def Qd4{j:List Str}(M:MI2 most j rs q ws)(I:SdI j.length q ws s)(z:r∈rs)S:Qz [ruV r,sdV s] S=.ok (sdV (stp r s)) S:=
 Qbp r (by rw[I.len];exact(M.ru r z).h) (by rw[I.len];have:=M.n4;omega) (by have:=(I.one M.n4).small M.w2;have:=(M.ru r z).ms;omega) s.2.2 S
def Q1n{s:Sd}{p:Ru×Nat}(h:p∈jt rs s.1 s.2.1):rs[p.2]?=zo p.1/\fit p.1 s=zb:=let ⟨a,b⟩:=G6.mp h;⟨Qha a,b⟩
def rix{rs:List Ru}{p:Ru×Nat}(h:rs[p.2]?=zo p.1)(S:Q0):oIx S (.tup (rs.map ruV)) (nV p)=.ok (ruV p.1) S:=ix_tup (by rw[D8,h];rfl) S
def Qcn {most:Int} {j:List Str} {rs:List Ru} {a4 ws:List Str} (M:MI2 most j rs a4 ws) {D Fi:Nat} (Z:D≠Fi) {V:PV} {s:Sd} (I:SdI j.length a4 ws s) {w:Wt} (hw:∀x∈w,¬(x.1=D\/x.1=Fi)):∀(ks:List (Ru×Nat))(F:List Pr)(z:List Sd)(A:Q0)(a5 a6:Option PV),(∀p∈ks,rs[p.2]?=zo p.1)->A[D]?=zo (.dtp (Qn pV F))->A[Fi]?=zo (.lst (z.map sdV))->wOk w A->z.length<=F.length->
  ((ks.map λp=>(stp p.1 s,zo (p.2,s))).foldl Jh (F,z)).1.length<=2000->
  ∃A' J O,Jv (Qb 5) Wj w (ks.map nV) [zo (Qi most j (rs.map ruV)),zo (.ref D),zo V,zo (.ref Fi),zo (sdV s),a5,a6] A=.nx [zo (Qi most j (rs.map ruV)),zo (.ref D),zo V,zo (.ref Fi),zo (sdV s),J,O] A' /\
   A'[D]?=zo (.dtp (Qn pV ((ks.map λp=>(stp p.1 s,zo (p.2,s))).foldl Jh (F,z)).1))/\A'[Fi]?=zo (.lst (((ks.map λp=>(stp p.1 s,zo (p.2,s))).foldl Jh (F,z)).2.map sdV))/\Gw (λt=>t=D\/t=Fi) A A'
|[],F,z,A,a5,a6,_,hD,hF,G,_,_=>⟨A,a5,a6,Z3 G,hD,hF,Gw.refl _ _⟩
|p::ks,F,z,A,a5,a6,hk,hD,hF,G,hl,hb=>by
  have hr:=hk p (by simp);have hx:=rix hr A;have hs:=Qd4 M I (E6 hr) A;have a1:=Q6i pV hD (stp p.1 s) zb;simp only[D3,F8]at hb ⊢;obtain⟨ex,a2,_⟩:=W3 (ks.map λp=>((stp p.1 s,zo (p.2,s)):Pr)) (Jh (F,z) (stp p.1 s,zo (p.2,s)))
  have Qgk:(J1 6 (Qa 2 Qz (Q1 (mOp oIx (mOp oIx (Q2 0) (mC (.int 2))) (Q2 5)) (Q1 (Q2 4) Q6)))) [zo (Qi most j (rs.map ruV)),zo (.ref D),zo V,zo (.ref Fi),zo (sdV s),zo (nV p),a6] A=.nx [zo (Qi most j (rs.map ruV)),zo (.ref D),zo V,zo (.ref Fi),zo (sdV s),zo (nV p),zo (sdV (stp p.1 s))] A:=Qh (Q5 (n:=2) (Q8 (Q4 rfl rfl hx) rfl) rfl hs)
  by_cases q:stp p.1 s∈F.map (·.1)
  ·have S:Jh (F,z) (stp p.1 s,zo (p.2,s))=(F,z):=by unfold Jh;rw[bU q]
   rw[S]at hb ⊢;rw[bY q]at a1;obtain⟨A',J,O,e,h1,h2,h3⟩:=Qcn M Z I hw ks F z A (zo (nV p)) (zo (sdV (stp p.1 s))) (λx hx=>hk x (O3 _ hx)) hD hF G hl hb
   exact⟨A',J,O,J0 G rfl (Q3 Qgk (Z0 (Qf (Q4 rfl rfl a1)) rfl)) e,h1,h2,h3⟩
  ·have S:Jh (F,z) (stp p.1 s,zo (p.2,s))=(F++[(stp p.1 s,zo (p.2,s))],z++[stp p.1 s]):=by unfold Jh;rw[bV q]
   rw[S]at hb a2 ⊢;rw[bW q]at a1;have b2:F.length+1<=2000:=by
    rw[a2]at hb;simp only[O5,D6,cO]at hb;omega
   have a3:=Q1p pV hD () q (zo (p.2,s));obtain⟨A1,Y⟩:∃A1,A.set D (.dtp (Qn pV (F++[(stp p.1 s,zo (p.2,s))])))=A1:=⟨_,rfl⟩;rw[Y]at a3;have b0:=(O0.mp hD).1;have b1:=(O0.mp hF).1;have d1:A1[D]?=zo (.dtp (Qn pV (F++[(stp p.1 s,zo (p.2,s))]))):=by rw[<- Y];exact D9 b0
   have f1:A1[Fi]?=zo (.lst (z.map sdV)):=by rw[<- Y,E2 Z];exact hF
   have g1:Gw (λt=>t=D\/t=Fi) A A1:=by rw[<- Y];exact Gw.put A (.inl rfl) _
   obtain⟨A2,U⟩:∃A2,A1.set Fi (.lst ((z++[stp p.1 s]).map sdV))=A2:=⟨_,rfl⟩;have d2:A2[D]?=zo (.dtp (Qn pV (F++[(stp p.1 s,zo (p.2,s))]))):=by rw[<- U,E2 (Ne.symm Z)];exact d1
   have a9:=(O0.mp f1).1;have f2:A2[Fi]?=zo (.lst ((z++[stp p.1 s]).map sdV)):=by rw[<- U];exact D9 a9
   have g2:Gw (λt=>t=D\/t=Fi) A A2:=by rw[<- U];exact g1.trans (Gw.put A1 (.inr rfl) _)
   have a8:Jg A1 (.ref Fi) [sdV (stp p.1 s)]=.ok .non A2:=by
    rw[qe f1 (by rw[O1];omega),<- U,E5];rfl
   have a7:=Qct pV d2 (by rw[O5];simp;omega);obtain⟨A',J,O,e,h1,h2,h3⟩:=Qcn M Z I hw ks (F++[(stp p.1 s,zo (p.2,s))]) (z++[stp p.1 s]) A2 (zo (nV p)) (zo (sdV (stp p.1 s))) (λx hx=>hk x (O3 _ hx)) d2 f2 (g2.w G hw) (by rw[O5,O5];simp;omega) hb
   refine⟨A',J,O,J0 G rfl (Q3 Qgk (Wn (Qf (Q4 rfl rfl a1)) (Q3 (Ys rfl rfl rfl a3) (Q3 (xm rfl (Zv f1) rfl a8) (Z0 (Qf (Q4 (Zp rfl a7) rfl (Q1x A2 ?_))) rfl))))) e,h1,h2,g2.trans h3⟩;rw[O5];simp;omega
def Qeg {most:Int} {j:List Str} {rs:List Ru} {Y ws:List Str} (M:MI2 most j rs Y ws) {D Fi:Nat} (Z:D≠Fi) {V:PV} {w:Wt} (hw:∀x∈w,¬(x.1=D\/x.1=Fi)):∀(G:List Sd)(F:List Pr)(q:List Sd)(A:Q0)(a4 a5 U:Option PV),(∀s∈G,SdI j.length Y ws s)->A[D]?=zo (.dtp (Qn pV F))->A[Fi]?=zo (.lst (q.map sdV))->wOk w A->q.length<=F.length->
  ((trp rs G).foldl Jh (F,q)).1.length<=2000->
  ∃A' a3 a9 b3,Jv (Qb 4) Wk w (G.map sdV) [zo (Qi most j (rs.map ruV)),zo (.ref D),zo V,zo (.ref Fi),a4,a5,U] A=.nx [zo (Qi most j (rs.map ruV)),zo (.ref D),zo V,zo (.ref Fi),a3,a9,b3] A' /\
   A'[D]?=zo (.dtp (Qn pV ((trp rs G).foldl Jh (F,q)).1))/\A'[Fi]?=zo (.lst (((trp rs G).foldl Jh (F,q)).2.map sdV))/\Gw (λt=>t=D\/t=Fi) A A'
|[],F,q,A,a4,a5,U,_,hD,hF,J,_,_=>⟨A,a4,a5,U,Z3 J,hD,hF,Gw.refl _ _⟩
|s::G,F,q,A,a4,a5,U,hi,hD,hF,J,hl,hb=>by
  have I:=hi s (by simp);have hn:=Q7q M I A;obtain⟨ks,O⟩:∃ks,jt rs s.1 s.2.1=ks:=⟨_,rfl⟩;have b0:∀p∈ks,rs[p.2]?=zo p.1:=λp hp=>(Q1n (by rw[O];exact hp)).1
  have b8:ks.length<=9:=by
   rw[<- O];have:=da (λp:Ru×Nat=>Q0k p.1 s.1 s.2.1) rs.zipIdx;rw[fG]at this;exact E8 this M.len
  have b7:trp rs (s::G)=(ks.map λp=>(stp p.1 s,zo (p.2,s)))++trp rs G:=by
   show(s::G).flatMap (Qnr rs)=_;rw[db,<- O];rfl
  rw[O]at hn;rw[b7,dX]at hb ⊢;obtain⟨S,z⟩:∃S,A++[Cell.lst (ks.map nV)]=S:=⟨_,rfl⟩;rw[z]at hn;have g1:Gw (λt=>t=D\/t=Fi) A S:=by rw[<- z];exact Gw.add _ _ _
  have b1:=(O0.mp hD).1;have a2:=(O0.mp hF).1;have d1:S[D]?=zo (.dtp (Qn pV F)):=by rw[<- z,O7 b1];exact hD
  have f1:S[Fi]?=zo (.lst (q.map sdV)):=by rw[<- z,O7 a2];exact hF
  have n1:S[A.length]?=zo (.lst (ks.map nV)):=by rw[<- z];exact Jf _ _
  obtain⟨ex,a1,b2,_⟩:=W3 (trp rs G) ((ks.map λp=>((stp p.1 s,zo (p.2,s)):Pr)).foldl Jh (F,q))
  obtain⟨ey,a7,a8,_⟩:=W3 (ks.map λp=>((stp p.1 s,zo (p.2,s)):Pr)) (F,q)
  obtain⟨A2,b5,b6,e2,d2,f2,g2⟩:=Qcn M Z (V:=V) I (w:=[(A.length,.lst (ks.map nV))]) (λx hx=>by
   have:x=(A.length,.lst (ks.map nV)):=by simpa using hx
   rw[this];show ¬(A.length=D\/A.length=Fi);omega) ks F q S a5 U b0 d1 f1 (Xd n1) hl (by rw[a1,O5]at hb;omega)
  obtain⟨A3,b4,c5,c6,e3,d3,f3,g3⟩:=Qeg M Z (V:=V) hw G _ _ A2 (zo (sdV s)) b5 b6 (λx hx=>hi x (O3 _ hx)) d2 f2 ((g1.trans g2).w J hw) (by rw[a7,a8,O5,O5,O1];show q.length+_<=F.length+_;omega) hb
  exact⟨A3,b4,c5,c6,J0 J rfl (Jp (Z1 (Q5 (n:=2) rfl rfl hn) (Uu n1) (by rw[O1];omega)) e2) e3,d3,f3,(g1.trans g2).trans g3⟩
def Qcm {most:Int} {j:List Str} {rs:List Ru} {I ws:List Str} (M:MI2 most j rs I ws) {D:Nat} {V:PV} {w:Wt} {S:Q0} {G:List Sd} {F:List Pr} (hV:∀T,Ve (S++T) V=zo (G.map sdV,w)) (J:wOk w S) (hw:∀x∈w,x.1≠D) (hi:∀s∈G,SdI j.length I ws s) (Y:S[D]?=zo (.dtp (Qn pV F))) (U:G.length<=1000000) (hb:((trp rs G).foldl Jh (F,[])).1.length<=2000):
  ∃S',Zq [Qi most j (rs.map ruV),.ref D,V] S=.ok (.ref S.length) S'/\S'[D]?=zo (.dtp (Qn pV ((trp rs G).foldl Jh (F,[])).1))/\S'[S.length]?=zo (.lst (((trp rs G).foldl Jh (F,[])).2.map sdV))/\Gw (λt=>t=D) S S':=by
 have O:=(O0.mp Y).1;have d1:(S++[Cell.lst []])[D]?=zo (.dtp (Qn pV F)):=by rw[O7 O];exact Y
 have q:∀x∈w,¬(x.1=D\/x.1=S.length):=λx Z z=>by
  rcases z with z|z
  ·exact hw x Z z
  ·have:=(O0.mp (J x Z)).1;omega
 obtain⟨A',a4,a5,a6,e,h1,h2,h3⟩:=Qeg M (D:=D) (Fi:=S.length) () (V:=V) q G F [] (S++[Cell.lst []]) zl zl zl hi d1 (Jf _ _) ((Gw.add (λt=>t=D\/t=S.length) S _).w J q) (G8 _) hb;refine⟨A',J4 (show Vs [zo (Qi most j (rs.map ruV)),zo (.ref D),zo V,zl,zl,zl,zl] S=_ from Q3 (Qh (Vh rfl)) (Q3 (Jp (Z1 rfl (hV _) (by rw[O1];exact U)) e) (Qw rfl))),h1,h2,?_⟩;refine((Gw.add (λt=>t=D\/t=S.length) S _).trans h3).mono λt ht z=>?_
 rcases z with z|z
 ·exact z
 ·omega
def Qn1{rs:List Ru}(M:MI2 most j rs U ws){V:PV}{s:Sd}(z:wOk w A):∀(ks:List (Ru×Nat))J,(∀p∈ks,rs[p.2]?=zo p.1)->
  ((ks.any λp=>decide (most<s.2.2+p.1.u))=yo/\∃I,Jv (Qb 3) Zg w (ks.map nV) [zo (Qi most j (rs.map ruV)),zo V,zo (sdV s),J] A=.nx [zo (Qi most j (rs.map ruV)),zo V,zo (sdV s),I] A)\/
  (∃p∈ks,most<s.2.2+p.1.u/\Jv (Qb 3) Zg w (ks.map nV) [zo (Qi most j (rs.map ruV)),zo V,zo (sdV s),J] A=.rt (.tup [nV p,sdV s]) A)
|[],J,_=>.inl ⟨rfl,J,Z3 z⟩
|p::ks,J,Y=>by
  have O:=rix (Y p (by simp)) A
  by_cases q:most<s.2.2+p.1.u
  ·exact .inr ⟨p,by simp,q,zq z rfl (Wn (Qf (Q4 (Q4 rfl (Q4 (Q4 rfl rfl O) rfl rfl) (Q8n A s.2.2 p.1.u)) rfl (Q0j A q))) (Qw rfl))⟩
  ·have G:Zg [zo (Qi most j (rs.map ruV)),zo V,zo (sdV s),zo (nV p)] A=.nx [zo (Qi most j (rs.map ruV)),zo V,zo (sdV s),zo (nV p)] A:=Z0 (Qf (Q4 (Q4 rfl (Q4 (Q4 rfl rfl O) rfl rfl) (Q8n A s.2.2 p.1.u)) rfl (Q1x A q))) rfl;rcases Qn1 M z ks (zo (nV p)) (λx O=>Y x (O3 _ O))with⟨h1,I,e⟩|⟨p',S,h1,e⟩
   ·exact .inl ⟨by rw[N3,bW q,h1];rfl,I,J0 z rfl G e⟩
   ·exact .inr ⟨p',O3 _ S,h1,J0 z rfl G e⟩
def Qet {most:Int} {j:List Str} {rs:List Ru} {a1 ws:List Str} (M:MI2 most j rs a1 ws) {V:PV} {w:Wt}:∀(U:List Sd)(A:Q0)(a2 Y:Option PV),wOk w A->(∀s∈U,SdI j.length a1 ws s)->
  (Wi rs most U=yo/\∃A' a6 a5,Jv (Qb 2) Zh w (U.map sdV) [zo (Qi most j (rs.map ruV)),zo V,a2,Y] A=.nx [zo (Qi most j (rs.map ruV)),zo V,a6,a5] A'/\Gw (λ_=>False) A A')\/
  (∃s∈U,∃(r:Ru)(n:Nat)(A':Q0),rs[n]?=zo r/\fit r s=zb/\most<s.2.2+r.u/\Jv (Qb 2) Zh w (U.map sdV) [zo (Qi most j (rs.map ruV)),zo V,a2,Y] A=.rt (.tup [.int (n:Int),sdV s]) A'/\Gw (λ_=>False) A A')
|[],A,a2,Y,q,_=>.inl ⟨rfl,A,a2,Y,Z3 q,Gw.refl _ _⟩
|s::U,A,a2,Y,q,hi=>by
  have I:=hi s (by simp);have hn:=Q7q M I A;obtain⟨ks,J⟩:∃ks,jt rs s.1 s.2.1=ks:=⟨_,rfl⟩;have Z:∀p∈ks,rs[p.2]?=zo p.1/\fit p.1 s=zb:=λp hp=>Q1n (by rw[J];exact hp)
  have a9:ks.length<=9:=by
   rw[<- J];have:=da (λp:Ru×Nat=>Q0k p.1 s.1 s.2.1) rs.zipIdx;rw[fG]at this;exact E8 this M.len
  rw[J]at hn;obtain⟨S,O⟩:∃S,A++[Cell.lst (ks.map nV)]=S:=⟨_,rfl⟩;rw[O]at hn;have g1:Gw (λ_=>False) A S:=by rw[<- O];exact Gw.add _ _ _
  have n1:S[A.length]?=zo (.lst (ks.map nV)):=by rw[<- O];exact Jf _ _
  rcases Qn1 M (V:=V) (s:=s) (Xd n1) ks Y (λp hp=>(Z p hp).1)with⟨h1,b3,e⟩|⟨p,hp,h1,e⟩
  ·have G:Zh [zo (Qi most j (rs.map ruV)),zo V,zo (sdV s),Y] A=.nx [zo (Qi most j (rs.map ruV)),zo V,zo (sdV s),b3] S:=Jp (Z1 (Q5 (n:=2) rfl rfl hn) (Uu n1) (by rw[O1];omega)) e;have a4:(rs.any λr=>fit r s&&decide (most<s.2.2+r.u))=yo:=by
    rw[dJ];intro r hr z;simp only[F3,decide_eq_true_eq]at z;obtain⟨n,a7,a8⟩:=L8 hr;have hm:(r,n)∈ks:=by
     rw[<- J];refine G6.mpr ⟨N2.mpr ?_,z.1⟩;rw[O2 a7,a8]
    have:=dJ.mp h1 _ hm;simp only[decide_eq_true_eq]at this;exact this z.2
   rcases Qet M U S (zo (sdV s)) b3 (g1.w q λ_ _ h=>h) (λx hx=>hi x (O3 _ hx))with⟨k1,A2,b2,c3,e2,g2⟩|⟨t,ht,r,n,A2,k1,k2,k3,e2,g2⟩
   ·exact .inl ⟨by unfold Wi;rw[N3,a4];exact k1,A2,b2,c3,J0 q rfl G e2,g1.trans g2⟩
   ·exact .inr ⟨t,O3 _ ht,r,n,A2,k1,k2,k3,J0 q rfl G e2,g1.trans g2⟩
  ·exact .inr ⟨s,by simp,p.1,p.2,S,(Z p hp).1,(Z p hp).2,h1,zq q rfl (Jp (Z1 (Q5 (n:=2) rfl rfl hn) (Uu n1) (by rw[O1];omega)) e),g1⟩
def nI(k:Nat):PV:=.int (k:Int)
def Q96 {F:List Pr} (U:(F.map (·.1)).Nodup) {D R:Nat} (I:D≠R) {V:PV}:∀{s:Sd}{ks:List Nat},Tr F s ks->∀(m:Nat)(acc:List Nat)(A:Q0),A[D]?=zo (.dtp (Qn pV F))->A[R]?=zo (.lst (acc.map nI))->acc.length+ks.length<=3000->
  ∃J a3,J5 yn xj (m+ks.length+1) [zo (.ref D),zo V,zo (.ref R),zo (sdV s)] A=.nx [zo (.ref D),zo V,zo (.ref R),a3] J/\J[R]?=zo (.lst ((acc++ks).map nI))/\Gw (λt=>t=R) A J
|s,[],.nil h,m,acc,A,S,O,_=>⟨A,_,Vg (Qf (Q4 (K5 rfl rfl (ju pV S U h)) rfl rfl)),by rw[G9];exact O,Gw.refl _ _⟩
|s,n::ks,.cons (q:=q) h t,m,acc,A,S,O,hl=>by
  have hg:=ju pV S U h;rw[D6]at hl;have Y:=(O0.mp O).1;obtain⟨z,j⟩:∃z,A.set R (.lst ((acc++[n]).map nI))=z:=⟨_,rfl⟩;have G:Jg A (.ref R) [nI n]=.ok .non z:=by
   rw[qe O (by rw[O1];omega),<- j,E5];rfl
  have d1:z[D]?=zo (.dtp (Qn pV F)):=by rw[<- j,E2 (Ne.symm I)];exact S
  have r1:z[R]?=zo (.lst ((acc++[n]).map nI)):=by rw[<- j];exact D9 Y
  have g1:Gw (λt=>t=R) A z:=by rw[<- j];exact Gw.put (P:=λt=>t=R) A rfl _
  have Z:=ju pV d1 U h;obtain⟨J,a3,e,h1,h2⟩:=Q96 U I (V:=V) t m (acc++[n]) z d1 r1 (by rw[O5];simp;omega);refine⟨J,a3,?_,by rw[h1];simp,g1.trans h2⟩;rw[D6,show m+(ks.length+1)+1=(m+ks.length+1)+1 from rfl];exact Ke (Qf (Q4 (K5 rfl rfl hg) rfl rfl)) (Q3 (xm rfl (Zv O) (Q8 (Q4 (K5 rfl rfl hg) rfl rfl) rfl) G) (Qh (Q4 (K5 rfl rfl Z) rfl rfl))) e
def Qig{F:List Pr}(Y:(F.map (·.1)).Nodup){ks:List Nat}(t:Tr F s ks){S:Q0}(I:S[D]?=zo (.dtp (Qn pV F)))(U:ks.length<=3000):∃S' R,Vc [.ref D,sdV s] S=.ok (.ref R) S'/\S'[R]?=zo (.lst (ks.reverse.map nI))/\S.length<=R/\Gw (λ_=>False) S S':=by
 have q:=(O0.mp I).1;have O:(S++[Cell.lst []])[D]?=zo (.dtp (Qn pV F)):=by rw[O7 q];exact I
 obtain⟨j,Z,e,h1,h2⟩:=Q96 Y (D:=D) (R:=S.length) () (V:=sdV s) t (99999-ks.length) [] (S++[Cell.lst []]) O (Jf _ _) (by simpa using U);rw[show 99999-ks.length+ks.length+1=100000 by omega]at e;have G:Gw (λ_=>False) S j:=((Gw.add (λt=>t=S.length) S _).trans h2).mono λt ht z=>by omega
 have J:Qr1 (Q2 2) [zo (.ref D),zo (sdV s),zo (.ref S.length),Z] j=.ok (ks.reverse.map nI) j:=by
  show(match Vf j (.ref S.length)with|some xs=>if xs.length<=1000000 then Res.ok xs.reverse j else .stuck|none=>.stuck)=_
  have:Vf j (.ref S.length)=zo (ks.map nI):=by
   show(match j[S.length]? with|some (.lst xs)=>zo xs|_=>zl)=_
   rw[h1];rfl
  rw[this];show(if(ks.map nI).length<=1000000 then Res.ok (ks.map nI).reverse j else .stuck)=_;rw[bU (by rw[O1];omega),List.map_reverse]
 exact⟨j++[.lst (ks.reverse.map nI)],j.length,J4 (show Q45 [zo (.ref D),zo (sdV s),zl,zl] S=_ from Q3 (Qh (Vh rfl)) (Q3 (Qh rfl) (Q3 e (Qw (Vh J))))),Jf _ _,G.len,G.trans (Gw.add _ _ _)⟩
def Q4x{xs:List PV}(h:S[B]?=zo (.lst xs)):Yc S [.ref B]=.ok (.int (xs.length:Nat)) S:=by rw[Qwe,h]
def FrAt(S:Q0)(V:PV)(fr:List Sd):Prop:=V=.lst (fr.map sdV)\/∃B,V=.ref B/\S[B]?=zo (.lst (fr.map sdV))
def FrAt.src{V:PV}{j:List Sd}(h:FrAt S V j)(z:S[D]?=zo (.dtp c)):∃w,(∀T,Ve (S++T) V=zo (j.map sdV,w))/\wOk w S/\∀x∈w,x.1≠D:=by
 rcases h with rfl|⟨B,rfl,h⟩
 ·exact⟨[],λ_=>rfl,Qr _,λx q=>nomatch q⟩
 ·refine⟨[(B,.lst (j.map sdV))],λT=>Uu (by rw[O7 (O0.mp h).1];exact h),Xd h,λx q e=>?_⟩;have:x=(B,.lst (j.map sdV)):=by simpa using q
  rw[this]at e;have e:B=D:=e;rw[e,z]at h;cases h
def Q4z{j:List Str}{rs:List Ru}(M:MI2 most j rs z ws){V:PV}{q:List Sd}(I:Ve S V=zo (q.map sdV,w))(O:wOk w S)(J:q.length<=1000000)(hi:∀s∈q,SdI j.length z ws s):
  (Wi rs most q=yo/\∃S',Zb [Qi most j (rs.map ruV),V] S=.ok .non S'/\Gw (λ_=>False) S S')\/
  (∃s∈q,∃(r:Ru)(n:Nat)(S':Q0),rs[n]?=zo r/\fit r s=zb/\most<s.2.2+r.u/\Zb [Qi most j (rs.map ruV),V] S=.ok (.tup [.int (n:Int),sdV s]) S'/\Gw (λ_=>False) S S'):=by
 rcases Qet M (V:=V) q S zl zl O hi with⟨h1,G,Y,Z,e,g⟩|⟨s,hs,r,n,G,h1,h2,U,e,g⟩
 ·exact .inl ⟨h1,G,J4 (show W9 [zo (Qi most j (rs.map ruV)),zo V,zl,zl] S=_ from Q3 (Jp (Z1 rfl I (by rw[O1];exact J)) e) (Qw rfl)),g⟩
 ·exact .inr ⟨s,hs,r,n,G,h1,h2,U,J4 (show W9 [zo (Qi most j (rs.map ruV)),zo V,zl,zl] S=_ from We (Jp (Z1 rfl I (by rw[O1];exact J)) e)),g⟩
def Qwk(most:Int)(starts:List Str)(rs:List Ru)(N:Nat)(D:Nat)(v:PV)(A:Q0):Prop:=
 (Wi rs most (lvs rs (starts,[],0) N).2=zb/\∃(R:Nat)(ks:List Nat)(n:Nat)(r:Ru)(s:Sd),v=.tup [.ref D,.ref R]/\D<R/\A[R]?=zo (.lst ((ks++[n]).map nI))/\ks.length=N/\wkS rs ks (starts,[],0)=zo s/\s∈(lvs rs (starts,[],0) N).1/\rs[n]?=zo r/\fit r s=zb/\most<s.2.2+r.u)\/
 (Wi rs most (lvs rs (starts,[],0) N).2=yo/\v=.tup [.ref D,.non]/\A[D]?=zo (.dtp (Qn pV (lvF rs (starts,[],0) N).1)))
def Qf4{rs:List Ru}(M:MI2 most q rs a9 ws)(hN:N<=1250)(hS:Kc rs most (q,[],0) N)(a6:∀i,i<N->¬Kc rs most (q,[],0) i):∀j i,i+j=N->∀m A V a3,A[D]?=zo (.dtp (Qn pV (lvF rs (q,[],0) i).1))->FrAt A V (lvF rs (q,[],0) i).2->
  ∃A',Gw (λt=>t=D) A A'/\((∃v,J5 Yd Vv (m+j+2) [zo (Qi most q (rs.map ruV)),zo (.ref D),zo V,a3] A=.rt v A'/\Wi rs most (lvs rs (q,[],0) N).2=zb/\Qwk most q rs N D v A')\/(∃V' b3,J5 Yd Vv (m+j+2) [zo (Qi most q (rs.map ruV)),zo (.ref D),zo V,a3] A=.nx [zo (Qi most q (rs.map ruV)),zo (.ref D),zo V',b3] A'/\Qwk most q rs N D (.tup [.ref D,.non]) A')):=by
 intro j
 induction j with
|zero=>
  intro i hi m A V a3 hD hV;have hi:i=N:=by omega
  subst hi;have U:=zj rs (q,[],0) i;have e1:(lvF rs (q,[],0) i).1.map (·.1)=(lvs rs (q,[],0) i).1:=congrArg bq U;have Y:(lvF rs (q,[],0) i).2=(lvs rs (q,[],0) i).2:=congrArg cU U;have a1:∀j,j<i->Wi rs most (lvs rs (q,[],0) j).2=yo:=λj hj=>by
   cases z:Wi rs most (lvs rs (q,[],0) j).2 with
   |false=>rfl
   |true=>exact absurd (.inl z) (a6 j hj)
  obtain⟨k1,k2,k3⟩:=qc M i;have kf:=zi M a1;obtain⟨w,S,hw,b9⟩:=hV.src hD;have c1:(lvF rs (q,[],0) i).2.length<=1200:=by
   rw[Y];refine E8 ?_ kf;cases i with
   |zero=>simp[lvs]
   |succ i=>rw[jk];omega
  have I:Yc A [V]=.ok (.int ((lvF rs (q,[],0) i).2.length:Nat)) A:=by
   rcases hV with rfl|⟨B,rfl,h⟩
   ·show Res.ok (PV.int (((lvF rs (q,[],0) i).2.map sdV).length:Nat)) A=_;rw[O1]
   ·have:=Q4x h;rw[this,O1]
  by_cases J:(lvF rs (q,[],0) i).2=[]
  ·refine⟨A,Gw.refl _ _,.inr ⟨V,a3,?_,.inr ⟨?_,rfl,hD⟩⟩⟩
   ·rw[J]at I;exact Vg (Qf (Q4 (Zp rfl I) rfl rfl))
   ·rw[<- Y,J];rfl
  ·have hb:Wi rs most (lvs rs (q,[],0) i).2=zb:=by
    rcases hS with h|h
    ·exact h
    ·rw[<- Y]at h;exact absurd h J
   have ht:Yd [zo (Qi most q (rs.map ruV)),zo (.ref D),zo V,a3] A=.ok zb A:=by
    refine Qf (Q4 (Zp rfl I) rfl (Q0j A ?_));have:(lvF rs (q,[],0) i).2.length≠0:=λz=>J (fF z)
    omega
   have G:=S [];rw[G9]at G;rcases Q4z M G hw () (λs hs=>k3 s (k2 s (by rw[<- Y];exact hs)))with⟨z,_⟩|⟨s,hs,r,n,A1,h1,h2,h3,e,g⟩
   ·rw[Y,hb]at z;cases z
   ·obtain⟨ks,b7,b4⟩:=Qcb rs (q,[],0) i s hs;have d1:=g.at hD (λh=>h);obtain⟨Z,R2,er,r2,_,g2⟩:=Qig (by rw[e1];exact k1) b4 d1 ();have b2:qu (Q65 (Qa 2 Vc (Q1 (Q2 1) (Q1 (mOp oIx (Q2 3) (mC (.int 1))) Q6))) (yy (Q1 (mOp oIx (Q2 3) (mC (.int 0))) Q6))) [zo (Qi most q (rs.map ruV)),zo (.ref D),zo V,zo (.tup [.int (n:Int),sdV s])] A1=.ok (.ref Z.length) (Z++[.lst ((ks.reverse++[n]).map nI)]):=by
     refine Vh ?_;unfold Q65;rw[Q5 (n:=2) (F:=Vc) rfl rfl er,Qy];show Q62 Z (.ref R2) (.lst [.int (n:Int)])=_;unfold Q62;rw[Q67 r2];show(if(ks.reverse.map nI).length+1<=lim then Res.ok (ks.reverse.map nI++[.int (n:Int)]) Z else .stuck)=_;rw[bU (by rw[O1,dr,Q1e];omega),E5];rfl
    refine⟨Z++[.lst ((ks.reverse++[n]).map nI)],((g.trans g2).trans (Gw.add _ _ _)).mono (λt _ h=>h.elim),.inl ⟨.tup [.ref D,.ref Z.length],Q5j ht (Q3 (Qh (Q5 (n:=2) rfl rfl e)) (We (Wn (Qf (Q4 rfl rfl rfl)) (Qw (Xn (Q8 rfl (Q8 b2 rfl)) (by simp)))))),hb,.inl ⟨hb,Z.length,ks.reverse,n,r,s,rfl,D5 (O0.mp hD).1 (E8 g.len g2.len),Jf _ _,by rw[dr,b7],Qhk (Q1c rs (q,[],0) i) b4,k2 s (by rw[<- Y];exact hs),h1,h2,h3⟩⟩⟩
|succ j ih=>
  intro i hi m A V a3 hD hV;have U:=zj rs (q,[],0) i;have e1:(lvF rs (q,[],0) i).1.map (·.1)=(lvs rs (q,[],0) i).1:=congrArg bq U;have Y:(lvF rs (q,[],0) i).2=(lvs rs (q,[],0) i).2:=congrArg cU U;have a7:=zj rs (q,[],0) (i+1);have c0:(lvF rs (q,[],0) (i+1)).1.map (·.1)=(lvs rs (q,[],0) (i+1)).1:=congrArg bq a7;have a4:=a6 i ();have a1:∀j,j<i+1->Wi rs most (lvs rs (q,[],0) j).2=yo:=λj hj=>by
   cases z:Wi rs most (lvs rs (q,[],0) j).2 with
   |false=>rfl
   |true=>exact absurd (.inl z) (a6 j ())
  obtain⟨k1,k2,k3⟩:=qc M i;have kf:=zi M (i:=i) (λj hj=>a1 j ())
  have b6:=zi M a1;obtain⟨w,S,hw,b9⟩:=hV.src hD;have c1:(lvF rs (q,[],0) i).2.length<=1200:=by
   rw[Y];refine E8 ?_ kf;cases i with
   |zero=>simp[lvs]
   |succ i=>rw[jk];omega
  have I:Yc A [V]=.ok (.int ((lvF rs (q,[],0) i).2.length:Nat)) A:=by
   rcases hV with rfl|⟨B,rfl,h⟩
   ·show Res.ok (PV.int (((lvF rs (q,[],0) i).2.map sdV).length:Nat)) A=_;rw[O1]
   ·have:=Q4x h;rw[this,O1]
  have J:(lvF rs (q,[],0) i).2≠[]:=λz=>a4 (.inr (by rw[<- Y];exact z))
  have ht:Yd [zo (Qi most q (rs.map ruV)),zo (.ref D),zo V,a3] A=.ok zb A:=by
   refine Qf (Q4 (Zp rfl I) rfl (Q0j A ?_));have:(lvF rs (q,[],0) i).2.length≠0:=λz=>J (fF z)
   omega
  have G:=S [];rw[G9]at G;have b0:∀s∈(lvF rs (q,[],0) i).2,SdI q.length a9 ws s:=λs hs=>k3 s (k2 s (by rw[<- Y];exact hs))
  rcases Q4z M G hw () b0 with⟨z,A1,e,g⟩|⟨s,hs,r,n,A1,h1,h2,h3,e,g⟩
  ·have d1:=g.at hD (λh=>h);have b5:FrAt A1 V (lvF rs (q,[],0) i).2:=by
    rcases hV with h|⟨B,h,hB⟩
    ·exact .inl h
    ·exact .inr ⟨B,h,g.at hB (λh=>h)⟩
   obtain⟨w1,a5,b8,b1⟩:=b5.src d1;have a2:((trp rs (lvF rs (q,[],0) i).2).foldl Jh ((lvF rs (q,[],0) i).1,[])).1.length<=2000:=by
    have:((lvF rs (q,[],0) (i+1)).1.map (·.1)).length<=1200:=by rw[c0];exact b6
    rw[O1]at this;exact E8 this (by decide)
   obtain⟨Z,ef,d2,f2,g2⟩:=Qcm M a5 b8 b1 b0 d1 () a2;obtain⟨A',gA,a8⟩:=ih (i+1) () m Z (.ref A1.length) (zo .non) d2 (.inr ⟨_,rfl,f2⟩);have O:∀r,J5 Yd Vv (m+j+2) [zo (Qi most q (rs.map ruV)),zo (.ref D),zo (.ref A1.length),zo .non] Z=r->J5 Yd Vv (m+(j+1)+2) [zo (Qi most q (rs.map ruV)),zo (.ref D),zo V,a3] A=r:=λr hr=>by
    rw[show m+(j+1)+2=(m+j+2)+1 from rfl];exact Ke ht (Q3 (Qh (Q5 (n:=2) rfl rfl e)) (Q3 (Z0 (Qf (Q4 rfl rfl rfl)) rfl) (Qh (Q5 (n:=3) rfl rfl ef)))) hr
   refine⟨A',((g.mono (λt _ h=>h.elim)).trans g2).trans gA,?_⟩;rcases a8 with⟨v,h1,h2,h3⟩|⟨V',b3,h1,h2⟩
   ·exact .inl ⟨v,O _ h1,h2,h3⟩
   ·exact .inr ⟨V',b3,O _ h1,h2⟩
  ·exfalso;refine a4 (.inl (dF.mpr ⟨s,by rw[<- Y];exact hs,dF.mpr ⟨r,E6 h1,?_⟩⟩));rw[h2,bY h3];rfl
def Qb3 S:Z2 [Qi most j rules] S=.ok (sdV (j,[],0)) S:=by
 have st:jf [zo (Qi most j rules)] S=.rt (sdV (j,[],0)) S:=rfl;have:=Zf (nl:=1) (ps:=[Qi most j rules]) st;unfold Z2;rw[this];exact Kk (Q2h _ _ _)
def Q5m{rs:List Ru}(M:MI2 most j rs I ws)(hN:N<=1250)(Y:Kc rs most (j,[],0) N)(G:∀i,i<N->¬Kc rs most (j,[],0) i)(S:Q0):∃v S',jz [Qi most j (rs.map ruV)] S=.ok v S'/\Gw (λ_=>False) S S'/\Qwk most j rs N S.length v S':=by
 have Z:(S++[Cell.dtp [(sdK (j,[],0),.non)]])[S.length]?=zo (.dtp (Qn pV (lvF rs (j,[],0) 0).1)):=Jf _ _;obtain⟨J,g,q⟩:=Qf4 M hN Y G (D:=S.length) N 0 () (99998-N) (S++[Cell.dtp [(sdK (j,[],0),.non)]]) (.lst [sdV (j,[],0)]) zl Z (.inl rfl);rw[show 99998-N+N+2=100000 by omega]at q;have h1:(J1 1 (zh (Qa 1 Z2 (Q1 (Q2 0) Q6)) (mC .non))) [zo (Qi most j (rs.map ruV)),zl,zl,zl] S=.nx [zo (Qi most j (rs.map ruV)),zo (.ref S.length),zl,zl] (S++[Cell.dtp [(sdK (j,[],0),.non)]]):=by
  refine Qh ?_;unfold zh;rw[Q5 (n:=1) (F:=Z2) rfl rfl (Qb3 S),Qy];show Qcu S .non (sdV (j,[],0))=_;unfold Qcu;rw[Q0w]
 have h2:(J1 2 (yy (Q1 (Qa 1 Z2 (Q1 (Q2 0) Q6)) Q6))) [zo (Qi most j (rs.map ruV)),zo (.ref S.length),zl,zl] (S++[Cell.dtp [(sdK (j,[],0),.non)]])=.nx [zo (Qi most j (rs.map ruV)),zo (.ref S.length),zo (.lst [sdV (j,[],0)]),zl] (S++[Cell.dtp [(sdK (j,[],0),.non)]]):=Qh (Qnb (Q8 (Q5 (n:=1) rfl rfl (Qb3 _)) rfl) (by simp));have U:Gw (λ_=>False) S J:=((Gw.add (λt=>t=S.length) S _).trans g).mono λt ht z=>by omega
 rcases q with⟨v,e,_,O⟩|⟨V',b3,e,O⟩
 ·exact⟨v,J,J4 (show Q0a [zo (Qi most j (rs.map ruV)),zl,zl,zl] S=_ from Q3 h1 (Q3 h2 (We e))),U,O⟩
 ·exact⟨_,J,J4 (show Q0a [zo (Qi most j (rs.map ruV)),zl,zl,zl] S=_ from Q3 h1 (Q3 h2 (Q3 e (Qw rfl)))),U,O⟩
def Qr5 i:∀s∈(lvs rs s0 i).1,s∈(lvs rs s0 (i+1)).1:=λs hs=>by
 obtain⟨ex,e,_⟩:=Y0 (nxt rs (lvs rs s0 i).2) (lvs rs s0 i).1 [];have e:lvs rs s0 (i+1)=_:=e;rw[e];exact F7 _ hs
def Qvg(h:i<=j):∀s∈(lvs rs s0 i).1,s∈(lvs rs s0 j).1:=by
 induction h with
|refl=>exact λs hs=>hs
|step _ q=>exact λs hs=>Qr5 _ s (q s hs)
def Qkc i(hs:s∈(lvs rs s0 i).2)(j:r∈rs)(q:fit r s=zb):stp r s∈(lvs rs s0 (i+1)).1:=by
 obtain⟨ex,e,_,g2,_⟩:=Y0 (nxt rs (lvs rs s0 i).2) (lvs rs s0 i).1 [];have e:lvs rs s0 (i+1)=_:=e;rw[e];exact g2 _ (N0.mpr ⟨s,hs,E3.mpr ⟨r,G6.mpr ⟨j,q⟩,rfl⟩⟩)
def Q49:∀i,∀s∈(lvs rs s0 i).1,∃j,j<=i/\s∈(lvs rs s0 j).2
|0,s,hs=>⟨0,O6 _,hs⟩
|i+1,s,hs=>by
  obtain⟨ex,e,_⟩:=Y0 (nxt rs (lvs rs s0 i).2) (lvs rs s0 i).1 [];have e:lvs rs s0 (i+1)=_:=e;have q:(lvs rs s0 (i+1)).2=ex:=by rw[e];simp
  rw[e]at hs;rcases E9.mp hs with hs|hs
  ·obtain⟨j,h1,h2⟩:=Q49 i s hs;exact⟨j,by omega,h2⟩
  ·exact⟨i+1,O6 _,by rw[q];exact hs⟩
def Q4a(I:(lvs rs s0 N).2=[])(hs:s∈(lvs rs s0 N).1)(z:r∈rs)(G:fit r s=zb):stp r s∈(lvs rs s0 N).1:=by
 obtain⟨j,J,h⟩:=Q49 N s hs
 by_cases q:j=N
 ·rw[q,I]at h;cases h
 ·exact Qvg () _ (Qkc j h z G)
def Qwr(rs:List Ru)(most:Int)(s0:Sd)(m:Nat):Prop:=∃s∈(lvs rs s0 m).1,∃r∈rs,fit r s=zb/\most<s.2.2+r.u
def Kn(rs:List Ru)(most:Int)(s0:Sd)(k:Int):Prop:=(k=1000000/\∀m,¬Qwr rs most s0 m)\/∃N:Nat,k=(N:Int)+1/\N<=1250/\Qwr rs most s0 N/\∀m,Qwr rs most s0 m->N<=m
def Xa(rs:List Ru)(s:Sd):Bool:=rs.all λr=>!(fit r s)||(evB r.e||decide (stp r s=s))
def Le(rs:List Ru):Nat->Sd->Prop
|0,s=>Xa rs s=zb
|d+1,s=>∃r∈rs,fit r s=zb/\Le rs d (stp r s)
def Ds(rs:List Ru)(s:Sd)(d:Nat):Prop:=Le rs d s/\∀j,j<d->¬Le rs j s
def Ds.uniq(h:Ds rs s a)(k:Ds rs s b):a=b:=by
 by_cases x:a<b
 ·exact absurd h.1 (k.2 a x)
 ·by_cases y:b<a
  ·exact absurd k.1 (h.2 b y)
  ·omega
def Qt8:∀d,Le rs d s->∃j,j<=d/\Ds rs s j
|d,h=>by
  induction d using im with
  |ind d J=>
   by_cases q:∃j,j<d/\Le rs j s
   ·obtain⟨j,G,I⟩:=q;obtain⟨i,hi,hd⟩:=J j G I;exact⟨i,by omega,hd⟩
   ·exact⟨d,O6 _,h,λj G z=>q ⟨j,G,z⟩⟩
def Q8f(h:Ds rs s (d+1)):∃r∈rs,fit r s=zb/\Ds rs (stp r s) d:=by
 obtain⟨⟨r,h1,h2,q⟩,h4⟩:=h;refine⟨r,h1,h2,q,λj G z=>h4 (j+1) () ⟨r,h1,h2,z⟩⟩
structure BL(rs:List Ru)(X:List Sd)(i:Nat)(G:List (Sd×Nat))(fr:List Sd):Prop where
nd:(G.map (·.1)).Nodup
x:∀e∈G,e.1∈X/\e.2<=i/\Ds rs e.1 e.2
a:∀s∈X,∀d,d<=i->Ds rs s d->(s,d)∈G
f:∀s,s∈fr<->(s,i)∈G
def BL.next(a1:∀s∈X,∀r∈rs,fit r s=zb->stp r s∈X){U:List Sd}(B:BL rs X i G U){ah:Sd->List Sd}(Z:∀s q,q∈ah s<->q∈X/\∃r∈rs,fit r q=zb/\stp r q=s):BL rs X (i+1) ((U.flatMap λs=>(ah s).map λq=>(q,i+1)).foldl Jh (G,[])).1 ((U.flatMap λs=>(ah s).map λq=>(q,i+1)).foldl Jh (G,[])).2:=by
 obtain⟨ys,J⟩:∃ys,(U.flatMap λs=>(ah s).map λq=>(q,i+1))=ys:=⟨_,rfl⟩
 have hy:∀e∈ys,e.2=i+1/\∃s∈U,e.1∈ah s:=λe I=>by
  rw[<- J]at I;obtain⟨s,hs,h⟩:=N0.mp I;obtain⟨q,hq,rfl⟩:=E3.mp h;exact⟨rfl,s,hs,hq⟩
 rw[J];obtain⟨ex,e1,e2,e3⟩:=W3 ys (G,[]);have Y:=jy ys (G,[]);obtain⟨nx,n1,n2,n3,n4⟩:=Y0 (ys.map (·.1)) (G.map (·.1)) [];rw[n1]at Y;have k1:(ys.foldl Jh (G,[])).1.map (·.1)=G.map (·.1)++nx:=congrArg bq Y;have e1:(ys.foldl Jh (G,[])).1=G++ex:=e1;have e2:(ys.foldl Jh (G,[])).2=ex.map (·.1):=by rw[e2];rfl
 rw[e1]at k1;rw[E5]at k1;have k2:ex.map (·.1)=nx:=List.append_cancel_left k1;have nd:((G++ex).map (·.1)).Nodup:=by rw[E5,k2];exact n4 B.nd
 have S:∀e∈ex,e.1∈X/\e.2=i+1/\Ds rs e.1 (i+1):=λe I=>by
  obtain⟨h1,s,hs,hq⟩:=hy e (e3 e I);obtain⟨hX,r,hr,hf,a3⟩:=(Z s e.1).mp hq;have O:=(B.x _ ((B.f s).mp hs)).2.2;refine⟨hX,h1,⟨r,hr,hf,by rw[a3];exact O.1⟩,λj hj z=>?_⟩
  obtain⟨j',a6,hd⟩:=Qt8 j z;have a2:=B.a e.1 hX j' () hd;rw[E5]at nd;exact(L7.mp nd).2.2 _ (E3.mpr ⟨_,a2,rfl⟩) _ (E3.mpr ⟨e,I,rfl⟩) rfl
 rw[e1,e2];refine⟨nd,λe I=>?_,λs hs d hd h=>?_,λs=>?_⟩
 ·rcases E9.mp I with I|I
  ·obtain⟨a,b,c⟩:=B.x e I;exact⟨a,by omega,c⟩
  ·obtain⟨a,b,c⟩:=S e I;exact⟨a,by omega,by rw[b];exact c⟩
 ·by_cases q:d<=i
  ·exact F7 _ (B.a s hs d q h)
  ·have a5:d=i+1:=by omega
   subst a5;obtain⟨r,hr,hf,O⟩:=Q8f h;have a4:s∈ys.map (·.1):=by
    have:stp r s∈U:=(B.f _).mpr (B.a _ (a1 s hs r hr hf) i (O6 _) O);rw[<- J];exact E3.mpr ⟨(s,i+1),N0.mpr ⟨_,this,E3.mpr ⟨s,(Z _ _).mpr ⟨hs,r,hr,hf,rfl⟩,rfl⟩⟩,rfl⟩
   have:=n3 s a4;rw[<- k1]at this;rcases E9.mp this with z|z
   ·obtain⟨e,I,rfl⟩:=E3.mp z;obtain⟨_,b,c⟩:=B.x e I;have:=c.uniq h;omega
   ·obtain⟨e,I,rfl⟩:=E3.mp z;have:=(S e I).2.1;exact F2 _ (by rw[<- this];exact I)
 ·constructor
  ·intro hs;obtain⟨e,I,rfl⟩:=E3.mp hs;have:=(S e I).2.1;exact F2 _ (by rw[<- this];exact I)
  ·intro h;rcases E9.mp h with h|h
   ·have:=(B.x _ h).2.1;simp at this;omega
   ·exact E3.mpr ⟨_,h,rfl⟩
def BL.fin(z:∀s∈X,∀r∈rs,fit r s=zb->stp r s∈X)(B:BL rs X i G []):∀s d,s∈X/\Ds rs s d<->(s,d)∈G:=by
 have j:∀k,∀s∈X,¬Ds rs s (i+k):=by
  intro k
  induction k with
  |zero=>
   intro s hs h;have:=(B.f s).mpr (B.a s hs i (O6 _) h);cases this
  |succ k I=>
   intro s hs h;obtain⟨r,h1,h2,J⟩:=Q8f h;exact I _ (z s hs r h1 h2) J
 intro s d;constructor
 ·rintro ⟨h1,h2⟩
  by_cases q:d<=i
  ·exact B.a s h1 d q h2
  ·have:=j (d-i) s h1;rw[show i+(d-i)=d by omega]at this;exact absurd h2 this
 ·intro h;obtain⟨a,_,c⟩:=B.x _ h;exact⟨a,c⟩
def BL.zero{X:List Sd}(nd:X.Nodup):BL rs X 0 ((X.filter (Xa rs)).map λs=>(s,0)) (X.filter (Xa rs)):=by
 refine⟨?_,λe z=>?_,λs hs d hd h=>?_,λs=>?_⟩
 ·rw[L4];show((X.filter (Xa rs)).map id).Nodup;rw[gO];exact nd.filter _
 ·obtain⟨s,hs,rfl⟩:=E3.mp z;obtain⟨h1,h2⟩:=G6.mp hs;exact⟨h1,O6 _,h2,λj G=>by omega⟩
 ·have hd:d=0:=by omega
  subst hd;exact E3.mpr ⟨s,G6.mpr ⟨hs,h.1⟩,rfl⟩
 ·constructor
  ·exact λh=>E3.mpr ⟨s,h,rfl⟩
  ·intro h;obtain⟨t,q,e⟩:=E3.mp h;cases e;exact q
def evS x:Xb ["go","fall"] x=evB x:=by
 unfold Xb evB;rw[N3,N3,jl,dM];congr 1<;>exact decide_eq_decide.mpr eq_comm
def Q3n{α:Type}[DecidableEq α](f:α->PV)(h:∀x y,peq (f x) (f y)=decide (x=y)):∀xs ys:List α,peqL (xs.map f) (ys.map f)=decide (xs=ys)
|[],[]=>rfl
|[],_::_=>rfl
|_::_,[]=>rfl
|x::xs,y::ys=>by
  rw[D3,D3];show(peq (f x) (f y)&&peqL (xs.map f) (ys.map f))=_;rw[h,Q3n f h xs ys,<- Bool.decide_and];exact decide_eq_decide.mpr (by rw[gL])
def Qje a b:peq (sdV a) (sdV b)=decide (a=b):=by
 have h1:peqL (a.1.map PV.str) (b.1.map PV.str)=decide (a.1=b.1):=Q3n PV.str (λx y=>by show(x==y)=_;rw[cV];simp) _ _
 have h2:peqL (a.2.1.map prV) (b.2.1.map prV)=decide (a.2.1=b.2.1):=Q3n prV Qj8 _ _;unfold sdV stV;show(peqL (a.1.map PV.str) (b.1.map PV.str)&&(peqL (a.2.1.map prV) (b.2.1.map prV)&&(a.2.2==b.2.2&&zb)))=_;rw[h1,h2,jO,cV];simp only[F3,decide_eq_true_eq,beq_iff_eq];constructor
 ·intro z;exact cw z.1 (cw z.2.1 z.2.2)
 ·intro z;rw[z];exact⟨rfl,rfl,rfl⟩
def Q2j s:good dep (sdV s)=zb:=by
 have a:∀{α:Type}(f:α->PV),(∀x,good 10 (f x)=zb)->∀l:List α,(l.map f).all (good 10)=zb:=λf h l=>by
  rw[cH];exact F4.mpr λx _=>h x
 show((s.1.map PV.str).all (good 10)&&((s.2.1.map prV).all (good 10)&&zb))=zb;rw[a _ λ_=>rfl,a _ λ_=>rfl];rfl
def Qzy S a b:oEq S (sdV a) (sdV b)=.ok (.bl (decide (a=b))) S:=by
 unfold oEq;rw[show der S (sdV a)=sdV a from rfl,show der S (sdV b)=sdV b from rfl,bU ⟨Q2j a,Q2j b⟩,Qje]
def Qmi(h:good 12 v=zb):fin S v (S++T)=.ok v S:=by
 unfold fin;rw[bU (dw S T),Q8a h (by decide)];rfl
def Q8e{rs:List Ru}(s:Sd)(h:rs.length<=9):(jt rs s.1 s.2.1).length<=9:=by
 unfold jt;have:=da (λp:Ru×Nat=>Q0k p.1 s.1 s.2.1) rs.zipIdx;rw[fG]at this;omega
def Qpn{most:Int}{j:List Str}{rs:List Ru}{J ws:List Str}(M:MI2 most j rs J ws){s:Sd}(I:SdI j.length J ws s)(S:Q0):Uc [Qi most j (rs.map ruV),sdV s] S=.ok (.bl (Xa rs s)) S:=by
 obtain⟨zs,q⟩:∃zs,jt rs s.1 s.2.1=zs:=⟨_,rfl⟩;have Z:=Q8e (rs:=rs) s M.len;have hz:∀p∈zs,rs[p.2]?=zo p.1:=λp z=>(Q1n (by rw[q];exact z)).1
 have O:=Q7q M I S;rw[q]at Z O;obtain⟨S1,G⟩:∃S1,S++[Cell.lst (zs.map nV)]=S1:=⟨_,rfl⟩;rw[G]at O;have U:S1[S.length]?=zo (.lst (zs.map nV)):=by rw[<- G];exact Jf _ _
 have c1:=jv (ga:=Qb 0) (me:=K8) (w:=[(S.length,.lst (zs.map nV))]) (Γ0:=[zl,zo (Qi most j (rs.map ruV))]) (st:=S1) nV (λp=>ruV p.1) (Xd U) (ys:=zs) λp z=>⟨_,rfl,Q4 (Q4 rfl rfl rfl) rfl (rix (hz p z) S1)⟩
 have Y:=zu (ga:=Qb 0) (mt:=Xp) (me:=K7) (w:=[]) (Γ0:=[zl]) (st:=S1) (λp:Ru×Nat=>ruV p.1) (λp=>ruV p.1) (λp=>!evB p.1.e) (Qr _) (ys:=zs) λp _=>⟨_,rfl,Qf ((Qcj (x:=p.1.e) (Q4 rfl rfl rfl)).trans (by rw[evS];cases evB p.1.e<;>rfl)),λ_=>rfl⟩
 have c3:=jv (ga:=Qb 0) (me:=K6) (w:=[]) (Γ0:=[zl,zo (sdV s)]) (st:=S1) (λp:Ru×Nat=>ruV p.1) (λp=>.bl (decide (stp p.1 s=s))) (Qr _) (ys:=zs.filter λp=>!evB p.1.e) λp z=>⟨_,rfl,Q4 (Q5 (n:=2) (Q8 rfl (Q8 rfl rfl)) rfl (Qd4 M I (E6 (hz p (G6.mp z).1)) S1)) rfl (Qzy S1 _ _)⟩
 have fl:=da (λp:Ru×Nat=>!evB p.1.e) zs;have hb:jw (λns=>PV.bl (ns.all id)) S1 [.lst ((zs.filter λp=>!evB p.1.e).map λp=>.bl (decide (stp p.1 s=s)))]=.ok (.bl (Xa rs s)) S1:=by
  have:=Qn7 S1 ((zs.filter λp=>!evB p.1.e).map λp=>decide (stp p.1 s=s))
  rw[L4]at this;refine this.trans ?_;congr 2;unfold Xa;rw[cH,cV,F4,F4];constructor
  ·intro h r hr;cases f:fit r s with
   |false=>rfl
   |true=>
    cases g:evB r.e with
    |true=>rfl
    |false=>
     obtain⟨k,hk⟩:=fH.mp hr;have:(r,k)∈zs:=by rw[<- q];exact G6.mpr ⟨N2.mpr hk,f⟩
     exact h (r,k) (G6.mpr ⟨this,by simp[g]⟩)
  ·intro h p z;obtain⟨h1,h2⟩:=G6.mp z;have f:=(Q1n (rs:=rs) (s:=s) (by rw[q];exact h1)).2;have:=h p.1 (E6 (hz p h1));rw[f]at this;have g:evB p.1.e=yo:=by simpa using h2
   rw[g]at this;exact this
 have st:Xh [zo (Qi most j (rs.map ruV)),zo (sdV s),zl,zl] S=.rt (.bl (Xa rs s)) S1:=Q3 (Qh (Ue (Yu (Z1 (Q5 (n:=2) (Q8 rfl (Q8 rfl rfl)) rfl O) (Uu U) (by rw[O1];omega)) c1))) (Q3 (Qh (Ue (Yu (Z1 rfl rfl (by rw[O1];omega)) Y))) (Qw (Zp (Q8 (Ue (Yu (Z1 rfl rfl (by rw[O1];omega)) c3)) rfl) hb)));rw[<- G]at st;exact(Zf (m:=Xh) (nl:=4) (ps:=[Qi most j (rs.map ruV),sdV s]) st).trans (Qmi rfl)
def ahV(b k:Nat):PV:=.ref (b+k)
def fE(es:List (Sd×Sd))(s:Sd):List Sd:=(es.filter λe=>decide (e.1=s)).map (·.2)
structure AH(X:List Sd)(b D:Nat)(es:List (Sd×Sd))(st:Q0):Prop where
d:st[D]?=zo (.dtp (Qn (ahV b) X.zipIdx))
c:∀k s,X[k]?=zo s->st[b+k]?=zo (.lst ((fE es s).map sdV))
def Qh9{X:List Sd}(h:X.Nodup):(X.zipIdx.map (·.1)).Nodup:=by
 rw[show X.zipIdx.map (·.1)=X from List.zipIdx_map_fst 0 X];exact h
def AH.gw{X:List Sd}{P:Nat->Prop}(a:AH X b D es A)(g:Gw P A j)(G:¬P D)(z:∀k,k<X.length->¬P (b+k)):AH X b D es j:=⟨g.at a.d G,λk s q=>g.at (a.c k s q) (z k (O0.mp q).1)⟩
def Qrw es t q s:fE (es++[(t,q)]) s=fE es s++if t=s then[q]else[]:=by
 unfold fE;rw[List.filter_append,E5];congr 1
 by_cases h:t=s<;>simp[h]
def Qmj(es:List (Sd×Sd))s:(fE es s).length<=es.length:=by
 unfold fE;rw[O1];exact da _ _
def Qta {most:Int} {j:List Str} {rs:List Ru} {O ws:List Str} (M:MI2 most j rs O ws) {X:List Sd} (nd:X.Nodup) (hX:∀s∈X,SdI j.length O ws s) (S:∀s∈X,∀r∈rs,fit r s=zb->stp r s∈X) {b D:Nat} (a2:b+X.length=D) {V:PV} {q:Sd} (hq:q∈X) {w:Wt} (hw:∀x∈w,¬(b<=x.1/\x.1<D)):∀(ks:List (Ru×Nat))(es:List (Sd×Sd))(A:Q0)(a4:Option PV),(∀p∈ks,p∈jt rs q.1 q.2.1)->AH X b D es A->wOk w A->es.length+ks.length<=100000->
  ∃Y J,Jv (Qb 4) Vw w (ks.map nV) [zo (Qi most j (rs.map ruV)),zo V,zo (.ref D),zo (sdV q),a4] A=.nx [zo (Qi most j (rs.map ruV)),zo V,zo (.ref D),zo (sdV q),J] Y/\AH X b D (es++ks.map λp=>(stp p.1 q,q)) Y/\Gw (λt=>b<=t/\t<D) A Y
|[],es,A,a4,_,H,I,_=>⟨A,a4,Z3 I,by rw[fc,G9];exact H,Gw.refl _ _⟩
|p::ks,es,A,a4,hk,H,I,hl=>by
  obtain⟨h1,h2⟩:=Q1n (hk p E7);have hr:=E6 h1;have ht:=S q hq p.1 hr h2;obtain⟨k,G⟩:=fH.mp ht;have a3:=(O0.mp G).1;have hc:=H.c k _ G;have hg:=ju (ahV b) H.d (Qh9 nd) (t:=stp p.1 q) (a:=k) (N2.mpr G);have fl:=Qmj es (stp p.1 q);rw[D6]at hl;have U:=qe hc (by rw[O1];omega) (sdV q);have Z:=(O0.mp hc).1;have g1:Gw (λt=>b<=t/\t<D) A (A.set (b+k) (.lst ((fE es (stp p.1 q)).map sdV++[sdV q]))):=Gw.put A ⟨by omega,by omega⟩ _;have H1:AH X b D (es++[(stp p.1 q,q)]) (A.set (b+k) (.lst ((fE es (stp p.1 q)).map sdV++[sdV q]))):=by
   refine⟨g1.at H.d (),λk' s hs=>?_⟩;rw[Qrw]
   by_cases e:k'=k
   ·subst e;rw[G]at hs;cases hs;rw[D9 Z,bU rfl,E5];rfl
   ·have a1:stp p.1 q≠s:=λz=>e (by
     rw[<- z,<- G]at hs;exact((List.getElem?_inj (O0.mp G).1 nd).mp hs.symm).symm)
    rw[E2 (),bV a1,G9];exact H.c k' s hs
  obtain⟨Y,J,e,H',g'⟩:=Qta M nd hX S a2 hq hw ks (es++[(stp p.1 q,q)]) _ (zo (nV p)) (λx hx=>hk x (O3 _ hx)) H1 (g1.w I hw) (by rw[O5,M0];omega)
  refine⟨Y,J,J0 I rfl (xm (K5 rfl (Q5 (n:=2) (Q8 (Q4 (Q4 rfl rfl rfl) rfl (rix h1 A)) (Q8 rfl rfl)) rfl (Qd4 M (hX q hq) hr A)) hg) (Zv hc) (Q8 rfl rfl) U) e,?_,g1.trans g'⟩;rw[D3,gQ];exact H'
def Q1q(rs:List Ru)(X:List Sd):List (Sd×Sd):=X.flatMap λq=>(jt rs q.1 q.2.1).map λp=>(stp p.1 q,q)
def Qnh{j:List Str}{rs:List Ru}(M:MI2 most j rs I ws){X:List Sd}(nd:X.Nodup)(hX:∀s∈X,SdI j.length I ws s)(J:∀s∈X,∀r∈rs,fit r s=zb->stp r s∈X)(O:b+X.length=D){V:PV}:∀(G:List Sd)(es:List (Sd×Sd))A Z S,(∀q∈G,q∈X)->AH X b D es A->es.length+9*G.length<=100000->
  ∃Y a1 a2,Jv (Qb 3) Vx [] (G.map sdV) [zo (Qi most j (rs.map ruV)),zo V,zo (.ref D),Z,S] A=.nx [zo (Qi most j (rs.map ruV)),zo V,zo (.ref D),a1,a2] Y/\AH X b D (es++Q1q rs G) Y/\Gw (λt=>b<=t/\t<D) A Y
|[],es,A,Z,S,_,H,_=>⟨A,Z,S,Z3 (Qr _),by unfold Q1q;rw[List.flatMap_nil,G9];exact H,Gw.refl _ _⟩
|q::G,es,A,Z,S,hq,H,hl=>by
  have U:=hq q E7;have a6:=Q8e (rs:=rs) q M.len;rw[D6]at hl;have a5:=(O0.mp H.d).1;have gA:Gw (λ_=>False) A (A++[.lst ((jt rs q.1 q.2.1).map nV)]):=Gw.add _ _ _;obtain⟨A1,c4,e1,H1,g1⟩:=Qta M nd hX J O (V:=V) U (w:=[(A.length,.lst ((jt rs q.1 q.2.1).map nV))]) (λx hx=>by
   rw[show x=(A.length,.lst ((jt rs q.1 q.2.1).map nV)) by simpa using hx];omega) (jt rs q.1 q.2.1) es (A++[.lst ((jt rs q.1 q.2.1).map nV)]) S (λp hp=>hp) (H.gw gA id λ_ _=>id) (Xd (Jf _ _)) ()
  obtain⟨Y,b3,b4,e,H',g'⟩:=Qnh M nd hX J O G _ A1 (zo (sdV q)) c4 (λx hx=>hq x (O3 _ hx)) H1 (by rw[O5,O1];omega)
  refine⟨Y,b3,b4,J0 (Qr _) rfl (Jp (Z1 (Q5 (n:=2) (Q8 rfl (Q8 rfl rfl)) rfl (Q7q M (hX q U) A)) (Uu (Jf _ _)) (by rw[O1];omega)) e1) e,?_,((gA.mono λ_ _ z=>z.elim).trans g1).trans g'⟩;unfold Q1q at H' ⊢;rw[db,<- dA];exact H'
def Qiv{α:Type}(f:α->PV):∀(G K:List (Sd×α)),((K++G).map (·.1)).Nodup->za (Qn f K) (Qn f G)=Qn f (K++G)
|[],K,_=>by rw[G9];rfl
|x::G,K,h=>by
  have h':((K++[x]++G).map (·.1)).Nodup:=by rw[<- gQ];exact h
  have j:x.1∉K.map (·.1):=λz=>by
   rw[E5,D3]at h;exact(L7.mp h).2.2 _ z _ E7 rfl
  show za (Sm.putT (Qn f K) (sdK x.1) (f x.2)) (Qn f G)=_;rw[Qds f j,Qiv f G _ h',<- gQ]
def Q9p{α:Type}(f:α->PV):∀G:List (Sd×α),Q10 (G.map λe=>.tup [sdV e.1,f e.2])=zo (Qn f G)
|[]=>rfl
|x::G=>by
  rw[D3,Q10,Q0w,Q9p f G];rfl
def Qen{α:Type}(f:α->PV){G:List (Sd×α)}(nd:(G.map (·.1)).Nodup)(j:G.length<=100000)(S:Q0):xh S [.lst (G.map λe=>.tup [sdV e.1,f e.2])]=.ok (.ref S.length) (S++[.dtp (Qn f G)]):=by
 unfold xh;simp only[Q9p];rw[bU (by unfold Qn;rw[O1,Q1e];omega)];have:=Qiv f G [] nd;rw[eL]at this;show Res.ok (PV.ref S.length) (S++[Cell.dtp (za (Qn f []) (Qn f G))])=_;rw[this]
def Qng{j:List Str}{rs:List Ru}(M:MI2 most j rs G ws){X:List Sd}(nd:X.Nodup)(hX:∀s∈X,SdI j.length G ws s)(I:∀s∈X,∀r∈rs,fit r s=zb->stp r s∈X)(hl:X.length<=2000)(S:Q0):∃S',Yk [Qi most j (rs.map ruV),.lst (X.map sdV)] S=.ok (.ref (S.length+X.length)) S'/\AH X S.length (S.length+X.length) (Q1q rs X) S'/\Gw (λ_=>False) S S':=by
 obtain⟨z,S1,e1,O,rfl⟩:=zw sdV (xs:=X) (λi z st=>z=((X.take i).zipIdx).map (λe=>.tup [sdV e.1,ahV S.length e.2])/\st=S++bh i (.lst [])) (ga:=Qb 0) (me:=Vu) (w:=[]) (Γ0:=[zl]) (st:=S)
  (λ_ _ st _=>Qr st)
  (λi x z st Y ⟨h1,h2⟩=>by
   subst h1;subst h2;refine⟨_,rfl,.tup [sdV x,ahV S.length i],S++bh (i+1) (.lst []),?_,?_,rfl⟩
   ·have e:Yr (Q1 (Q2 0) (Q1 (qu (qk Q6)) Q6)) [zo (sdV x)] (S++bh i (.lst []))=.ok (.tup [sdV x,.ref (S++bh i (Cell.lst [])).length]) ((S++bh i (.lst []))++[.lst []]):=Xn (Q8 rfl (Q8 (Vh rfl) rfl)) (fI rfl);refine e.trans ?_;rw[O5,fT,dA,<- List.replicate_succ' (n:=i)];rfl
   ·have hi:=(O0.mp Y).1;rw[gK,Y];show _=((X.take i++[x]).zipIdx).map _;rw[List.zipIdx_append,E5,cN,gC,eJ ()];rfl)
  ⟨rfl,by simp⟩
 rw[dq]at O;subst O;have U:=Qen (ahV S.length) (Qh9 nd) (by rw[fG];omega) (S++bh X.length (.lst []));have q:(S++bh X.length (Cell.lst [])).length=S.length+X.length:=by rw[O5,fT]
 rw[q]at U;have H0:AH X S.length (S.length+X.length) [] ((S++bh X.length (.lst []))++[.dtp (Qn (ahV S.length) X.zipIdx)]):=by
  refine⟨by rw[<- q];exact Jf _ _,λk s hk=>?_⟩;have J:=(O0.mp hk).1;rw[O7 (by rw[q];omega),E4 (),Nat.add_sub_cancel_left,fS,bU J];rfl
 obtain⟨A',a3,a4,e3,H',g'⟩:=Qnh M nd hX I rfl (V:=.lst (X.map sdV)) X [] _ zl zl (λ_ h=>h) H0 (by rw[cO];omega);refine⟨A',J4 (m:=X5) (nl:=5) (ps:=[Qi most j (rs.map ruV),.lst (X.map sdV)]) (Q3 (Qh (Zp (Q8 (Ue (Yu (Z1 rfl rfl (by rw[O1];omega)) e1)) rfl) U)) (Q3 (Jp (Z1 rfl rfl (by rw[O1];omega)) e3) (Qw rfl))),by rw[eL]at H';exact H',?_⟩;refine⟨by have:=g'.len;rw[O5,q]at this;omega,λt Z _=>?_⟩;rw[g'.keep t (by rw[O5,q];omega) (),O7 (by rw[q];omega),O7 Z]
def Qex{X:List Sd}(nd:X.Nodup)(O:∀s∈X,∀r∈rs,fit r s=zb->stp r s∈X)s q:q∈fE (Q1q rs X) s<->q∈X/\∃r∈rs,fit r q=zb/\stp r q=s:=by
 unfold fE Q1q;rw[E3];constructor
 ·rintro ⟨e,I,rfl⟩;obtain⟨h1,h2⟩:=G6.mp I;obtain⟨q,j,J⟩:=N0.mp h1;obtain⟨p,S,rfl⟩:=E3.mp J;obtain⟨a,b⟩:=Q1n S;exact⟨j,p.1,E6 a,b,of_decide_eq_true h2⟩
 ·rintro ⟨j,r,z,G,rfl⟩;obtain⟨k,U⟩:=fH.mp z;exact⟨(stp r q,q),G6.mpr ⟨N0.mpr ⟨q,j,E3.mpr ⟨(r,k),G6.mpr ⟨N2.mpr U,G⟩,rfl⟩⟩,by simp⟩,rfl⟩
def nN(k:Nat):PV:=.int (k:Int)
abbrev stG(m V:PV)(D:Nat)(f:PV)(D2:Nat)(a5 a6 a7:Option PV):Gam:=[zo m,zo V,zo (.ref D),zo f,zo (.ref D2),a5,a6,a7]
def Qip {m V f:PV} {D J Fi:Nat} (Z:J≠Fi) {s:Sd} {i:Nat} {w:Wt} (hw:∀x∈w,¬(x.1=J\/x.1=Fi)):∀(qs:List Sd)(G:List (Sd×Nat))(j:List Sd)(A:Q0)(a7:Option PV),A[J]?=zo (.dtp (Qn nN G))->A[Fi]?=zo (.lst (j.map sdV))->wOk w A->(G.map (·.1)).Nodup->(s,i)∈G->G.length+qs.length<=200000->j.length<=G.length->
  ∃A' O,Jv (Qb 7) V6 w (qs.map sdV) (stG m V D f J (zo (.ref Fi)) (zo (sdV s)) a7) A=.nx (stG m V D f J (zo (.ref Fi)) (zo (sdV s)) O) A'/\A'[J]?=zo (.dtp (Qn nN ((qs.map λq=>(q,i+1)).foldl Jh (G,j)).1))/\A'[Fi]?=zo (.lst (((qs.map λq=>(q,i+1)).foldl Jh (G,j)).2.map sdV))/\Gw (λt=>t=J\/t=Fi) A A'
|[],G,j,A,a7,hD,hF,I,_,_,_,_=>⟨A,a7,Z3 I,hD,hF,Gw.refl _ _⟩
|q::qs,G,j,A,a7,hD,hF,I,hn,hs,hl,a6=>by
  rw[D6]at hl;have a1:=Q6i nN hD q zb;simp only[D3,F8]
  by_cases z:q∈G.map (·.1)
  ·have S:Jh (G,j) (q,i+1)=(G,j):=by unfold Jh;rw[bU z]
   rw[S];rw[bY z]at a1;obtain⟨A',O,e,h⟩:=Qip Z hw qs G j A (zo (sdV q)) hD hF I hn hs () a6;exact⟨A',O,J0 I rfl (Z0 (Qf (Q4 rfl rfl a1)) rfl) e,h⟩
  ·have S:Jh (G,j) (q,i+1)=(G++[(q,i+1)],j++[q]):=by unfold Jh;rw[bV z]
   rw[S];rw[bW z]at a1;have a3:=ju nN hD hn hs;have a2:=Q1p nN hD () z (i+1);have a8:=(O0.mp hD).1;obtain⟨A1,Y⟩:∃A1,A.set J (.dtp (Qn nN (G++[(q,i+1)])))=A1:=⟨_,rfl⟩;rw[Y]at a2;have d1:A1[J]?=zo (.dtp (Qn nN (G++[(q,i+1)]))):=by rw[<- Y];exact D9 a8
   have f1:A1[Fi]?=zo (.lst (j.map sdV)):=by rw[<- Y,E2 Z];exact hF
   have a5:=(O0.mp f1).1;obtain⟨A2,U⟩:∃A2,A1.set Fi (.lst ((j++[q]).map sdV))=A2:=⟨_,rfl⟩;have d2:A2[J]?=zo (.dtp (Qn nN (G++[(q,i+1)]))):=by rw[<- U,E2 (Ne.symm Z)];exact d1
   have f2:A2[Fi]?=zo (.lst ((j++[q]).map sdV)):=by rw[<- U];exact D9 a5
   have g2:Gw (λt=>t=J\/t=Fi) A A2:=by rw[<- U,<- Y];exact(Gw.put A (.inl rfl) _).trans (Gw.put _ (.inr rfl) _)
   have a4:Jg A1 (.ref Fi) [sdV q]=.ok .non A2:=by rw[qe f1 (by rw[O1];omega),<- U,E5];rfl
   obtain⟨A',O,e,h1,h2,h3⟩:=Qip Z hw qs (G++[(q,i+1)]) (j++[q]) A2 (zo (sdV q)) d2 f2 (g2.w I hw) (by
    rw[E5];refine L7.mpr ⟨hn,by simp,λa ha c hc e=>z ?_⟩;rw[<- show c=q by simpa using hc,<- e];exact ha) (F7 _ hs) (by rw[O5,M0];omega) (by rw[O5,O5,M0,M0];omega)
   exact⟨A',O,J0 I rfl (Wn (Qf (Q4 rfl rfl a1)) (Q3 (Ys (Q4 (K5 rfl rfl a3) rfl (Q8n _ _ _)) rfl rfl a2) (xm rfl (Zv f1) (Q8 rfl rfl) a4))) e,h1,h2,g2.trans h3⟩
def Qb6{rs:List Ru}(h:rs.length<=9):∀X:List Sd,(Q1q rs X).length<=9*X.length
|[]=>O6 _
|q::X=>by
  have:=Qb6 h X;have hd:=Q8e (rs:=rs) q h;unfold Q1q at*;rw[db,O5,O1,D6];omega
def Qin {X:List Sd} (nd:X.Nodup) {m V f:PV} {b D I Fi:Nat} (a8:b+X.length=D) (b1:D<I) (a9:I<Fi) {es:List (Sd×Sd)} (a4:es.length<=100000) {i:Nat} {w:Wt} (hw:∀x∈w,¬(x.1=I\/x.1=Fi)):∀(S:List Sd)(G:List (Sd×Nat))(j:List Sd)(A:Q0)(a6 a7:Option PV),(∀s∈S,s∈X)->A[I]?=zo (.dtp (Qn nN G))->A[Fi]?=zo (.lst (j.map sdV))->wOk w A->AH X b D es A->(G.map (·.1)).Nodup->(∀s∈S,(s,i)∈G)->(∀e∈G,e.1∈X)->(∀s q,q∈fE es s->q∈X)->j.length<=G.length->X.length<=2000->
  ∃Z b0 a5,Jv (Qb 6) V7 w (S.map sdV) (stG m V D f I (zo (.ref Fi)) a6 a7) A=.nx (stG m V D f I (zo (.ref Fi)) b0 a5) Z/\Z[I]?=zo (.dtp (Qn nN ((S.flatMap λs=>(fE es s).map λq=>(q,i+1)).foldl Jh (G,j)).1))/\Z[Fi]?=zo (.lst (((S.flatMap λs=>(fE es s).map λq=>(q,i+1)).foldl Jh (G,j)).2.map sdV))/\Gw (λt=>t=I\/t=Fi) A Z
|[],G,j,A,a6,a7,_,hD,hF,O,_,_,_,_,_,_,_=>⟨A,a6,a7,Z3 O,hD,hF,Gw.refl _ _⟩
|s::S,G,j,A,a6,a7,a1,hD,hF,O,H,hn,hi,hG,hE,a3,hl=>by
  obtain⟨k,hk⟩:=fH.mp (a1 s E7);have b2:=(O0.mp hk).1;have hc:=H.c k s hk;have hg:=ju (ahV b) H.d (Qh9 nd) (t:=s) (a:=k) (N2.mpr hk);have fl:=Qmj es s;have gl:G.length<=2000:=by
   have:=Yn hn (λx J=>by
    obtain⟨e,he,rfl⟩:=E3.mp J;exact hG e he:∀x∈G.map (·.1),x∈X)
   rw[O1]at this;omega
  obtain⟨A1,c7,e1,d1,f1,g1⟩:=Qip (m:=m) (V:=V) (f:=f) (D:=D) (show I≠Fi by omega) (s:=s) (i:=i) (w:=[(b+k,.lst ((fE es s).map sdV))]) (λx J=>by
   rw[show x=(b+k,.lst ((fE es s).map sdV)) by simpa using J];show ¬(b+k=I\/b+k=Fi);omega) (fE es s) G j A a7 hD hF (Xd hc) hn (hi s E7) () a3
  obtain⟨ex,p1,p2,p3⟩:=W3 ((fE es s).map λq=>(q,i+1)) (G,j)
  have a2:=jy ((fE es s).map λq=>(q,i+1)) (G,j)
  obtain⟨nx,n1,n2,_,n4⟩:=Y0 (((fE es s).map λq=>(q,i+1)).map (·.1)) (G.map (·.1)) j
  rw[n1]at a2;have k1:(((fE es s).map λq=>(q,i+1)).foldl Jh (G,j)).1.map (·.1)=G.map (·.1)++nx:=congrArg bq a2
  obtain⟨Y,U⟩:∃Y,((fE es s).map λq=>(q,i+1)).foldl Jh (G,j)=Y:=⟨_,rfl⟩
  rw[U]at d1 f1 p1 p2 k1;have p1:Y.1=G++ex:=p1;have p2:Y.2=j++ex.map (·.1):=p2;obtain⟨Z,b6,b7,e,h1,h2,h3⟩:=Qin nd a8 b1 a9 a4 hw S Y.1 Y.2 A1 (zo (sdV s)) c7 (λx J=>a1 x (O3 _ J)) d1 f1 (g1.w O hw) (H.gw g1 () λk hk=>by omega) (by rw[k1];exact n4 hn) (λx J=>by rw[p1];exact F7 _ (hi x (O3 _ J))) (λx J=>by
   rw[p1]at J;rcases E9.mp J with z|z
   ·exact hG x z
   ·obtain⟨q,hq,rfl⟩:=E3.mp (p3 x z);exact hE s q hq) hE (by rw[p1,p2,O5,O5,O1];omega) hl
  refine⟨Z,b6,b7,J0 O rfl (Jp (Z1 (K5 rfl rfl hg) (Uu hc) (by rw[O1];omega)) e1) e,?_,?_,g1.trans h3⟩
  ·rw[db,dX,U];exact h1
  ·rw[db,dX,U];exact h2
def Qp1 {most:Int} {I:List Str} {rs:List Ru} {a1 ws:List Str} (M:MI2 most I rs a1 ws) {X:List Sd} (nd:X.Nodup) (hX:∀s∈X,SdI I.length a1 ws s) (Z:∀s∈X,∀r∈rs,fit r s=zb->stp r s∈X) (hl:X.length<=2000) {V:PV} {b D O:Nat} (a9:b+X.length=D) (b0:D<O):∀(j m i:Nat)(G:List (Sd×Nat))(J:List Sd)(A:Q0)(F:PV)(a5 a6 a7:Option PV),X.length+1-i<=j->BL rs X i G J->(i+J.length<=G.length)->A[O]?=zo (.dtp (Qn nN G))->FrAt A F J->(∀R,F=.ref R->O<R)->AH X b D (Q1q rs X) A->
  ∃A' G' U i',J5 Wq V8 (m+j+1) (stG (Qi most I (rs.map ruV)) V D F O a5 a6 a7) A=.nx U A'/\Q2 4 U A'=.ok (.ref O) A'/\BL rs X i' G' []/\A'[O]?=zo (.dtp (Qn nN G'))/\Gw (λt=>O<=t) A A':=by
 intro j
 induction j with
|zero=>
  intro m i G J A F a5 a6 a7 hj B hi hD hF hR H;have gl:G.length<=X.length:=by
   have:=Yn B.nd (λx S=>by
    obtain⟨e,he,rfl⟩:=E3.mp S;exact(B.x e he).1:∀x∈G.map (·.1),x∈X)
   rw[O1]at this;exact this
  omega
|succ j ih=>
  intro m i G J A F a5 a6 a7 hj B hi hD hF hR H;have gl:G.length<=X.length:=by
   have:=Yn B.nd (λx S=>by
    obtain⟨e,he,rfl⟩:=E3.mp S;exact(B.x e he).1:∀x∈G.map (·.1),x∈X)
   rw[O1]at this;exact this
  have Y:Yc A [F]=.ok (.int (J.length:Nat)) A:=by
   rcases hF with rfl|⟨R,rfl,e⟩
   ·rw[Qmz,O1]
   ·rw[Q4x e,O1]
  cases J with
  |nil=>
   refine⟨A,G,stG (Qi most I (rs.map ruV)) V D F O a5 a6 a7,i,?_,rfl,B,hD,Gw.refl _ _⟩;exact Vg (Qf (Q4 (Zp (Q8 rfl rfl) Y) rfl (Q1x A (by simp))))
  |cons s0 J=>
   have a2:=(O0.mp hD).1;have gA:Gw (λ_=>False) A (A++[.lst []]):=Gw.add _ _ _;have b4:FrAt (A++[.lst []]) F (s0::J):=by
    rcases hF with h|⟨R,h,e⟩
    ·exact .inl h
    ·exact .inr ⟨R,h,gA.at e id⟩
   obtain⟨w,a4,b1,a8⟩:∃w,Ve (A++[.lst []]) F=zo ((s0::J).map sdV,w)/\wOk w (A++[.lst []])/\∀x∈w,¬(x.1=O\/x.1=A.length):=by
    rcases hF with h|⟨R,h,e⟩
    ·exact⟨[],by rw[h];rfl,Qr _,λx S=>by cases S⟩
    ·have e1:=gA.at e id;have b3:=(O0.mp e).1;refine⟨_,by rw[h];exact Uu e1,Xd e1,λx S=>?_⟩;rw[show x=(R,.lst ((s0::J).map sdV)) by simpa using S];have:=hR R h;show ¬(R=O\/R=A.length);omega
   have b2:=Qb6 (rs:=rs) M.len X;have b5:(s0::J).length<=2000:=by omega
   obtain⟨A1,c6,c7,e1,d1,f1,g1⟩:=Qin nd (m:=Qi most I (rs.map ruV)) (V:=V) (f:=F) a9 b0 (Fi:=A.length) () (es:=Q1q rs X) () (i:=i) a8 (s0::J) G [] (A++[.lst []]) a6 a7 (λx S=>(B.x _ ((B.f x).mp S)).1) (gA.at hD id) (Jf _ _) b1 (H.gw gA id λ_ _=>id) B.nd (λx S=>(B.f x).mp S) (λe he=>(B.x e he).1) (λs q hq=>((Qex nd Z s q).mp hq).1) (G8 _) hl
   have B':=B.next Z (ah:=fE (Q1q rs X)) (Qex nd Z);obtain⟨G1,a3⟩:∃G1,((s0::J).flatMap λs=>(fE (Q1q rs X) s).map λq=>(q,i+1)).foldl Jh (G,[])=G1:=⟨_,rfl⟩
   rw[a3]at d1 f1 B';obtain⟨ex,p1,p2,_⟩:=W3 ((s0::J).flatMap λs=>(fE (Q1q rs X) s).map λq=>(q,i+1)) (G,[])
   rw[a3]at p1 p2;have p1:G1.1=G++ex:=p1;have p2:G1.2=ex.map (·.1):=by rw[p2];rfl
   rw[D6]at hi;have gg:Gw (λt=>O<=t) A A1:=(gA.mono (Q:=λt=>O<=t) λ_ _ z=>z.elim).trans (g1.mono λt _ z=>by rcases z with z|z<;>omega)
   obtain⟨A',G',U,i',e,h1,h2,h3,h4⟩:=ih m (i+1) G1.1 G1.2 A1 (.ref A.length) (zo (.ref A.length)) c6 c7 () B' (by rw[p1,p2,O5,O1];omega) d1 (.inr ⟨_,rfl,f1⟩) (λR hR=>by cases hR;exact a2) ((H.gw gA id λ_ _=>id).gw g1 () λk hk=>by omega)
   refine⟨A',G',U,i',Ke (Qf (Q4 (Zp (Q8 rfl rfl) Y) rfl (Q0j A (by rw[D6];omega)))) (Q3 (Qh (Vh rfl)) (Q3 (Jp (Z1 rfl a4 (by rw[O1];omega)) e1) (Qh rfl))) e,h1,h2,h3,gg.trans h4⟩
def Qhp{j:List Str}{rs:List Ru}(M:MI2 most j rs I ws){X:List Sd}(nd:X.Nodup)(U:∀s∈X,SdI j.length I ws s)(q:∀s∈X,∀r∈rs,fit r s=zb->stp r s∈X)(Y:X.length<=2000)(S:Q0):∃S' J G,Zy [Qi most j (rs.map ruV),.lst (X.map sdV)] S=.ok (.ref J) S'/\S'[J]?=zo (.dtp (Qn nN G))/\(G.map (·.1)).Nodup/\(∀s d,s∈X/\Ds rs s d<->(s,d)∈G)/\Gw (λ_=>False) S S'/\S.length<=J:=by
 obtain⟨S1,e1,H,O⟩:=Qng M nd U q Y S;have hD:=(O0.mp H.d).1;have c1:=zu (ga:=Qb 0) (mt:=Ws) (me:=V4) (w:=[]) (Γ0:=[zl,zo (Qi most j (rs.map ruV))]) (st:=S1) sdV sdV (Xa rs) (Qr _) (ys:=X) λs hs=>⟨_,rfl,Qf (Q5 (n:=2) (Q8 rfl (Q8 rfl rfl)) rfl (Qpn M (U s hs) S1)),λ_=>rfl⟩
 have fl:=da (Xa rs) X;have c2:=jv (ga:=Qb 0) (me:=V3) (w:=[]) (Γ0:=[zl]) (st:=S1) sdV (λs=>.tup [sdV s,.int 0]) (Qr _) (ys:=X.filter (Xa rs)) λs _=>⟨_,rfl,Xn (Q8 rfl (Q8 rfl rfl)) (fI rfl)⟩
 have B0:=BL.zero (rs:=rs) nd;have e2:=Qen nN B0.nd (by rw[O1];omega) S1;rw[L4]at e2;have gA:Gw (λ_=>False) S1 (S1++[.dtp (Qn nN ((X.filter (Xa rs)).map λs=>(s,0)))]):=Gw.add _ _ _
 obtain⟨A',G',a1,i',Z,h1,h2,h3,h4⟩:=Qp1 M nd U q Y (V:=.lst (X.map sdV)) (b:=S.length) rfl hD (X.length+1) (100000-(X.length+2)) 0 _ _ _ (.lst ((X.filter (Xa rs)).map sdV)) zl zl zl () B0 (by rw[O1];omega) (Jf S1 _) (.inl rfl) (λR z=>by cases z) (H.gw gA id λ_ _=>id);rw[show 100000-(X.length+2)+(X.length+1)+1=100000 by omega]at Z;refine⟨A',S1.length,G',J4 (m:=Uk) (nl:=8) (ps:=[Qi most j (rs.map ruV),.lst (X.map sdV)]) (Q3 (Qh (Q5 (n:=2) (Q8 rfl (Q8 rfl rfl)) rfl e1)) (Q3 (Qh (Ue (Yu (Z1 rfl rfl (by rw[O1];omega)) c1))) (Q3 (Qh (Zp (Q8 (Ue (Yu (Z1 rfl rfl (by rw[O1];omega)) c2)) rfl) e2)) (Q3 Z (Qw h1))))),h3,h2.nd,h2.fin q,?_,by omega⟩;refine⟨by have:=h4.len;rw[O5]at this;have:=O.len;omega,λt ht _=>?_⟩;have:=O.len;rw[h4.keep t (by rw[O5];omega) (),O7 ()];exact O.keep t ht id
def J0c(rs:List Ru)(X:List Sd):Prop:=∀s∈X,∃d,Ds rs s d
def Qvh rs s0(h:i<=j):∀e∈(lvF rs s0 i).1,e∈(lvF rs s0 j).1:=by
 induction h with
|refl=>exact λe q=>q
|step _ z=>
  intro e q;obtain⟨ex,h1,_⟩:=Q7v rs s0 _;rw[h1];exact F7 _ (z e q)
def Qij{rs:List Ru}(M:MI2 most I rs a8 ws)(h:Man B most I (rs.map ruV))(hN:N<=1250)(hS:Kc rs most (I,[],0) N)(a2:∀i,i<N->¬Kc rs most (I,[],0) i)(hb:Wi rs most (lvs rs (I,[],0) N).2=yo)(S:Q0):
  ∃v S',U5 [Qi most I (rs.map ruV)] S=.ok v S'/\Gw (λ_=>False) S S'/\((J0c rs (lvs rs (I,[],0) N).1/\∃O G,v=.tup [.str "rests",.ref O]/\S.length<=O/\S'[O]?=zo (.dtp (Qn nN G))/\(G.map (·.1)).Nodup/\∀s d,s∈(lvs rs (I,[],0) N).1/\Ds rs s d<->(s,d)∈G)\/(∃q R ks,v=.tup [.str "restless",.ref R]/\S'[R]?=zo (.lst (ks.map nI))/\S.length<=R/\ks.length<=1250/\wkS rs ks (I,[],0)=zo q/\q∈(lvs rs (I,[],0) N).1/\∀d,¬Ds rs q d)):=by
 obtain⟨v,A,e,g,ht⟩:=Q5m M hN hS a2 S;rcases ht with⟨a5,_⟩|⟨_,rfl,hD⟩
 ·rw[hb]at a5;cases a5
 have a9:∀j,j<N->Wi rs most (lvs rs (I,[],0) j).2=yo:=λj hj=>by
  cases z:Wi rs most (lvs rs (I,[],0) j).2 with
  |false=>rfl
  |true=>exact absurd (.inl z) (a2 j hj)
 have hE:(lvs rs (I,[],0) N).2=[]:=hS.resolve_left (by rw[hb];decide);obtain⟨nd,_,hX⟩:=qc M N;have few:=zi M a9;have e1:(lvF rs (I,[],0) N).1.map (·.1)=(lvs rs (I,[],0) N).1:=congrArg bq (zj rs (I,[],0) N);have a1:∀s∈(lvs rs (I,[],0) N).1,∀r∈rs,fit r s=zb->stp r s∈(lvs rs (I,[],0) N).1:=λs hs r hr hf=>Q4a hE hs hr hf
 have U:=Q49 (rs:=rs) (s0:=(I,[],0)) N;obtain⟨X,b1⟩:∃X,(lvs rs (I,[],0) N).1=X:=⟨_,rfl⟩;rw[b1]at nd hX few e1 a1 U ⊢;obtain⟨A2,O,G,e2,d2,a7,hG,g2,b7⟩:=Qhp M nd hX a1 () A;have b3:Kb A [.ref S.length]=.ok (.lst (X.map sdV)) A:=by
  show(match Ut A (.ref S.length)with|some (b0:List (HK×PV))=>Res.ok (PV.lst (b0.map λ(kv:HK×PV)=>hkV kv.1)) A|none=>.stuck)=_
  rw[Q6j pV hD,<- e1,L4];show Res.ok (PV.lst ((Qn pV (lvF rs (I,[],0) N).1).map λ(kv:HK×PV)=>hkV kv.1)) A=_
  unfold Qn;rw[L4];congr 2;exact M9 λx _=>Qkz x.1
 have s1:∀{r:SR},Qd (U7 (Qb 4) (W1 (Q2 2)) Ux) (J2 (Yr (Q1 (mC (.str "rests")) (Q1 (Q2 3) Q6)))) [zo (Qi most I (rs.map ruV)),zo (.tup [.ref S.length,.non]),zo (.lst (X.map sdV)),zo (.ref O),zl] A2=r->Xg [zo (Qi most I (rs.map ruV)),zl,zl,zl,zl] S=r:=λhr=>Q3 (Q8d (Q5 (n:=1) rfl rfl (Qe0 h S))) (Q3 (Qh (Q5 (n:=1) rfl rfl e)) (Q3 (Z0 (Qf (Q4 (Q4 rfl rfl rfl) rfl rfl)) rfl) (Q3 (Qh (Zp (Q8 (Q4 rfl rfl rfl) rfl) b3)) (Q3 (Qh (Q5 (n:=2) (Q8 rfl (Q8 rfl rfl)) rfl e2)) hr))))
 have d1:=g2.at hD id;have a6:∀(qs:List Sd)(a4:Option PV),(∀q∈qs,q∈X)->(∃b2,Jv (Qb 4) Ux [] (qs.map sdV) [zo (Qi most I (rs.map ruV)),zo (.tup [.ref S.length,.non]),zo (.lst (X.map sdV)),zo (.ref O),a4] A2=.nx [zo (Qi most I (rs.map ruV)),zo (.tup [.ref S.length,.non]),zo (.lst (X.map sdV)),zo (.ref O),b2] A2/\∀q∈qs,q∈G.map (·.1))\/∃R Z q ks,Jv (Qb 4) Ux [] (qs.map sdV) [zo (Qi most I (rs.map ruV)),zo (.tup [.ref S.length,.non]),zo (.lst (X.map sdV)),zo (.ref O),a4] A2=.rt (.tup [.str "restless",.ref R]) Z/\Gw (λ_=>False) A2 Z/\q∈qs/\q∉G.map (·.1)/\Z[R]?=zo (.lst (ks.map nI))/\A2.length<=R/\ks.length<=1250/\wkS rs ks (I,[],0)=zo q:=by
  intro qs
  induction qs with
  |nil=>exact λa4 _=>.inl ⟨a4,Z3 (Qr _),λq hq=>by cases hq⟩
  |cons q qs ih=>
   intro a4 hq;have Y:=Q6i nN d2 q zb
   by_cases z:q∈G.map (·.1)
   ·rw[bY z]at Y;have J:Ux [zo (Qi most I (rs.map ruV)),zo (.tup [.ref S.length,.non]),zo (.lst (X.map sdV)),zo (.ref O),zo (sdV q)] A2=.nx [zo (Qi most I (rs.map ruV)),zo (.tup [.ref S.length,.non]),zo (.lst (X.map sdV)),zo (.ref O),zo (sdV q)] A2:=Z0 (Qf (Q4 rfl rfl Y)) rfl;rcases ih (zo (sdV q)) λx hx=>hq x (O3 _ hx)with⟨a,e,h⟩|⟨R,Z,x,ks,e,g,hx,hn⟩
    ·exact .inl ⟨a,J0 (Qr _) rfl J e,λy hy=>by
      rcases D7.mp hy with rfl|hy
      ·exact z
      ·exact h y hy⟩
    ·exact .inr ⟨R,Z,x,ks,J0 (Qr _) rfl J e,g,O3 _ hx,hn⟩
   ·rw[bW z]at Y;obtain⟨j,hj,b5⟩:=U q (hq q E7);have b4:(lvF rs (I,[],0) j).2=(lvs rs (I,[],0) j).2:=congrArg cU (zj rs (I,[],0) j);have b6:q∈(lvF rs (I,[],0) j).2:=by rw[b4];exact b5
    obtain⟨ks,hk,t⟩:=Qcb rs (I,[],0) j q b6;obtain⟨Z,R,e3,r3,lR,g3⟩:=Qig (by rw[e1];exact nd) (t.mono (Qvh rs (I,[],0) hj)) d1 ();exact .inr ⟨R,Z,q,ks.reverse,zq (Qr _) rfl (Wn (Qf (Q4 rfl rfl Y)) (Qw (Xn (Q8 rfl (Q8 (Q5 (n:=2) (Q8 (Q4 rfl rfl rfl) (Q8 rfl rfl)) rfl e3) rfl)) (fI rfl)))),g3,E7,z,r3,lR,by rw[dr];omega,Qhk (Q1c rs (I,[],0) j) t⟩
 rcases a6 X zl λ_ h=>h with⟨a4,e4,a3⟩|⟨R,Z,q,ks,e4,g4,hq,hn,r3,lR,lk,hw⟩
 ·refine⟨_,A2,J4 (m:=Xg) (nl:=5) (ps:=[Qi most I (rs.map ruV)]) (s1 (Q3 (Jp (Z1 rfl rfl (by rw[O1];omega)) e4) (Qw (Xn (Q8 rfl (Q8 rfl rfl)) (fI rfl))))),g.trans g2,.inl ⟨λs hs=>?_,O,G,rfl,by have:=g.len;omega,d2,a7,hG⟩⟩;obtain⟨x,hx,rfl⟩:=E3.mp (a3 s hs);exact⟨x.2,((hG x.1 x.2).mpr hx).2⟩
 ·refine⟨_,Z,J4 (m:=Xg) (nl:=5) (ps:=[Qi most I (rs.map ruV)]) (s1 (We (Jp (Z1 rfl rfl (by rw[O1];omega)) e4))),(g.trans g2).trans g4,.inr ⟨q,R,ks,rfl,r3,by have:=(g.trans g2).len;omega,lk,hw,hq,λd hd=>hn (E3.mpr ⟨_,(hG q d).mp ⟨hq,hd⟩,rfl⟩)⟩⟩
structure GoodL(most:Int)(n:Nat)(sts ws:List Str)(G:List (Sd×Nat)):Prop where
nd:(G.map (·.1)).Nodup
is:∀s∈G.map (·.1),SdI n sts ws s/\s.2.2<=most
def Qu1 s:good 11 (sdV s)=zb:=by
 show((s.1.map PV.str).all (good 9)&&((s.2.1.map prV).all (good 9)&&(zb&&zb)))=zb;have h1:(s.1.map PV.str).all (good 9)=zb:=by rw[cH,F4];exact λ_ _=>rfl
 have h2:(s.2.1.map prV).all (good 9)=zb:=by rw[cH,F4];exact λ_ _=>rfl
 rw[h1,h2];rfl
def Qid(j:List Sd):good dep (.lst (j.map sdV))=zb:=by
 show(j.map sdV).all (good 11)=zb;rw[cH,F4];exact λs _=>Qu1 s
def Qeh{V:PV}{j:List Sd}(h:FrAt S V j):oNe S V (.lst [])=.ok (.bl (!j.isEmpty)) S:=by
 have hd:der S V=.lst (j.map sdV):=by
  rcases h with rfl|⟨B,rfl,h⟩
  ·rfl
  ·unfold der;simp only[h]
 unfold oNe;rw[hd];show(if good dep (.lst (j.map sdV))=zb/\good dep (.lst [])=zb then Res.ok (PV.bl (!peq (.lst (j.map sdV)) (.lst []))) S else .stuck)=_;rw[bU ⟨Qid j,rfl⟩];cases j<;>rfl
def GoodL.few{j:List Str}(M:MI2 most j rs q ws){G:List (Sd×Nat)}(h:GoodL most j.length q ws G):G.length<=1200:=by
 have:=Lw.few M h.nd h.is
 rwa [O1]at this
def jn{j:List Str}(M:MI2 most j rs q ws)(I:SdI j.length q ws s)(z:r∈rs)S:Qs [ruV r,sdV s] S=.ok (.bl (fit r s)) S:=Qrt r (by rw[I.len];exact(M.ru r z).h) s.2.1 s.2.2 S
def jm{j:List Str}(M:MI2 most j rs q ws)(I:SdI j.length q ws s)(z:r∈rs)S:Qu [ruV r,sdV s] S=.ok (sdV (stp r s)) S:=Qp0 r (by rw[I.len];exact(M.ru r z).h) (by have:=(I.one M.n4).small M.w2;have:=(M.ru r z).ms;omega) s.2.2 S
def Q7z {most:Int} {j:List Str} {rs:List Ru} {Z ws:List Str} (M:MI2 most j rs Z ws) {D Fi d:Nat} (a1:D≠Fi) {V:PV} {s:Sd} (I:SdI j.length Z ws s):∀(O:List Ru)(G:List (Sd×Nat))(S:List Sd)(A:Q0)(a6 a7:Option PV),(∀r∈O,r∈rs)->GoodL most j.length Z ws G->S.length<=G.length->A[D]?=zo (.dtp (Qn nI G))->A[Fi]?=zo (.lst (S.map sdV))->
  ((O.any λr=>fit r s && decide (most < s.2.2 + r.u))=yo/\∃ J b8 b3,Jv (Qb 6) Je [] (O.map ruV) [zo (Qi most j (rs.map ruV)),zo (.ref D),zo V,zo (.int (d:Int)),zo (.ref Fi),zo (sdV s),a6,a7] A=.nx [zo (Qi most j (rs.map ruV)),zo (.ref D),zo V,zo (.int (d:Int)),zo (.ref Fi),zo (sdV s),b8,b3] J /\
    J[D]?=zo (.dtp (Qn nI (((O.filter (fit · s)).map λr=>(stp r s,d)).foldl Jh (G,S)).1))/\J[Fi]?=zo (.lst ((((O.filter (fit · s)).map λr=>(stp r s,d)).foldl Jh (G,S)).2.map sdV))/\GoodL most j.length Z ws (((O.filter (fit · s)).map λr=>(stp r s,d)).foldl Jh (G,S)).1/\Gw (λt=>t=D\/t=Fi) A J)\/
  ((O.any λr=>fit r s&&decide (most<s.2.2+r.u))=zb/\∃J G',Jv (Qb 6) Je [] (O.map ruV) [zo (Qi most j (rs.map ruV)),zo (.ref D),zo V,zo (.int (d:Int)),zo (.ref Fi),zo (sdV s),a6,a7] A=.rt (.tup [.ref D,.int (d:Int)]) J/\J[D]?=zo (.dtp (Qn nI G'))/\GoodL most j.length Z ws G'/\Gw (λt=>t=D\/t=Fi) A J)
|[],G,S,A,a6,a7,_,hG,_,hD,hF=>.inl ⟨rfl,A,a6,a7,Z3 (Qr A),hD,hF,hG,Gw.refl _ _⟩
|r::O,G,S,A,a6,a7,a9,hG,hl,hD,hF=>by
  have hr:=a9 r (by simp);have hf:=jn M I hr A;have hs:=jm M I hr A;have Y:=Qr A;have U:∀x∈O,x∈rs:=λx hx=>a9 x (O3 _ hx)
  rw[N3,D3];cases qf:fit r s with
  |false=>
   rw[qf]at hf;have a2:(r::O).filter (fit · s)=O.filter (fit · s):=List.filter_cons_of_neg (by rw[qf];decide);rw[dI,eO,a2];have z:Je [zo (Qi most j (rs.map ruV)),zo (.ref D),zo V,zo (.int (d:Int)),zo (.ref Fi),zo (sdV s),zo (ruV r),a7] A=.nx [zo (Qi most j (rs.map ruV)),zo (.ref D),zo V,zo (.int (d:Int)),zo (.ref Fi),zo (sdV s),zo (ruV r),a7] A:=Z0 (Qf (Q5 (n:=2) rfl rfl hf)) rfl;rcases Q7z M a1 (V:=V) I O G S A (zo (ruV r)) a7 U hG hl hD hF with⟨h1,J,b6,b7,e,h2⟩|⟨h1,J,G',e,h2⟩
   ·exact .inl ⟨h1,J,b6,b7,J0 Y rfl z e,h2⟩
   ·exact .inr ⟨h1,J,G',J0 Y rfl z e,h2⟩
  |true=>
   rw[qf]at hf;have a2:(r::O).filter (fit · s)=r::O.filter (fit · s):=List.filter_cons_of_pos qf;rw[eB,a2,D3,F8]
   by_cases q:most<s.2.2+r.u
   ·rw[bY q,fw];exact .inr ⟨rfl,A,G,zq Y rfl (Wn (Qf (Q5 (n:=2) rfl rfl hf)) (Q3 (Qh (Q5 (n:=2) rfl rfl hs)) (We (Wn (Qf (Q4 rfl rfl (Q0j A q))) (Qw rfl))))),hD,hG,Gw.refl _ _⟩
   ·rw[bW q,eO];have a8:=Q6i nI hD (stp r s) zb
    by_cases qm:stp r s∈G.map (·.1)
    ·have a3:Jh (G,S) (stp r s,d)=(G,S):=by unfold Jh;rw[bU qm]
     rw[a3];rw[bY qm]at a8;have z:Je [zo (Qi most j (rs.map ruV)),zo (.ref D),zo V,zo (.int (d:Int)),zo (.ref Fi),zo (sdV s),zo (ruV r),a7] A=.nx [zo (Qi most j (rs.map ruV)),zo (.ref D),zo V,zo (.int (d:Int)),zo (.ref Fi),zo (sdV s),zo (ruV r),zo (sdV (stp r s))] A:=Wn (Qf (Q5 (n:=2) rfl rfl hf)) (Q3 (Qh (Q5 (n:=2) rfl rfl hs)) (Q3 (Z0 (Qf (Q4 rfl rfl (Q1x A q))) rfl) (Z0 (Qf (Q4 rfl rfl a8)) rfl)));rcases Q7z M a1 (V:=V) I O G S A (zo (ruV r)) (zo (sdV (stp r s))) U hG hl hD hF with⟨h1,J,b6,b7,e,h2⟩|⟨h1,J,G',e,h2⟩
     ·exact .inl ⟨h1,J,b6,b7,J0 Y rfl z e,h2⟩
     ·exact .inr ⟨h1,J,G',J0 Y rfl z e,h2⟩
    ·have a3:Jh (G,S) (stp r s,d)=(G++[(stp r s,d)],S++[stp r s]):=by unfold Jh;rw[bV qm]
     rw[a3];rw[bW qm]at a8;have b9:=GoodL.few M hG;have b4:GoodL most j.length Z ws (G++[(stp r s,d)]):=by
      refine⟨?_,λx hx=>?_⟩
      ·rw[E5];exact L7.mpr ⟨hG.nd,by simp,λa ha b hb e=>by
        have:b=stp r s:=by simpa using hb
        rw[e,this]at ha;exact qm ha⟩
      ·rw[E5]at hx;rcases E9.mp hx with hx|hx
       ·exact hG.is x hx
       ·have:x=stp r s:=by simpa using hx
        rw[this];exact⟨I.step (M.ru r hr),by show s.2.2+r.u<=most;omega⟩
     have b0:=Q1p nI hD () qm d;obtain⟨A1,a5⟩:∃A1,A.set D (.dtp (Qn nI (G++[(stp r s,d)])))=A1:=⟨_,rfl⟩;rw[a5]at b0;have b5:=(O0.mp hD).1;have d1:A1[D]?=zo (.dtp (Qn nI (G++[(stp r s,d)]))):=by rw[<- a5];exact D9 b5
     have f1:A1[Fi]?=zo (.lst (S.map sdV)):=by rw[<- a5,E2 a1];exact hF
     have g1:Gw (λt=>t=D\/t=Fi) A A1:=by rw[<- a5];exact Gw.put A (.inl rfl) _
     obtain⟨A2,a4⟩:∃A2,A1.set Fi (.lst ((S++[stp r s]).map sdV))=A2:=⟨_,rfl⟩;have d2:A2[D]?=zo (.dtp (Qn nI (G++[(stp r s,d)]))):=by rw[<- a4,E2 (Ne.symm a1)];exact d1
     have b2:=(O0.mp f1).1;have f2:A2[Fi]?=zo (.lst ((S++[stp r s]).map sdV)):=by rw[<- a4];exact D9 b2
     have g2:Gw (λt=>t=D\/t=Fi) A A2:=by rw[<- a4];exact g1.trans (Gw.put A1 (.inr rfl) _)
     have b1:Jg A1 (.ref Fi) [sdV (stp r s)]=.ok .non A2:=by
      rw[qe f1 (by rw[O1];omega),<- a4,E5];rfl
     have z:Je [zo (Qi most j (rs.map ruV)),zo (.ref D),zo V,zo (.int (d:Int)),zo (.ref Fi),zo (sdV s),zo (ruV r),a7] A=.nx [zo (Qi most j (rs.map ruV)),zo (.ref D),zo V,zo (.int (d:Int)),zo (.ref Fi),zo (sdV s),zo (ruV r),zo (sdV (stp r s))] A2:=Wn (Qf (Q5 (n:=2) rfl rfl hf)) (Q3 (Qh (Q5 (n:=2) rfl rfl hs)) (Q3 (Z0 (Qf (Q4 rfl rfl (Q1x A q))) rfl) (Wn (Qf (Q4 rfl rfl a8)) (Q3 (Ys rfl rfl rfl b0) (xm rfl (Zv f1) rfl b1)))));rcases Q7z M a1 (V:=V) I O (G++[(stp r s,d)]) (S++[stp r s]) A2 (zo (ruV r)) (zo (sdV (stp r s))) U b4 (by rw[O5,O5];simp;omega) d2 f2 with⟨h1,J,b6,b7,e,k1,k2,k3,k4⟩|⟨h1,J,G',e,k1,k2,k3⟩
     ·exact .inl ⟨h1,J,b6,b7,J0 Y rfl z e,k1,k2,k3,g2.trans k4⟩
     ·exact .inr ⟨h1,J,G',J0 Y rfl z e,k1,k2,g2.trans k3⟩
def lxs(rs:List Ru)(d:Nat)(fr:List Sd):List (Sd×Nat):=fr.flatMap λs=>(rs.filter (fit · s)).map λr=>(stp r s,d)
def Qr4 d j:(lxs rs d j).map (·.1)=nxt rs j:=by
 unfold lxs nxt;rw[kC];congr 1;funext s;rw[L4];rfl
def Q7y {most:Int} {j:List Str} {rs:List Ru} {J ws:List Str} (M:MI2 most j rs J ws) {D Fi d:Nat} (a1:D≠Fi) {V:PV} {w:Wt} (hw:∀x∈w,¬(x.1=D\/x.1=Fi)):∀(z:List Sd)(G:List (Sd×Nat))(S:List Sd)(A:Q0)(a5 Y Z:Option PV),(∀s∈z,SdI j.length J ws s)->GoodL most j.length J ws G->S.length<=G.length->wOk w A->A[D]?=zo (.dtp (Qn nI G))->A[Fi]?=zo (.lst (S.map sdV))->
  (Wi rs most z=yo/\∃U a9 b0 a3,Jv (Qb 5) Zi w (z.map sdV) [zo (Qi most j (rs.map ruV)),zo (.ref D),zo V,zo (.int (d:Int)),zo (.ref Fi),a5,Y,Z] A=.nx [zo (Qi most j (rs.map ruV)),zo (.ref D),zo V,zo (.int (d:Int)),zo (.ref Fi),a9,b0,a3] U/\
   U[D]?=zo (.dtp (Qn nI ((lxs rs d z).foldl Jh (G,S)).1))/\U[Fi]?=zo (.lst (((lxs rs d z).foldl Jh (G,S)).2.map sdV))/\GoodL most j.length J ws ((lxs rs d z).foldl Jh (G,S)).1/\Gw (λt=>t=D\/t=Fi) A U)\/
  (Wi rs most z=zb/\∃U G',Jv (Qb 5) Zi w (z.map sdV) [zo (Qi most j (rs.map ruV)),zo (.ref D),zo V,zo (.int (d:Int)),zo (.ref Fi),a5,Y,Z] A=.rt (.tup [.ref D,.int (d:Int)]) U/\U[D]?=zo (.dtp (Qn nI G'))/\GoodL most j.length J ws G'/\Gw (λt=>t=D\/t=Fi) A U)
|[],G,S,A,a5,Y,Z,_,hG,_,q,hD,hF=>.inl ⟨rfl,A,a5,Y,Z,Z3 q,hD,hF,hG,Gw.refl _ _⟩
|s::z,G,S,A,a5,Y,Z,hi,hG,hl,q,hD,hF=>by
  have I:=hi s (by simp);have hx:lxs rs d (s::z)=((rs.filter (fit · s)).map λr=>(stp r s,d))++lxs rs d z:=db
  rw[hx,dX];unfold Wi;rw[N3];obtain⟨ey,a4,a8,_⟩:=W3 ((rs.filter (fit · s)).map λr=>(stp r s,d)) (G,S)
  have a2:(rs.map ruV).length<=1000000:=by rw[O1];have:=M.len;omega
  rcases Q7z M (d:=d) a1 (V:=V) I rs G S A Y Z (λr hr=>hr) hG hl hD hF with⟨h1,A1,b6,b7,e,k1,k2,k3,k4⟩|⟨h1,A1,G',e,k1,k2,k3⟩
  ·rw[h1,eO];have O:Zi [zo (Qi most j (rs.map ruV)),zo (.ref D),zo V,zo (.int (d:Int)),zo (.ref Fi),zo (sdV s),Y,Z] A=.nx [zo (Qi most j (rs.map ruV)),zo (.ref D),zo V,zo (.int (d:Int)),zo (.ref Fi),zo (sdV s),b6,b7] A1:=Jp (Z1 rfl rfl a2) e;rcases Q7y M a1 (V:=V) hw z _ _ A1 (zo (sdV s)) b6 b7 (λx hx=>hi x (O3 _ hx)) k3 (by rw[a4,a8,O5,O5,O1];show S.length+_<=G.length+_;omega) (k4.w q hw) k1 k2 with⟨j1,A2,c5,c6,c7,e2,m1,m2,m3,m4⟩|⟨j1,A2,G',e2,m1,m2,m3⟩
   ·exact .inl ⟨j1,A2,c5,c6,c7,J0 q rfl O e2,m1,m2,m3,k4.trans m4⟩
   ·exact .inr ⟨j1,A2,G',J0 q rfl O e2,m1,m2,k4.trans m3⟩
  ·rw[h1,fw];exact .inr ⟨rfl,A1,G',zq q rfl (Jp (Z1 rfl rfl a2) e),k1,k2,k3⟩
def Lvd(most:Int)(starts:List Str)(rs:List Ru)(sts ws:List Str)(N D:Nat)(d:Nat)(A:Q0):Prop:=
 ∃G,A[D]?=zo (.dtp (Qn nI G))/\GoodL most starts.length sts ws G/\((Wi rs most (lvs rs (starts,[],0) N).2=zb/\d=N+1)\/(Wi rs most (lvs rs (starts,[],0) N).2=yo/\d=0/\G.map (·.1)=(lvs rs (starts,[],0) N).1))
def Qkh {most:Int} {q:List Str} {rs:List Ru} {Z ws:List Str} (M:MI2 most q rs Z ws) {N:Nat} (hN:N<=1250) (hS:Kc rs most (q,[],0) N) (b8:∀i,i<N->¬Kc rs most (q,[],0) i) {D:Nat}:∀(j i:Nat),i+j=N->∀(m:Nat)(A:Q0)(V:PV)(a4 a5 a6 a7:Option PV)(G:List (Sd×Nat)),A[D]?=zo (.dtp (Qn nI G))->GoodL most q.length Z ws G->G.map (·.1)=(lvs rs (q,[],0) i).1->FrAt A V (lvs rs (q,[],0) i).2->
  ∃A',Gw (λt=>t=D) A A'/\((∃d:Nat,J5 Js Jt (m+j+2) [zo (Qi most q (rs.map ruV)),zo (.ref D),zo V,zo (.int (i:Int)),a4,a5,a6,a7] A=.rt (.tup [.ref D,.int (d:Int)]) A'/\Lvd most q rs Z ws N D d A')\/(∃V' b3 b4 b5 b6 b7,J5 Js Jt (m+j+2) [zo (Qi most q (rs.map ruV)),zo (.ref D),zo V,zo (.int (i:Int)),a4,a5,a6,a7] A=.nx [zo (Qi most q (rs.map ruV)),zo (.ref D),zo V',b3,b4,b5,b6,b7] A'/\Lvd most q rs Z ws N D 0 A')):=by
 intro j
 induction j with
|zero=>
  intro i hi m A V a4 a5 a6 a7 G hD hG hK hV;have hi:i=N:=by omega
  subst hi;have J:=Qeh hV;cases Y:(lvs rs (q,[],0) i).2 with
  |nil=>
   rw[Y]at J;refine⟨A,Gw.refl _ _,.inr ⟨V,_,a4,a5,a6,a7,Vg (Qf (Q4 rfl rfl J)),G,hD,hG,.inr ⟨?_,rfl,hK⟩⟩⟩;rw[Y];rfl
  |cons s0 c0=>
   rw[Y]at J;have hb:Wi rs most (lvs rs (q,[],0) i).2=zb:=by
    rcases hS with h|h
    ·exact h
    ·rw[Y]at h;cases h
   obtain⟨w,U,hw,a3⟩:=hV.src hD;have I:∀x∈w,¬(x.1=D\/x.1=A.length):=λx hx z=>by
    rcases z with z|z
    ·exact a3 x hx z
    ·have:=(O0.mp (hw x hx)).1;omega
   have a2:=(O0.mp hD).1;have d1:(A++[Cell.lst []])[D]?=zo (.dtp (Qn nI G)):=by rw[O7 a2];exact hD
   obtain⟨k1,k2,k3⟩:=qc M i;have a8:(lvs rs (q,[],0) i).2.length<=1000000:=by
    have h1:(lvs rs (q,[],0) i).1.length<=1200:=by rw[<- hK,O1];exact GoodL.few M hG
    cases i with
    |zero=>simp[lvs]
    |succ i=>rw[jk]at h1;omega
   rcases Q7y M (d:=i+1) (D:=D) (Fi:=A.length) () (V:=V) I (lvs rs (q,[],0) i).2 G [] (A++[Cell.lst []]) a5 a6 a7 (λs hs=>k3 s (k2 s hs)) hG (G8 _) ((Gw.add (λt=>t=D\/t=A.length) A _).w hw I) d1 (Jf _ _)with⟨j1,_⟩|⟨j1,A2,G',e2,m1,m2,m3⟩
   ·rw[hb]at j1;cases j1
   ·refine⟨A2,((Gw.add (λt=>t=D\/t=A.length) A _).trans m3).mono (λt ht z=>?_),.inl ⟨i+1,?_,G',m1,m2,.inl ⟨hb,rfl⟩⟩⟩
    ·rcases z with z|z
     ·exact z
     ·omega
    ·exact Q5j (Qf (Q4 rfl rfl J)) (Q3 (Qh (Q4 rfl rfl (show Zu A (.int (i:Int)) (.int 1)=.ok (.int ((i+1:Nat):Int)) A by rw[Q8n];rfl))) (Q3 (Qh (Vh rfl)) (We (Jp (Z1 rfl (U _) (by rw[O1];exact a8)) e2))))
|succ j ih=>
  intro i hi m A V a4 a5 a6 a7 G hD hG hK hV;have a1:=b8 i ();have J:=Qeh hV;have b9:Wi rs most (lvs rs (q,[],0) i).2=yo:=by
   cases z:Wi rs most (lvs rs (q,[],0) i).2 with
   |false=>rfl
   |true=>exact absurd (.inl z) a1
  have b0:(lvs rs (q,[],0) i).2.isEmpty=yo:=by
   cases z:(lvs rs (q,[],0) i).2 with
   |nil=>exact absurd (.inr z) a1
   |cons=>rfl
  rw[b0]at J;obtain⟨w,U,hw,a3⟩:=hV.src hD;have I:∀x∈w,¬(x.1=D\/x.1=A.length):=λx hx z=>by
   rcases z with z|z
   ·exact a3 x hx z
   ·have:=(O0.mp (hw x hx)).1;omega
  have a2:=(O0.mp hD).1;have d1:(A++[Cell.lst []])[D]?=zo (.dtp (Qn nI G)):=by rw[O7 a2];exact hD
  obtain⟨k1,k2,k3⟩:=qc M i;have a8:(lvs rs (q,[],0) i).2.length<=1000000:=by
   have h1:(lvs rs (q,[],0) i).1.length<=1200:=by rw[<- hK,O1];exact GoodL.few M hG
   cases i with
   |zero=>simp[lvs]
   |succ i=>rw[jk]at h1;omega
  rcases Q7y M (d:=i+1) (D:=D) (Fi:=A.length) () (V:=V) I (lvs rs (q,[],0) i).2 G [] (A++[Cell.lst []]) a5 a6 a7 (λs hs=>k3 s (k2 s hs)) hG (G8 _) ((Gw.add (λt=>t=D\/t=A.length) A _).w hw I) d1 (Jf _ _)with⟨_,A2,c5,c6,c7,e2,m1,m2,m3,m4⟩|⟨j1,_⟩
  ·have O:=jy (lxs rs (i+1) (lvs rs (q,[],0) i).2) (G,[]);rw[Qr4,show((G,([]:List Sd)).1.map (·.1),(G,([]:List Sd)).2)=((lvs rs (q,[],0) i).1,[])from by rw[hK]]at O;have b2:((lxs rs (i+1) (lvs rs (q,[],0) i).2).foldl Jh (G,[])).1.map (·.1)=(lvs rs (q,[],0) (i+1)).1:=congrArg bq O;have b1:((lxs rs (i+1) (lvs rs (q,[],0) i).2).foldl Jh (G,[])).2=(lvs rs (q,[],0) (i+1)).2:=congrArg cU O;rw[b1]at m2;obtain⟨A',gA,a9⟩:=ih (i+1) () m A2 (.ref A.length) (zo (.ref A.length)) c5 c6 c7 _ m1 m3 b2 (.inr ⟨_,rfl,m2⟩);have S:∀r,J5 Js Jt (m+j+2) [zo (Qi most q (rs.map ruV)),zo (.ref D),zo (.ref A.length),zo (.int ((i+1:Nat):Int)),zo (.ref A.length),c5,c6,c7] A2=r->J5 Js Jt (m+(j+1)+2) [zo (Qi most q (rs.map ruV)),zo (.ref D),zo V,zo (.int (i:Int)),a4,a5,a6,a7] A=r:=λr hr=>by
    rw[show m+(j+1)+2=(m+j+2)+1 from rfl];exact Ke (Qf (Q4 rfl rfl J)) (Q3 (Qh (Q4 rfl rfl (show Zu A (.int (i:Int)) (.int 1)=.ok (.int ((i+1:Nat):Int)) A by rw[Q8n];rfl))) (Q3 (Qh (Vh rfl)) (Q3 (Jp (Z1 rfl (U _) (by rw[O1];exact a8)) e2) (Qh rfl)))) hr
   have g2:Gw (λt=>t=D) A A2:=((Gw.add (λt=>t=D\/t=A.length) A _).trans m4).mono (λt ht z=>by
    rcases z with z|z
    ·exact z
    ·omega)
   refine⟨A',g2.trans gA,?_⟩;rcases a9 with⟨d,h1,h2⟩|⟨V',b3,b4,b5,b6,b7,h1,h2⟩
   ·exact .inl ⟨d,S _ h1,h2⟩
   ·exact .inr ⟨V',b3,b4,b5,b6,b7,S _ h1,h2⟩
  ·rw[b9]at j1;cases j1
def Qgf{rs:List Ru}(M:MI2 most j rs J ws)(hN:N<=1250)(hS:Kc rs most (j,[],0) N)(Z:∀i,i<N->¬Kc rs most (j,[],0) i)(S:Q0):∃(d:Nat)(S':Q0),Zz [Qi most j (rs.map ruV)] S=.ok (.tup [.ref S.length,.int (d:Int)]) S'/\Gw (λ_=>False) S S'/\Lvd most j rs J ws N S.length d S':=by
 have d0:(S++[Cell.dtp []])[S.length]?=zo (.dtp (Qn nI ([]:List (Sd×Nat)))):=Jf _ _;have q:=Q1p nI d0 (by simp) (t:=(j,[],0)) (by simp) 0;obtain⟨I,O⟩:∃I,(S++[Cell.dtp []]).set S.length (.dtp (Qn nI ([]++[((j,[],0),0)])))=I:=⟨_,rfl⟩;rw[O]at q;have d1:I[S.length]?=zo (.dtp (Qn nI [((j,[],0),0)])):=by rw[<- O];exact D9 (by simp)
 have g1:Gw (λt=>t=S.length) S I:=by rw[<- O];exact(Gw.add _ S _).trans (Gw.put (P:=λt=>t=S.length) _ rfl _)
 have U:Kb I [.ref S.length]=.ok (.lst [sdV (j,[],0)]) I:=by
  unfold Kb;simp only[Q6j nI d1];show Res.ok (PV.lst [hkV (sdK (j,[],0))]) I=_;rw[Qkz]
 have hG:GoodL most j.length J ws [((j,[],0),0)]:=⟨by simp,λs hs=>by
  have:s=(j,[],0):=by simpa using hs
  rw[this];exact⟨Q35 M,M.m0⟩⟩
 obtain⟨A',gA,G⟩:=Qkh M hN hS Z (D:=S.length) N 0 () (99998-N) I (.lst [sdV (j,[],0)]) zl zl zl zl _ d1 hG rfl (.inl rfl);rw[show 99998-N+N+2=100000 by omega]at G;have gg:Gw (λ_=>False) S A':=(g1.trans gA).mono λt ht z=>by omega
 rcases G with⟨d,e,Y⟩|⟨V',b3,b4,b5,b6,b7,e,Y⟩
 ·exact⟨d,A',J4 (show Wa [zo (Qi most j (rs.map ruV)),zl,zl,zl,zl,zl,zl,zl] S=_ from Q3 (Qh rfl) (Q3 (Ys rfl rfl rfl q) (Q3 (Qh (Zp rfl U)) (Q3 (Qh rfl) (We e))))),gg,Y⟩
 ·exact⟨0,A',J4 (show Wa [zo (Qi most j (rs.map ruV)),zl,zl,zl,zl,zl,zl,zl] S=_ from Q3 (Qh rfl) (Q3 (Ys rfl rfl rfl q) (Q3 (Qh (Zp rfl U)) (Q3 (Qh rfl) (Q3 e (Qw rfl)))))),gg,Y⟩
def Qdc{j:List Str}{rs:List Ru}(M:MI2 most j rs G ws){V:PV}(z:wOk w A):∀(ks:List Nat)a s J,SdI j.length G ws a->wkS rs ks a=zo s->
  ∃q,Jv (Qb 3) Uq w (ks.map nI) [zo (Qi most j (rs.map ruV)),zo V,zo (sdV a),J] A=.nx [zo (Qi most j (rs.map ruV)),zo V,zo (sdV s),q] A
|[],a,s,J,_,h=>by cases h;exact⟨J,Z3 z⟩
|k::ks,a,s,J,I,h=>by
  unfold wkS at h
  split at h
  ·rename_i r O
   split at h
   ·rename_i Y;have hm:=E6 O;have h1:=jn M I hm A;rw[Y]at h1;have h2:=jm M I hm A;have Z:=(O0.mp O).1;have U:oIx A (.tup (rs.map ruV)) (.int (k:Int))=.ok (ruV r) A:=ix_tup (by rw[D8,O];rfl) A;have S:(oI λa b=>.bl (decide (b<=a))) A (.int (k:Int)) (.int ((rs.map ruV).length:Nat))=.ok (.bl yo) A:=by
     rw[gei,bW];rw[O1];omega
    obtain⟨q,e⟩:=Qdc M z ks (stp r a) s (zo (nI k)) (I.step (M.ru r hm)) h;exact⟨q,J0 z rfl (Q3 (Z0 (yc (Za (b:=zb) rfl) (yc rfl (yc (Qf (Q4 rfl rfl (Qkd A ()))) (Qf (Q4 rfl rfl S))))) rfl) (Q3 (Z0 (Za (b:=zb) (Qf (Q5 (n:=2) (Q8 (Q4 rfl rfl U) rfl) rfl h1))) rfl) (Qh (Q5 (n:=2) (Q8 (Q4 rfl rfl U) rfl) rfl h2)))) e⟩
   ·cases h
  ·cases h
def Qkb{rs:List Ru}(M:MI2 most j rs z ws){ks:List Nat}(q:S[R]?=zo (.lst (ks.map nI)))(J:ks.length<=3000)(h:wkS rs ks (j,[],0)=zo s):Y2 [Qi most j (rs.map ruV),.ref R] S=.ok (sdV s) S:=by
 obtain⟨I,e⟩:=Qdc M (V:=.ref R) (Xd q) ks _ s zl (Q35 M) h;have G:jj "list" (Q2 1) [zo (Qi most j (rs.map ruV)),zo (.ref R),zl,zl] S=.ok (.bl zb) S:=by
  show(if Xc S (.ref R)=zb then Res.stuck else .ok (PV.bl (isI "list" (dpv S (.ref R)))) S)=_;have h1:Xc S (.ref R)=yo:=by unfold Xc;simp only[q]
  have h2:dpv S (.ref R)=.ref R:=by unfold dpv;simp only[q]
  rw[h1,h2];rfl
 have st:K1 [zo (Qi most j (rs.map ruV)),zo (.ref R),zl,zl] S=.rt (sdV s) S:=Q3 (Z0 (Za (b:=zb) (Qf G)) rfl) (Q3 (Qh (show _=Res.ok (sdV (j,[],0)) S from rfl)) (Q3 (Jp (Z1 rfl (Uu q) (by rw[O1];omega)) e) (Qw rfl)));have:=Zf (nl:=4) (ps:=[Qi most j (rs.map ruV),.ref R]) st;unfold Y2;rw[this];exact Kk (Q2h _ _ _)
def Q8u{st st':Q0}(h1:st[D]?=zo (.dtp k0))(h2:st'[D]?=zo (.frt j))(I:∀n,n≠D->∀a b,st[n]?=zo (.dtp a)->st'[n]?=zo (.frt b)->False):∀m,thawT st st' m=if D<m then st'.set D (.dtp j)else st'
|0=>rfl
|m+1=>by
  have O:=Q8u h1 h2 I m;rw[thawT,O]
  by_cases q:m=D
  ·subst q;rw[bV (),bU (),h1,h2]
  ·by_cases p:D<m
   ·rw[bU p,bU ()]
    split
    ·rename_i a b J G;rw[E2 (λz=>q z.symm)]at G;exact(I m q a b J G).elim
    ·rfl
   ·rw[bV p,bV ()]
    split
    ·rename_i a b J G;exact(I m q a b J G).elim
    ·rfl
def Qdd{m:MS}{st:Q0}(h:m Γ st=.nx j st'):Q1b m Γ st=.nx j (thawT st st' st.length):=by unfold Q1b;rw[h]
def Q8t{S:Q0}(h:S[D]?=zo (.dtp j)):thawT S (S.set D (.frt j)) S.length=S:=by
 have z:=(O0.mp h).1;rw[Q8u h (D9 z) (λn J a b I G=>by rw[E2 (Ne.symm J),I]at G;cases G),bU z,jo]
 refine cf λi=>?_
 by_cases q:D=i
 ·subst q;rw[D9 z,h]
 ·rw[E2 q]
def Qeb{α:Type}(f:α->PV){S:Q0}{G:List (Sd×α)}(h:S[D]?=zo (.dtp (Qn f G)))(z:G.length<=1000000){m:ME}(hm:m Γ S=.ok (.ref D) S):K3 m Γ S=.ok ((G.map (·.1)).map sdV,[(D,.frt (Qn f G))]) (S.set D (.frt (Qn f G))):=by
 have I:(Qn f G).map (λkv=>hkV kv.1)=(G.map (·.1)).map sdV:=by
  unfold Qn;rw[L4,L4];exact M9 λx _=>Qkz x.1
 unfold K3;rw[hm,Qy];have q:Q6a (λkv=>hkV kv.1) S (.ref D)=zo ((Qn f G).map (λkv=>hkV kv.1),D,Qn f G):=by
  show(match S[D]? with|some (.dtp j)=>zo (j.map (λ(kv:HK×PV)=>hkV kv.1),D,j)|_=>zl)=_
  rw[h]
 rw[q,I];exact bU (by rw[O1,O1];exact z)
def Qt1 S a b:oNe S (sdV a) (sdV b)=.ok (.bl (!decide (a=b))) S:=by
 unfold oNe;rw[show der S (sdV a)=sdV a from rfl,show der S (sdV b)=sdV b from rfl,bU ⟨Q2j a,Q2j b⟩,Qje]
def Qv7{xs:List Int}(h1:m∈xs)(h2:∀x∈xs,m<=x)S:Qh3 S [.lst (xs.map .int)]=.ok (.int m) S:=by
 show yk (λns=>(Qv8 ns).map .int) S [.lst (xs.map .int)]=_
 have hs:Wv S (.lst (xs.map .int))=zo (xs.map .int):=rfl;have hm:Qv8 xs=zo m:=by
  cases xs with
  |nil=>cases h1
  |cons n ns=>
   obtain⟨a,b,c⟩:=Q1k ns n;show zo _=zo m;congr 1;refine Int.le_antisymm ?_ ?_
   ·rcases D7.mp h1 with rfl|h
    ·exact b
    ·exact c m h
   ·rcases a with a|a
    ·rw[a];exact h2 n E7
    ·exact h2 _ (O3 _ a)
 unfold yk;simp only[hs,eA,Q4j,hm];rfl
def Qwj{α:Type}(ys:List α)S:jw (λns=>.bl (ns.all id)) S [.lst (ys.map λ_=>.bl zb)]=.ok (.bl zb) S:=by
 have e:ys.map (λ_=>PV.bl zb)=(ys.map λ_=>zb).map .bl:=by rw[L4];rfl
 rw[e];show(match Q0s ((ys.map λ_=>zb).map .bl)with|some ns=>Res.ok (PV.bl (ns.all id)) S|none=>.stuck)=_
 rw[Qeu];have:(ys.map λ_=>zb).all id=zb:=by rw[cH];exact F4.mpr λ_ _=>rfl
 show Res.ok (PV.bl ((ys.map λ_=>zb).all id)) S=_;rw[this]
open Classical in
def dD(rs:List Ru)(s:Sd):Nat:=if h:∃d,Ds rs s d then h.choose else 0
def Qep(h:∃d,Ds rs s d):Ds rs s (dD rs s):=by
 unfold dD;rw[dif_pos h];exact h.choose_spec
def Q66{j:List Str}{rs:List Ru}(M:MI2 most j rs Y ws)(I:SdI j.length Y ws s)S:J6 [Qi most j (rs.map ruV),sdV s] S=.ok (.bl (Xa rs s)) S:=by
 have a3:∀(G:List Ru)(a2:Option PV),(∀r∈G,r∈rs)->(Xa G s=zb/\∃a4,Jv (Qb 2) Jx [] (G.map ruV) [zo (Qi most j (rs.map ruV)),zo (sdV s),a2] S=.nx [zo (Qi most j (rs.map ruV)),zo (sdV s),a4] S)\/(Xa G s=yo/\Jv (Qb 2) Jx [] (G.map ruV) [zo (Qi most j (rs.map ruV)),zo (sdV s),a2] S=.rt (.bl yo) S):=by
  intro G
  induction G with
  |nil=>exact λa2 _=>.inl ⟨rfl,a2,Z3 (Qr _)⟩
  |cons r G ih=>
   intro a2 hs;have hr:=hs r E7;have hf:=jn M I hr S;have a1:=jm M I hr S;have hb:Xa (r::G) s=((!(fit r s)||(evB r.e||decide (stp r s=s)))&&Xa G s):=rfl;have t1:=Qf (Q4 (o:=oNe) (a:=mOp oIx (Q2 2) (mC (.int 2))) (b:=mC (.str "go")) (Γ:=[zo (Qi most j (rs.map ruV)),zo (sdV s),zo (ruV r)]) (Q4 rfl rfl rfl) rfl (nes S r.e "go"));have t2:=Qf (Q4 (o:=oNe) (a:=mOp oIx (Q2 2) (mC (.int 2))) (b:=mC (.str "fall")) (Γ:=[zo (Qi most j (rs.map ruV)),zo (sdV s),zo (ruV r)]) (Q4 rfl rfl rfl) rfl (nes S r.e "fall"));have t3:=Qf (Q5 (n:=2) (F:=Qs) (mr:=Q1 (Q2 2) (Q1 (Q2 1) Q6)) (Γ:=[zo (Qi most j (rs.map ruV)),zo (sdV s),zo (ruV r)]) rfl rfl hf);have J:(qw (toB (mOp oNe (mOp oIx (Q2 2) (mC (.int 2))) (mC (.str "go")))) (qw (toB (mOp oNe (mOp oIx (Q2 2) (mC (.int 2))) (mC (.str "fall")))) (toB (Qa 2 Qs (Q1 (Q2 2) (Q1 (Q2 1) Q6)))))) [zo (Qi most j (rs.map ruV)),zo (sdV s),zo (ruV r)] S=.ok (!(evB r.e)&&fit r s) S:=by
    show _=Res.ok (!(decide (r.e="go")||decide (r.e="fall"))&&fit r s) S;cases O:decide (r.e="go")with
    |true=>rw[O]at t1;exact Qnf t1
    |false=>
     rw[O]at t1;refine Qew t1 ?_;cases U:decide (r.e="fall")with
     |true=>rw[U]at t2;exact Qnf t2
     |false=>rw[U]at t2;exact Qew t2 t3
   have a5:=ih (zo (ruV r)) λx hx=>hs x (O3 _ hx)
   have go:(!(fit r s)||(evB r.e||decide (stp r s=s)))=zb->Jx [zo (Qi most j (rs.map ruV)),zo (sdV s),zo (ruV r)] S=.nx [zo (Qi most j (rs.map ruV)),zo (sdV s),zo (ruV r)] S:=λh=>by
    cases q:(!(evB r.e)&&fit r s)with
    |false=>rw[q]at J;exact Z0 J rfl
    |true=>
     rw[q]at J;obtain⟨O,U⟩:=Bool.and_eq_true_iff.mp q;have hd:decide (stp r s=s)=zb:=by
      rw[U]at h;cases z:evB r.e with
      |true=>rw[z]at O;cases O
      |false=>rw[z]at h;exact h
     exact Wn J (Z0 (Qf (Q4 (Q5 (n:=2) rfl rfl a1) rfl ((Qt1 S _ _).trans (by rw[hd];rfl)))) rfl)
   cases q:(!(fit r s)||(evB r.e||decide (stp r s=s)))with
   |true=>
    rw[hb,q,eB];rcases a5 with⟨h1,a,e⟩|⟨h1,e⟩
    ·exact .inl ⟨h1,a,J0 (Qr _) rfl (go q) e⟩
    ·exact .inr ⟨h1,J0 (Qr _) rfl (go q) e⟩
   |false=>
    rw[hb,q,dI];have O:fit r s=zb:=by cases z:fit r s with|true=>rfl|false=>rw[z]at q;cases q
    rw[O]at q J;have U:evB r.e=yo:=by cases z:evB r.e with|false=>rfl|true=>rw[z]at q;cases q
    rw[U]at q J;exact .inr ⟨rfl,zq (Qr _) rfl (Wn J (Wn (Qf (Q4 (Q5 (n:=2) rfl rfl a1) rfl ((Qt1 S _ _).trans (by rw[show decide (stp r s=s)=yo from q];rfl)))) (Qw rfl)))⟩
 have Z:(rs.map ruV).length<=1000000:=by rw[O1];have:=M.len;omega
 unfold J6;rcases a3 rs zl λ_ h=>h with⟨h,a,e⟩|⟨h,e⟩
 ·rw[h,Zf (m:=Y9) (nl:=3) (ps:=[Qi most j (rs.map ruV),sdV s]) (S':=S) (v:=.bl zb) (Q3 (Jp (Z1 (Q4 rfl rfl rfl) rfl Z) e) (Qw rfl))];exact Kk rfl
 ·rw[h,Zf (m:=Y9) (nl:=3) (ps:=[Qi most j (rs.map ruV),sdV s]) (S':=S) (v:=.bl yo) (We (Jp (Z1 (Q4 rfl rfl rfl) rfl Z) e))];exact Kk rfl
def Qkj{I:List Str}{rs:List Ru}(M:MI2 most I rs a7 ws){X:List Sd}(nd:X.Nodup)(hX:∀s∈X,SdI I.length a7 ws s)(a8:∀s∈X,∀r∈rs,fit r s=zb->stp r s∈X)(hl:X.length<=1300){Kn:Nat}(a9:Kn≠D){Y G:List (Sd×Nat)}(hK:S[Kn]?=zo (.dtp (Qn nI Y)))(a6:Y.map (·.1)=X)(hD:S[D]?=zo (.dtp (Qn nN G)))(a2:(G.map (·.1)).Nodup)(hG:∀s d,s∈X/\Ds rs s d<->(s,d)∈G)(hA:J0c rs X):Jy [Qi most I (rs.map ruV),.ref Kn,.ref D] S=.ok (.bl zb) S:=by
 have l0:Y.length=X.length:=by rw[<- a6,O1]
 have mG:∀s,s∈G.map (·.1)<->s∈X:=λs=>⟨λh=>by
  obtain⟨x,O,rfl⟩:=E3.mp h;exact((hG x.1 x.2).mpr O).1,λh=>by
  obtain⟨d,hd⟩:=hA s h;exact E3.mpr ⟨_,(hG s d).mp ⟨h,hd⟩,rfl⟩⟩
 have l1:G.length=X.length:=by
  have a:=Yn a2 (m:=X) λx O=>(mG x).mp O
  have b:=Yn nd (m:=G.map (·.1)) λx O=>(mG x).mpr O
  rw[O1]at a b;omega
 have dm:∀s∈X,(s,dD rs s)∈G:=λs hs=>(hG s _).mp ⟨hs,Qep (hA s hs)⟩
 have b6:=(O0.mp hK).1;have c0:=(O0.mp hD).1;have b8:(rs.map ruV).length<=1000000:=by rw[O1];have:=M.len;omega
 have b9:jj "dict" (Q2 2) [zo (Qi most I (rs.map ruV)),zo (.ref Kn),zo (.ref D),zl,zl,zl] S=.ok (.bl zb) S:=by
  show(if Xc S (.ref D)=zb then Res.stuck else .ok (PV.bl (isI "dict" (dpv S (.ref D)))) S)=_;have h1:Xc S (.ref D)=yo:=by unfold Xc;simp only[hD]
  have h2:dpv S (.ref D)=.dic:=by unfold dpv;simp only[hD]
  rw[h1,h2];rfl
 have k1:(S.set D (.frt (Qn nN G)))[Kn]?=zo (.dtp (Qn nI Y)):=by rw[E2 (Ne.symm a9)];exact hK
 have w1:wOk [(D,.frt (Qn nN G))] (S.set D (.frt (Qn nN G))):=λx O=>by
  rw[show x=(D,.frt (Qn nN G)) by simpa using O];exact D9 c0
 have c1:=jv (ga:=Qb 0) (me:=Z6) (w:=[(D,.frt (Qn nN G))]) (Γ0:=[zl,zo (.ref Kn)]) (st:=S.set D (.frt (Qn nN G))) sdV (λ_=>.bl zb) w1 (ys:=G.map (·.1)) λs hs=>⟨_,rfl,Q4 rfl rfl ((Q6i nI k1 s yo).trans (by rw[a6,bY ((mG s).mp hs)];rfl))⟩
 have call:=Qwj (G.map (·.1)) (S.set D (.frt (Qn nN G)));have s1:=Qdd (m:=Jm (Kr (Zx (toB (jj "dict" (Q2 2)))) (Kr (toB (mOp oNe (Qx Q0r (Q1 (Q2 2) Q6)) (Qx Q0r (Q1 (Q2 1) Q6)))) (Zx (toB (Qx (jw λns=>.bl (ns.all id)) (Q1 (V1 (Ja [zl,zo 1] (Qb 0) (K3 (Q2 2)) Ya Z6)) Q6)))))) (J2 (mC (.bl yo))) J3) (Γ:=[zo (Qi most I (rs.map ruV)),zo (.ref Kn),zo (.ref D),zl,zl,zl]) (st:=S) (Z0 (yc (Za (b:=zb) (Qf b9)) (yc (Qf (Q4 (Zp (Q8 rfl rfl) (Qct nN hD ())) (Zp (Q8 rfl rfl) (Qct nI hK ())) (show oNe S (.int (G.length:Nat)) (.int (Y.length:Nat))=.ok (.bl yo) S by rw[l0,l1];exact Q9y S _))) (Za (b:=zb) (Qf (Zp (Q8 (Ue (Yu (Qeb nN hD () rfl) c1)) rfl) call))))) rfl)
 rw[Q8t hD]at s1;obtain⟨S1,Z⟩:∃S1,S.set Kn (.frt (Qn nI Y))=S1:=⟨_,rfl⟩;have d1:S1[D]?=zo (.dtp (Qn nN G)):=by rw[<- Z,E2 a9];exact hD
 have w2:wOk [(Kn,.frt (Qn nI Y))] S1:=λx O=>by
  rw[show x=(Kn,.frt (Qn nI Y)) by simpa using O,<- Z];exact D9 b6
 have b2:∀(qs:List Sd)(a3 a4 a5:Option PV),(∀q∈qs,q∈X)->∃b3 b4 b5,Jv (Qb 3) Z8 [(Kn,.frt (Qn nI Y))] (qs.map sdV) [zo (Qi most I (rs.map ruV)),zo (.ref Kn),zo (.ref D),a3,a4,a5] S1=.nx [zo (Qi most I (rs.map ruV)),zo (.ref Kn),zo (.ref D),b3,b4,b5] S1:=by
  intro qs
  induction qs with
  |nil=>exact λa3 a4 a5 _=>⟨a3,a4,a5,Z3 w2⟩
  |cons q qs ih=>
   intro a3 a4 a5 hq;have J:=hq q E7;have U:=Qep (hA q J);have hg:=ju nN d1 a2 (dm q J);have a1:=Q66 M (hX q J) S1;cases z:Xa rs q with
   |true=>
    rw[z]at a1;have h0:dD rs q=0:=U.uniq ⟨z,λj hj=>by omega⟩;obtain⟨b3,b4,b5,e⟩:=ih (zo (sdV q)) (zo (nN (dD rs q))) a5 λx O=>hq x (O3 _ O)
    exact⟨b3,b4,b5,J0 w2 rfl (Q3 (Qh (K5 rfl rfl hg)) (Q3 (Z0 (yc (Za (b:=zb) rfl) rfl) rfl) (Wn (Qf (Q5 (n:=2) rfl rfl a1)) (Z0 (Qf (Q4 rfl rfl (show oNe S1 (.int (dD rs q:Nat)) (.int 0)=.ok (.bl yo) S1 by rw[h0];exact Q9y S1 0))) rfl)))) e⟩
   |false=>
    rw[z]at a1;obtain⟨d',b0⟩:∃d',dD rs q=d'+1:=by
     cases y:dD rs q with
     |zero=>
      rw[y]at U;have h1:Xa rs q=zb:=U.1;rw[z]at h1;cases h1
     |succ n=>exact⟨n,rfl⟩
    rw[b0]at U;have c2:=zu (ga:=Qb 0) (mt:=Y3) (me:=Y6) (w:=[]) (Γ0:=[zl,zo (.ref D),zo (sdV q)]) (st:=S1) ruV (λr=>nN (dD rs (stp r q))) (fit · q) (Qr _) (ys:=rs) λr hr=>⟨_,rfl,Qf (Q5 (n:=2) rfl rfl (jn M (hX q J) hr S1)),λhf=>K5 rfl (Q5 (n:=2) rfl rfl (jm M (hX q J) hr S1)) (ju nN d1 a2 (dm _ (a8 q J r hr hf)))⟩
    have b1:Qh3 S1 [.lst ((rs.filter (fit · q)).map λr=>nN (dD rs (stp r q)))]=.ok (.int (d':Int)) S1:=by
     have e:((rs.filter (fit · q)).map λr=>nN (dD rs (stp r q)))=((rs.filter (fit · q)).map λr=>(dD rs (stp r q):Int)).map .int:=by rw[L4];rfl
     rw[e];refine Qv7 ?_ (λx O=>?_) S1
     ·obtain⟨r,hr,hf,hd⟩:=Q8f U;exact E3.mpr ⟨r,G6.mpr ⟨hr,hf⟩,by rw[(Qep ⟨_,hd⟩).uniq hd]⟩
     ·obtain⟨r,hr,rfl⟩:=E3.mp O;obtain⟨h1,h2⟩:=G6.mp hr;have b7:=Qep (hA _ (a8 q J r h1 h2));have:¬dD rs (stp r q)+1<d'+1:=λy=>U.2 _ y ⟨r,h1,h2,b7.1⟩
      omega
    obtain⟨b3,b4,b5,e⟩:=ih (zo (sdV q)) (zo (nN (dD rs q))) (zo (.lst ((rs.filter (fit · q)).map λr=>nN (dD rs (stp r q))))) λx O=>hq x (O3 _ O)
    exact⟨b3,b4,b5,J0 w2 rfl (Q3 (Qh (K5 rfl rfl hg)) (Q3 (Z0 (yc (Za (b:=zb) rfl) rfl) rfl) (Z0 (Qf (Q5 (n:=2) rfl rfl a1)) (Q3 (Qh (Ue (Yu (Z1 (Q4 rfl rfl rfl) rfl b8) c2))) (Z0 (Qf (Q4 rfl (Q4 rfl (Zp (Q8 rfl rfl) b1) (Q8n S1 _ _)) (show oNe S1 (.int (dD rs q:Nat)) (.int (1+(d':Int)))=.ok (.bl yo) S1 by rw[b0,show(((d'+1:Nat):Int))=1+(d':Int) by omega];exact Q9y S1 _))) rfl))))) e⟩
 obtain⟨b3,b4,b5,e2⟩:=b2 X zl zl zl λ_ h=>h
 have s2:=Qdd (m:=U7 (Qb 3) (K3 (Q2 1)) Z8) (Γ:=[zo (Qi most I (rs.map ruV)),zo (.ref Kn),zo (.ref D),zl,zl,zl]) (st:=S) (Jp (Qeb nI hK () rfl) (by rw[a6,Z];exact e2));rw[<- Z,Q8t hK]at s2;exact J4 (m:=Yz) (nl:=6) (ps:=[Qi most I (rs.map ruV),.ref Kn,.ref D]) (Q3 s1 (Q3 s2 (Qw rfl)))
def J07{f:MF}{mo:ME}{mr:ML}(h1:mo Γ S=.ok p S1)(h2:V2 S1 p=zo xs)(z:mr Γ S1=.ok ps j)(q:f j p ps=.ok v S3):mBM f mo mr Γ S=.ok v S3:=by
 rw[Qk9,h1,Qy];simp only[h2];rw[z,Qy,q]
def Qja{S:Q0}{ws:List Sd}(h:S[R]?=zo (.lst ((ws++[x]).map sdV))):Qa1 S (.ref R) []=.ok (sdV x) (S.set R (.lst (ws.map sdV))):=by
 rw[E5]at h;have hd:(ws.map sdV++[sdV x]).dropLast=ws.map sdV:=by simp
 have j:(ws.map sdV++[sdV x])[(ws.map sdV++[sdV x]).length-1]?=zo (sdV x):=by simp
 have h:S[R]?=zo (.lst (ws.map sdV++[sdV x])):=h;generalize ws.map sdV=q,sdV x=z at*;simp only[Qa1,chg,h,j,hd,Option.map_some]
def Gw.pre(a:Gw (λ_=>False) S A):S<+:A:=List.prefix_iff_getElem?.mpr λi h=>by
 rw[a.keep i h id];exact O2 h
def Qw1(a:Gw (λ_=>False) S A)(g:good 12 v=zb):fin S v A=.ok v S:=by
 obtain⟨T,rfl⟩:=a.pre;exact Qmi g
def Nv(rs:List Ru)(X:List Sd)(s:Sd):Prop:=s∈X/\∀d,¬Ds rs s d
def Nv.step(q:∀s∈X,∀r∈rs,fit r s=zb->stp r s∈X)(h:Nv rs X s)(z:r∈rs)(G:fit r s=zb):Nv rs X (stp r s):=⟨q s h.1 r z G,λd hd=>by
 obtain⟨j,_,I⟩:=Qt8 (d+1) (⟨r,z,G,hd.1⟩:Le rs (d+1) s);exact h.2 j I⟩
def Nv.rst(h:Nv rs X s):Xa rs s=yo:=by
 cases z:Xa rs s with
|false=>rfl
|true=>exact absurd ⟨z,λj q=>by omega⟩ (h.2 0)
def uT(_:Unit):PV:=.bl zb
abbrev nsG(m q:PV)(D R:Nat)(a4 a5 a6:Option PV):Gam:=[zo m,zo q,zo (.ref D),zo (.ref R),a4,a5,a6]
structure Mt(X:List Sd)(G:List (Sd×Unit)):Prop where
nd:(G.map (·.1)).Nodup
x:∀s∈G.map (·.1),s∈X
def Mt.len{X:List Sd}{G:List (Sd×Unit)}(h:Mt X G):G.length<=X.length:=by
 have:=Yn h.nd h.x
 rwa [O1]at this
def Qdz{O:List Str}{rs:List Ru}(M:MI2 most O rs b0 ws){X:List Sd}(hX:∀s∈X,SdI O.length b0 ws s)(a3:∀s∈X,∀r∈rs,fit r s=zb->stp r s∈X)(hl:X.length<=1300)(Y:D≠R)(hh:Nv rs X h):∀(rl:List Ru)(G:List (Sd×Unit))(J:List Sd)A a5 a6,(∀r∈rl,r∈rs)->Mt X G->(∀x∈J,Nv rs X x)->J.length<=G.length->A[D]?=zo (.dtp (Qn uT G))->A[R]?=zo (.lst (J.map sdV))->
  ∃(A':Q0)(Z:List (Sd×Unit))(j:List Sd)(b5 b6:Option PV),Jv (Qb 5) V9 [] (rl.map ruV) (nsG (Qi most O (rs.map ruV)) (sdV q) D R (zo (sdV h)) a5 a6) A=.nx (nsG (Qi most O (rs.map ruV)) (sdV q) D R (zo (sdV h)) b5 b6) A'/\A'[D]?=zo (.dtp (Qn uT Z))/\A'[R]?=zo (.lst (j.map sdV))/\Mt X Z/\(∀x∈j,Nv rs X x)/\j.length<=Z.length/\Z.length+J.length=G.length+j.length/\Gw (λt=>t=D\/t=R) A A'
|[],G,J,A,a5,a6,_,hG,hr,a7,hD,hR=>⟨A,G,J,a5,a6,Z3 (Qr _),hD,hR,hG,hr,a7,rfl,Gw.refl _ _⟩
|r::rl,G,J,A,a5,a6,hs,hG,U,a7,hD,hR=>by
  have hr:=hs r E7;have a9:∀x∈rl,x∈rs:=λx S=>hs x (O3 _ S)
  have I:=hX h hh.1;have hf:=jn M I hr A;have b1:=jm M I hr A;cases qf:fit r h with
  |false=>
   rw[qf]at hf;obtain⟨A',Z,j,b5,b6,e,k⟩:=Qdz M hX a3 hl Y hh rl G J A (zo (ruV r)) a6 a9 hG U a7 hD hR;exact⟨A',Z,j,b5,b6,J0 (Qr _) rfl (Z0 (Qf (Q5 (n:=2) rfl rfl hf)) rfl) e,k⟩
  |true=>
   rw[qf]at hf;have a4:=Q6i uT hD (stp r h) zb
   by_cases z:stp r h∈G.map (·.1)
   ·rw[bY z]at a4;obtain⟨A',Z,j,b5,b6,e,k⟩:=Qdz M hX a3 hl Y hh rl G J A (zo (ruV r)) (zo (sdV (stp r h))) a9 hG U a7 hD hR;exact⟨A',Z,j,b5,b6,J0 (Qr _) rfl (Wn (Qf (Q5 (n:=2) rfl rfl hf)) (Q3 (Qh (Q5 (n:=2) rfl rfl b1)) (Z0 (Qf (Q4 rfl rfl a4)) rfl))) e,k⟩
   ·rw[bW z]at a4;have hN:=hh.step a3 hr qf;have b8:=hG.len;have b4:Mt X (G++[(stp r h,PUnit.unit)]):=by
     refine⟨?_,λx S=>?_⟩
     ·rw[E5];exact L7.mpr ⟨hG.nd,by simp,λa ha b hb e=>z (by rw[<- show b=stp r h by simpa using hb,<- e];exact ha)⟩
     ·rw[E5]at S;rcases E9.mp S with S|S
      ·exact hG.x x S
      ·rw[show x=stp r h by simpa using S];exact hN.1
    have a8:=Q1p uT hD () z PUnit.unit;obtain⟨A1,a2⟩:∃A1,A.set D (.dtp (Qn uT (G++[(stp r h,PUnit.unit)])))=A1:=⟨_,rfl⟩;rw[a2]at a8;have b7:=(O0.mp hD).1;have d1:A1[D]?=zo (.dtp (Qn uT (G++[(stp r h,PUnit.unit)]))):=by rw[<- a2];exact D9 b7
    have f1:A1[R]?=zo (.lst (J.map sdV)):=by rw[<- a2,E2 Y];exact hR
    have g1:Gw (λt=>t=D\/t=R) A A1:=by rw[<- a2];exact Gw.put A (.inl rfl) _
    obtain⟨A2,a1⟩:∃A2,A1.set R (.lst ((J++[stp r h]).map sdV))=A2:=⟨_,rfl⟩;have d2:A2[D]?=zo (.dtp (Qn uT (G++[(stp r h,PUnit.unit)]))):=by rw[<- a1,E2 (Ne.symm Y)];exact d1
    have b3:=(O0.mp f1).1;have f2:A2[R]?=zo (.lst ((J++[stp r h]).map sdV)):=by rw[<- a1];exact D9 b3
    have g2:Gw (λt=>t=D\/t=R) A A2:=by rw[<- a1];exact g1.trans (Gw.put A1 (.inr rfl) _)
    have b2:Jg A1 (.ref R) [sdV (stp r h)]=.ok .non A2:=by
     rw[qe f1 (by rw[O1];omega),<- a1,E5];rfl
    obtain⟨A',Z,j,b5,b6,e,k1,k2,k3,k4,k5,k6,k7⟩:=Qdz M hX a3 hl Y hh rl (G++[(stp r h,PUnit.unit)]) (J++[stp r h]) A2 (zo (ruV r)) (zo (sdV (stp r h))) a9 b4 (λx S=>by
     rcases E9.mp S with S|S
     ·exact U x S
     ·rw[show x=stp r h by simpa using S];exact hN) (by rw[O5,O5];simp;omega) d2 f2
    rw[O5,O5,M0,M0]at k6;exact⟨A',Z,j,b5,b6,J0 (Qr _) rfl (Wn (Qf (Q5 (n:=2) rfl rfl hf)) (Q3 (Qh (Q5 (n:=2) rfl rfl b1)) (Wn (Qf (Q4 rfl rfl a4)) (Q3 (Ys rfl rfl rfl a8) (xm rfl (Zv f1) rfl b2))))) e,k1,k2,k3,k4,k5,by omega,g2.trans k7⟩
def Qqp{I:List Str}{rs:List Ru}(M:MI2 most I rs a1 ws){X:List Sd}(hX:∀s∈X,SdI I.length a1 ws s)(b1:∀s∈X,∀r∈rs,fit r s=zb->stp r s∈X)(hl:X.length<=1300)(a9:D≠R):∀j m(G:List (Sd×Unit))(z:List Sd)A a4 a5 a6,X.length+z.length<=G.length+j->Mt X G->(∀x∈z,Nv rs X x)->z.length<=G.length->A[D]?=zo (.dtp (Qn uT G))->A[R]?=zo (.lst (z.map sdV))->
  ∃A' Z,J5 Wr Va (m+j+1) (nsG (Qi most I (rs.map ruV)) (sdV q) D R a4 a5 a6) A=.nx Z A'/\Gw (λt=>t=D\/t=R) A A':=by
 intro j
 induction j with
|zero=>
  intro m G z A a4 a5 a6 hm hG J a2 hD hR;have:=hG.len;have h0:z=[]:=fF ();subst h0;exact⟨A,_,Vg (Qf (Q4 rfl rfl (Qeh (.inr ⟨R,rfl,hR⟩)))),Gw.refl _ _⟩
|succ j ih=>
  intro m G z A a4 a5 a6 hm hG J a2 hD hR;have Y:=Qeh (S:=A) (V:=.ref R) (.inr ⟨R,rfl,hR⟩);rcases List.eq_nil_or_concat z with h0|⟨wv,x,h0⟩
  ·subst h0;exact⟨A,_,Vg (Qf (Q4 rfl rfl Y)),Gw.refl _ _⟩
  ·have h0:z=wv++[x]:=by rw[h0];simp
   subst h0;have hx:=J x (F2 _ (by simp));have hb:(!(wv++[x]).isEmpty)=zb:=by cases wv<;>rfl
   rw[hb]at Y;have b0:=(O0.mp hR).1;obtain⟨U,O⟩:∃U,A.set R (.lst (wv.map sdV))=U:=⟨_,rfl⟩;have hp:=Qja hR;rw[O]at hp;have d1:U[D]?=zo (.dtp (Qn uT G)):=by rw[<- O,E2 (Ne.symm a9)];exact hD
   have r1:U[R]?=zo (.lst (wv.map sdV)):=by rw[<- O];exact D9 b0
   have g1:Gw (λt=>t=D\/t=R) A U:=by rw[<- O];exact Gw.put A (.inr rfl) _
   have a7:=Q66 M (hX x hx.1) U;rw[hx.rst]at a7;rw[O5,M0]at hm a2;have a3:(rs.map ruV).length<=1000000:=by rw[O1];have:=M.len;omega
   obtain⟨A2,G2,a8,b5,b6,e2,k1,k2,k3,k4,k5,k6,k7⟩:=Qdz M hX b1 hl a9 (q:=q) hx rs G wv U a5 a6 (λ_ h=>h) hG (λy hy=>J y (F7 _ hy)) () d1 r1
   obtain⟨A',Z,e3,g3⟩:=ih m G2 a8 A2 (zo (sdV x)) b5 b6 () k3 k4 k5 k1 k2;refine⟨A',Z,?_,(g1.trans k7).trans g3⟩;rw[show m+(j+1)+1=(m+j+1)+1 from rfl];exact Ke (Qf (Q4 rfl rfl Y)) (Q3 (Qh (J07 rfl (Zv hR) rfl hp)) (Q3 (Z0 (Qf (Q5 (n:=2) rfl rfl a7)) rfl) (Jp (Z1 (Q4 rfl rfl rfl) rfl a3) e2))) e3
def Qge{j:List Str}{rs:List Ru}(M:MI2 most j rs O ws){X:List Sd}(hX:∀s∈X,SdI j.length O ws s)(U:∀s∈X,∀r∈rs,fit r s=zb->stp r s∈X)(hl:X.length<=1300)(Y:Nv rs X q)S:∃S',Jq [Qi most j (rs.map ruV),sdV q] S=.ok (.bl zb) S'/\Gw (λ_=>False) S S':=by
 have d0:(S++[Cell.dtp []])[S.length]?=zo (.dtp (Qn uT ([]:List (Sd×Unit)))):=Jf _ _;have J:=Q1p uT d0 (by simp) (t:=q) (by simp) PUnit.unit;obtain⟨I,G⟩:∃I,(S++[Cell.dtp []]).set S.length (.dtp (Qn uT ([]++[(q,PUnit.unit)])))=I:=⟨_,rfl⟩;rw[G]at J;have l1:I.length=S.length+1:=by rw[<- G,L9,O5];rfl
 have d1:I[S.length]?=zo (.dtp (Qn uT [(q,PUnit.unit)])):=by rw[<- G];exact D9 (by simp)
 have g1:Gw (λt=>t=S.length) S I:=by rw[<- G];exact(Gw.add _ S _).trans (Gw.put (P:=λt=>t=S.length) _ rfl _)
 have gA:Gw (λ_=>False) I (I++[.lst [sdV q]]):=Gw.add _ _ _;have a1:1<=X.length:=by
  cases X with
  |nil=>cases Y.1
  |cons=>simp
 obtain⟨Z,a2,e,g⟩:=Qqp M hX U hl (D:=S.length) (R:=I.length) () (q:=q) X.length (99999-X.length) [(q,PUnit.unit)] [q] (I++[.lst [sdV q]]) zl zl zl (by simp;omega) ⟨by simp,λs hs=>by rw[show s=q by simpa using hs];exact Y.1⟩ (λx hx=>by rw[show x=q by simpa using hx];exact Y) (by simp) (gA.at d1 id) (Jf _ _);rw[show 99999-X.length+X.length+1=100000 by omega]at e;refine⟨Z,J4 (m:=Yh) (nl:=7) (ps:=[Qi most j (rs.map ruV),sdV q]) (Q3 (Qh rfl) (Q3 (Ys rfl rfl rfl J) (Q3 (Qh (Vh rfl)) (Q3 e (Qw rfl))))),?_⟩;have g0:Gw (λt=>S.length<=t) S Z:=((g1.mono λt _ z=>by omega).trans (gA.mono λt _ z=>z.elim)).trans (g.mono λt _ z=>by omega);exact g0.mono λt ht z=>by omega
def Qr9{rs:List Ru}(M:MI2 most I rs a2 ws)(h:Man B most I (rs.map ruV))(hN:N<=1250)(hS:Kc rs most (I,[],0) N)(Y:∀i,i<N->¬Kc rs most (I,[],0) i)(hb:Wi rs most (lvs rs (I,[],0) N).2=yo){Kn:Nat}{G0:List (Sd×Nat)}(hK:S[Kn]?=zo (.dtp (Qn nI G0)))(a4:G0.map (·.1)=(lvs rs (I,[],0) N).1):∃v S' Z,U5 [Qi most I (rs.map ruV)] S=.ok v S'/\Z4 [Qi most I (rs.map ruV),.ref Kn,v] S'=.ok (.bl zb) S'/\(∀{m:ME}{Γ:Gam},m Γ S'=.ok v S'->Xi (Qaa (mOp oIx m (mC (.int 1)))) Γ S'=.nx Γ Z)/\Gw (λ_=>False) S Z:=by
 obtain⟨v,A,e,g,J⟩:=Qij M h hN hS Y hb S;have a3:∀j,j<N->Wi rs most (lvs rs (I,[],0) j).2=yo:=λj hj=>by
  cases z:Wi rs most (lvs rs (I,[],0) j).2 with
  |false=>rfl
  |true=>exact absurd (.inl z) (Y j hj)
 have hE:(lvs rs (I,[],0) N).2=[]:=hS.resolve_left (by rw[hb];decide);obtain⟨nd,_,hX⟩:=qc M N;have few:=zi M a3;have O:∀s∈(lvs rs (I,[],0) N).1,∀r∈rs,fit r s=zb->stp r s∈(lvs rs (I,[],0) N).1:=λs hs r hr hf=>Q4a hE hs hr hf
 have a9:=(O0.mp hK).1;have a5:=g.at hK id;rcases J with⟨hA,U,G,rfl,b1,h1,h2,h3⟩|⟨q,R,ks,rfl,hR,a8,b0,hw,hq,a7⟩
 ·have hd:=Qkj M nd hX O () (Kn:=Kn) (D:=U) () a5 a4 h1 h2 h3 hA;have hl:=(O0.mp h1).1;refine⟨_,A,A.set U (.dtp []),e,?_,λ{m Γ} hm=>?_,?_⟩
  ·unfold Z4;rw[Zf (m:=V0) (nl:=4) (ps:=[Qi most I (rs.map ruV),.ref Kn,.tup [.str "rests",.ref U]]) (S':=A) (v:=.bl zb) (Q3 (Z0 (yc (Za (b:=zb) rfl) (Qf (Q4 rfl rfl (Q9y A 2)))) rfl) (We (Wn (Qf (Q4 (Q4 rfl rfl rfl) rfl (Qmk A _))) (Qw (Q5 (n:=3) (Q8 rfl (Q8 rfl (Q8 (Q4 rfl rfl rfl) rfl))) rfl hd)))))];exact Kk rfl
  ·refine Q8d (v:=.non) ?_;unfold Qaa;rw[Q4 (o:=oIx) hm (show mC (.int 1) Γ A=.ok (.int 1) A from rfl) (show oIx A (.tup [.str "rests",.ref U]) (.int 1)=.ok (.ref U) A from rfl),Qy];simp only[h1]
  ·refine⟨by rw[L9];exact g.len,λt J _=>?_⟩;rw[E2 ()];exact g.keep t J id
 ·have a6:=Qkb M hR () hw;obtain⟨A2,en,gn⟩:=Qge M hX O () (q:=q) ⟨hq,a7⟩ A;refine⟨_,A,A.set R (.lst []),e,?_,λ{m Γ} hm=>?_,?_⟩
  ·unfold Z4;have a1:yz (mOp K0 (Q2 3) (mC .non)) (Qa 2 Jq (Q1 (Q2 0) (Q1 (Q2 3) Q6))) [zo (Qi most I (rs.map ruV)),zo (.ref Kn),zo (.tup [.str "restless",.ref R]),zo (sdV q)] A=.ok (.bl zb) A2:=by
    rw[Qe7,Q4 (o:=K0) (v:=.bl zb) (S3:=A) rfl rfl rfl,Qy];exact Q5 (n:=2) rfl rfl en
   rw[Zf (m:=V0) (nl:=4) (ps:=[Qi most I (rs.map ruV),.ref Kn,.tup [.str "restless",.ref R]]) (S':=A2) (v:=.bl zb) (Q3 (Z0 (yc (Za (b:=zb) rfl) (Qf (Q4 rfl rfl (Q9y A 2)))) rfl) (Q3 (Z0 (Qf (Q4 (Q4 rfl rfl rfl) rfl (Qek A (by decide)))) rfl) (Q3 (Z0 (Qf (Q4 (Q4 rfl rfl rfl) rfl ((nes A _ _).trans (by rw[bY rfl];rfl)))) rfl) (Q3 (Qh (Q5 (n:=2) (Q8 rfl (Q8 (Q4 rfl rfl rfl) rfl)) rfl a6)) (Qw a1)))))];exact Qw1 gn rfl
  ·refine Q8d (v:=.non) ?_;unfold Qaa;rw[Q4 (o:=oIx) hm (show mC (.int 1) Γ A=.ok (.int 1) A from rfl) (show oIx A (.tup [.str "restless",.ref R]) (.int 1)=.ok (.ref R) A from rfl),Qy];simp only[hR]
  ·refine⟨by rw[L9];exact g.len,λt J _=>?_⟩;rw[E2 ()];exact g.keep t J id
def Qr8{rs:List Ru}(M:MI2 most j rs G ws)(h:Man B most j (rs.map ruV))(Y:N<=1250)(I:Kc rs most (j,[],0) N)(z:∀i,i<N->¬Kc rs most (j,[],0) i)(O:Wi rs most (lvs rs (j,[],0) N).2=zb)S:∃S',Jk [Qi most j (rs.map ruV)] S=.ok (.str "stand") S'/\Gw (λ_=>False) S S':=by
 obtain⟨v,A,e,g,J⟩:=Q5m M Y I z S;rcases J with⟨_,R,ks,n,r,s,rfl,_⟩|⟨q,_⟩
 ·refine⟨A,?_,g⟩;have U:U5 [Qi most j (rs.map ruV)] S=.exc ⟨"NoStand",zl⟩ A:=by
   have st:Xg [zo (Qi most j (rs.map ruV)),zl,zl,zl,zl] S=.exc ⟨"NoStand",zl⟩ A:=Q3 (Q8d (Q5 (n:=1) rfl rfl (Qe0 h S))) (Q3 (Qh (Q5 (n:=1) rfl rfl e)) (Qxv (Wn (Qf (Q4 (Q4 rfl rfl rfl) rfl rfl)) rfl)));show Yw Xg 5 [Qi most j (rs.map ruV)] S=_;unfold Yw;rw[show Xg ([Qi most j (rs.map ruV)].map zo++bh (5-[Qi most j (rs.map ruV)].length) zl) S=_ from st]
  unfold Jk;rw[U];rfl
 ·rw[O]at q;cases q
def Qgr{α:Type}(g:α->PV){xs:List α}(I:Gam->Q0->Prop){ga:GA}{body:MS}(h:∀x Γ st,x∈xs->I Γ st->∃G,ga (g x) Γ=zo G/\∃j q,I j q/\(body G st=.nx j q\/body G st=.bk j q)){st:Q0}(h0:I Γ st):∃z st',Jv ga body [] (xs.map g) Γ st=.nx z st'/\I z st':=by
 induction xs generalizing Γ st with
|nil=>exact⟨Γ,st,by simp[Jv],h0⟩
|cons x xs Y=>
  obtain⟨G,h1,j,q,O,J⟩:=h x Γ st E7 h0;rcases J with J|J
  ·obtain⟨z,st',Z,U⟩:=Y (λy Γ st S=>h y Γ st (O3 _ S)) O
   exact⟨z,st',by simp[Jv,h1,J,Z],U⟩
  ·exact⟨j,q,by simp[Jv,h1,J],O⟩
abbrev lwG(ns:List Int)(c2 c3 c4 c5 c6 c7:Option PV):Gam:=[zo (.fro (ns.map .int)),zo (.ref 0),c2,c3,c4,c5,c6,c7]
def Qvk(ns:List Int):∃S',Qk6 [zo (.fro (ns.map .int)),zl,zl,zl,zl,zl,zl,zl] []=.rt (.bl zb) S':=by
 have T0:TapeAt [Cell.lst [.fro (ns.map .int),.int 0,.int 0]] 0 ns:=⟨0,0,rfl⟩;obtain⟨a4,S1,e1,T1,x2,x3,x4,x5,x6,x7,rfl⟩:=Qgr (xs:=ba 3) (λ(i:Nat)=>PV.int ((0:Int)+(i:Int))) (λΓ A=>TapeAt A 0 ns/\∃c2 U J I z G,Γ=lwG ns c2 U J I z G)
  (ga:=Qb 2) (body:=Q0t) (λx Γ A _ ⟨T,c2,U,J,I,z,G,O⟩=>by
   subst O;refine⟨_,rfl,?_⟩;have hT:=T;obtain⟨p,c,eS⟩:=T;obtain⟨_,i1,_⟩:=Q2g eS
   by_cases q:(1:Int)<(0:Int)+(x:Int)/\((ns.map PV.int).length:Int)<=(p:Int)
   ·refine⟨lwG ns (zo (.int ((0:Int)+(x:Int)))) U J I z G,A,⟨hT,_,_,_,_,_,_,rfl⟩,.inr ?_⟩;unfold Q0t;have h1:(qw (toB (mOp (oI λa b=>.bl (decide (b<a))) (Q2 2) (mC (.int 1)))) (toB (mOp (oI λa b=>.bl (decide (b<=a))) (mOp oIx (Q2 1) (mC (.int 1))) (Qx Yc (Q1 (Q2 0) Q6))))) (lwG ns (zo (.int ((0:Int)+(x:Int)))) U J I z G) A=.ok zb A:=
     Qew (Qf (Q4 rfl rfl (Q0j A q.1))) (Qf (Q4 (Q4 rfl rfl i1) rfl (by show Res.ok (PV.bl (decide _)) A=_;rw[bY q.2])))
    show Qd _ _ (lwG ns (zo (.int ((0:Int)+(x:Int)))) U J I z G) A=_;rw[Q0b,Wn h1 (show Qca _ A=.bk _ A from rfl)]
   ·have h1:(qw (toB (mOp (oI λa b=>.bl (decide (b<a))) (Q2 2) (mC (.int 1)))) (toB (mOp (oI λa b=>.bl (decide (b<=a))) (mOp oIx (Q2 1) (mC (.int 1))) (Qx Yc (Q1 (Q2 0) Q6))))) (lwG ns (zo (.int ((0:Int)+(x:Int)))) U J I z G) A=.ok yo A:=by
     by_cases q1:(1:Int)<(0:Int)+(x:Int)
     ·exact Qew (Qf (Q4 rfl rfl (Q0j A q1))) (Qf (Q4 (Q4 rfl rfl i1) rfl (by show Res.ok (PV.bl (decide _)) A=_;rw[bW (λh=>q ⟨q1,h⟩)])))
     ·exact Qnf (Qf (Q4 rfl rfl (Q1x A q1)))
    obtain⟨most,j,rules,Y,hM,T1,M1,e1⟩:=Qg8 hT;obtain⟨rs,a2,ws,rfl,M⟩:=Qva (by decide) hM;obtain⟨N,hN,hS,S⟩:=Qxt M;obtain⟨d,A2,e2,g2,G0,hK,_,hd⟩:=Qgf M hN hS S Y;have T2:=g2.tape T1 (λh=>h);have s0:∀{r:SR},(Jm (toB (mOp (oI λa b=>.bl (decide (b<a))) (Q2 5) (mC (.int 0)))) (Jm (toB (mOp oNe (Qa 1 Jk (Q1 (Q2 3) Q6)) (mC (.str "stand")))) (J2 (mC (.bl yo))) J3) (U7 (Qb 6) (Zm (Q1 (mC (.int 2)) Q6)) Q2v)) (lwG ns (zo (.int ((0:Int)+(x:Int)))) (zo (Qi most j (rs.map ruV))) (zo (.ref Y.length)) (zo (.int (d:Int))) z G) A2=r->Q0t (lwG ns (zo (.int ((0:Int)+(x:Int)))) U J I z G) A=r:=λhr=>Q3 (Z0 h1 rfl) (Q3 (Qh (Q5 (n:=1) rfl rfl e1)) (Q3 (Qne (Q5 (n:=1) rfl rfl e2) rfl) hr))
    rcases hd with⟨hb,hd⟩|⟨hb,hd,a1⟩
    ·obtain⟨A3,e3,g3⟩:=Qr8 M hM hN hS S hb A2;exact⟨_,A3,⟨g3.tape T2 id,_,_,_,_,_,_,rfl⟩,.inl (s0 (Wn (Qf (Q4 rfl rfl (Q0j A2 ()))) (Z0 (Qf (Q4 (Q5 (n:=1) rfl rfl e3) rfl ((nes A3 _ _).trans (by rw[bY rfl];rfl)))) rfl)))⟩
    ·obtain⟨a3,A3,e3,T3,_,d6,d7,rfl⟩:=Q4r (xs:=ba 2) (λ(i:Nat)=>PV.int ((0:Int) + (i:Int))) (λi Γ B=>TapeAt B 0 ns/\B[Y.length]?=zo (.dtp (Qn nI G0))/\∃ d6 d7,Γ=lwG ns (zo (.int ((0:Int) + (x:Int)))) (zo (Qi most j (rs.map ruV))) (zo (.ref Y.length)) (zo (.int (d:Int))) d6 d7)
      (ga:=Qb 6) (body:=Q2v) (w:=[]) (λ_ _ B _=>Qr B) (λi y Γ B _ ⟨TB,Z,d6,d7,O⟩=>by
       subst O;obtain⟨v,B1,B2,k1,k2,k3,k4⟩:=Qr9 M hM hN hS S hb Z a1;exact⟨_,rfl,_,B2,Q3 (Qh (Q5 (n:=1) rfl rfl k1)) (Q3 (Z0 (Za (b:=zb) (Qf (Q5 (n:=3) rfl rfl k2))) rfl) (k3 rfl)),k4.tape TB id,k4.at Z id,_,_,rfl⟩)
      (Γ:=lwG ns (zo (.int ((0:Int)+(x:Int)))) (zo (Qi most j (rs.map ruV))) (zo (.ref Y.length)) (zo (.int (d:Int))) z G) (st:=A2) ⟨T2,hK,_,_,rfl⟩
     exact⟨_,A3,⟨T3,_,_,_,_,_,_,rfl⟩,.inl (s0 (Z0 (Qf (Q4 rfl rfl (Q1x A2 ()))) (Jp (Qss (n:=2) (by decide) rfl) e3)))⟩)
  (Γ:=lwG ns zl zl zl zl zl zl) (st:=[Cell.lst [.fro (ns.map .int),.int 0,.int 0]])
  ⟨T0,zl,zl,zl,zl,zl,zl,rfl⟩
 exact⟨S1,Q3 (Qh (Vh rfl)) (Q3 (Jp (Qss (n:=3) (by decide) rfl) e1) (Qw rfl))⟩
def Qrc:∀ns:List Int,ns.length<=63->∃st',Qf1 [.fro (ns.map .int)] []=.ok (.bl zb) st':=λns _=>by
 obtain⟨S',e⟩:=Qvk ns;have:=Zf (nl:=8) (ps:=[.fro (ns.map .int)]) e;refine⟨[],?_⟩;unfold Qf1;rw[this];unfold fin;rw[bU (List.nil_prefix)];simp[fz,okO]
def all_mk{l:fj}{K:bZ}{h:Heap}(X:K.In h)(G:h.Ns aQ mg)(C0:mg "law"=zo (.ref fa))(r8:bg K aQ "law"=zo (zo (.ref p4)))(z2:K.lookup p4=zo ⟨r0,u2,.func (cB "law" "law" (Yt xu) (Z7 xu) (Q9 xu) .none n6 n2 n5 n3 k2 n7),s8⟩)(C8:cv K k2 "law"=zb)(y7:cL K (.ref p4)=zb)(o5:bg K aQ "all"=zo zl)(l3:bg K aQ "bool"=zo zl)(k7:bg K aQ "dict"=zo zl)(e9:bg K aQ "enumerate"=zo zl)(o0:bg K aQ "int"=zo zl)(e3:bg K aQ "isinstance"=zo zl)(p3:bg K aQ "len"=zo zl)(k4:bg K aQ "list"=zo zl)(o1:bg K aQ "min"=zo zl)(k3:bg K aQ "range"=zo zl)(g7:bg K aQ "reversed"=zo zl)(o3:bg K aQ "set"=zo zl)(j2:bg K aQ "sorted"=zo zl)(o4:bg K aQ "str"=zo zl)(k1:bg K aQ "tuple"=zo zl)(b3:bg K aQ "MOST_SIGNS_OF_WORD"=zo (zo (.int 8 b1)))(e1:bg K aQ "MOST_STOCK"=zo (zo (.int 20 e0)))(d1:bg K aQ "MOST_STARTS"=zo (zo (.int 4 d6)))(e6:bg K aQ "MOST_RULES"=zo (zo (.int 60 e5)))(b6:bg K aQ "MOST_USE_AT_ONCE"=zo (zo (.int 9 b7)))(a8:bg K aQ "MOST_LETTERS_OF_RULE"=zo (zo (.int 8 a7)))(d4:bg K aQ "MOST_STANDS"=zo (zo (.int 2000 d0)))(a3:bg K aQ "EVENTS_WITHOUT_LETTER"=zo (zo (.ref J)))(a4:K.lookup J=zo ⟨.type "tuple",zl,.seq #[.str "go" Y,.str "fall" Z] a5,a2⟩)(g9:bg K aQ "NoManner"=zo (zo (.ref c6)))(i2:bg K aQ "NoStand"=zo (zo (.ref d7)))(i5:bg K aQ "TooMany"=zo (zo (.ref c9)))(v2:bg K aQ "WharfError"=zo (zo (.ref l8)))(H4:bg K aQ "NoTable"=zo (zo (.ref n0)))(y1:bg K aQ "NoHouse"=zo (zo (.ref l1)))(u7:bg K aQ "NoDeed"=zo (zo (.ref l0)))(B7:bg K aQ "NoLetter"=zo (zo (.ref l6)))(y2:bg K aQ "NoStand"=zo (zo (.ref O)))(y3:bg K aQ "NoRoad"=zo (zo (.ref k5)))(B2:bg K aQ "NoPlan"=zo (zo (.ref k6)))(u8:bg K aQ "NoBook"=zo (zo (.ref k9)))(w7:bg K aQ "NoManner"=zo (zo (.ref l9)))(p9:bg K aQ "TooMany"=zo (zo (.ref i7)))(t0:bg K aQ "NoText"=zo (zo (.ref i9)))(u5:bg K aQ "NoRow"=zo (zo (.ref i8)))(s7:bg K aQ "NoName"=zo (zo (.ref j1)))(r4:bg K aQ "Short"=zo (zo (.ref j0)))(e4:bg K aQ "ValueError"=zo zl)(e2:bg K aQ "isinstance"=zo zl)(w1:gi K (.builtin "object.__class__") "__get__"=zo (zo (.builtin "getset_descriptor.__get__")))(z1:gj K (.builtin "object.__class__")=zo zb)(o9:kD K O=zo q7)(t6:di K (.ref O) "__getattribute__"=zo (zo (.builtin "BaseException.__getattribute__")))(q1:di K (.ref O) "__getattr__"=zo zl)(r9:di K (.ref O) "__class__"=zo (zo (.builtin "object.__class__")))(p8:fO K O (.type "object")=zo zb)(p7:fO K O (.type "BaseException")=zo zb)(h1:FA K "is_whole" yq f1)(h2:FA K "is_between" Ku f2)(h3:FA K "is_sized_tuple" Vk f3)(h4:FA K "is_word" Q0x f4)(h5:FA K "is_letter" j3 f5)(h6:FA K "are_letters_of_rule" Y4 f6)(h7:FA K "is_rule" Q0y f7)(h8:FA K "are_rules" j6 f8)(h9:FA K "are_starts" Kv f9)(D1:FA K "is_manner" qz z4)(G5:FA K "need_manner" Xr y0)(v1:FA K "beginning" j5 v7)(w9:FA K "may_be_done" Xs C3)(C9:FA K "numbers_that_may" Wf B4)(x5:FA K "stand_behind" X0 v4)(y8:FA K "run_to" Q3b w5)(H5:FA K "breaking_step" Uh C1)(x3:FA K "further_stands" Vm C7)(G3:FA K "walked" Q3a B1)(w8:FA K "does_rest" j4 x4)(v8:FA K "stands_ahead" Uz G0)(v0:FA K "steps_to_rest" Ug x6)(E1:FA K "rests" Q77 w4)(x0:FA K "_law_e_stirred" Vn C5)(w0:FA K "_law_e_digit" X2 x7)(B9:FA K "_law_e_name" Xw A0)(v5:FA K "_law_e_letter_name" Yg v3)(y4:FA K "_law_e_rule" Xv u6)(w6:FA K "_law_e_manner" Ui D2)(H3:FA K "_law_e_fits" Xy z0)(C6:FA K "_law_e_step" Xu C4)(G1:FA K "_law_e_levels" Uj x1)(G2:FA K "_law_e_walk" Xt v6)(B6:FA K "_law_e_is_still" Ww B0)(B5:FA K "_law_e_dict_right" Yx x2)(y5:FA K "_law_e_never_still" Yf C2)(u9:FA K "_law_e_kind" Xx y6)(w3:FA K "_law_e_refused" Vp B3)(G4:FA K "_law_e_right" X1 z3)(h0:cF K c6 Q51 "ValueError.__new__"=zb)(i4:cF K d7 Q51 "ValueError.__new__"=zb)(i6:cF K c9 Q51 "ValueError.__new__"=zb)(t2:br K (.ref O) (.type "ValueError")=zo zb)(n8:br K (.ref O) (.ref n0)=zo yo)(p5:br K (.ref O) (.ref l1)=zo yo)(o8:br K (.ref O) (.ref l0)=zo yo)(p1:br K (.ref O) (.ref l6)=zo yo)(o7:br K (.ref O) (.ref O)=zo zb)(o6:br K (.ref O) (.ref k5)=zo yo)(n9:br K (.ref O) (.ref k6)=zo yo)(p0:br K (.ref O) (.ref k9)=zo yo)(o2:br K (.ref O) (.ref l9)=zo yo)(l5:br K (.ref O) (.ref i7)=zo yo)(l4:br K (.ref O) (.ref i9)=zo yo)(l7:br K (.ref O) (.ref i8)=zo yo)(l2:br K (.ref O) (.ref j1)=zo yo)(k8:br K (.ref O) (.ref j0)=zo yo)(q2:fu K (.ref O) (.ref l8)=zo zb)(hL:noL K=zb):
  ∃fd:aP,(∀s v,BindsTo s fd ⟨[v],[]⟩ [("script",v)])/\∀base:Heap,K.In base->base.Ns aQ mg->FnOk l.prog w K mg base (CXD l.prog w) 11 fa fd ["script"] (Q70 K):=by
 have e:=C0.symm.trans (bo X G r8);cases e;have T:Txt K mg:=⟨bz X G o5,bz X G l3,bz X G k7,bz X G e9,bz X G o0,bz X G e3,bz X G p3,bz X G k4,bz X G o1,bz X G k3,bz X G g7,bz X G o3,bz X G j2,bz X G o4,bz X G k1,⟨_,bo X G b3⟩,⟨_,bo X G e1⟩,⟨_,bo X G d1⟩,⟨_,bo X G e6⟩,⟨_,bo X G b6⟩,⟨_,bo X G a8⟩,⟨_,bo X G d4⟩,⟨_,_,_,_,bo X G a3,a4,rfl,rfl,(by show 2<=sizeLine;decide),.cons ⟨_,rfl⟩ (.cons ⟨_,rfl⟩ (.nil))⟩⟩
 have g5:∃C,mg "NoManner"=zo (.ref C)/\cF K C Q51 "ValueError.__new__"=zb:=⟨_,bo X G g9,h0⟩;have i1:∃C,mg "NoStand"=zo (.ref C)/\cF K C Q51 "ValueError.__new__"=zb:=⟨_,bo X G i2,i4⟩;have i3:∃C,mg "TooMany"=zo (.ref C)/\cF K C Q51 "ValueError.__new__"=zb:=⟨_,bo X G i5,i6⟩;have Nm:Nms mg (λi=>[l8,n0,l1,l0,l6,O,k5,k6,k9,l9,i7,i9,i8,j1,j0].getD i 0):=⟨bo X G v2,bo X G H4,bo X G y1,bo X G u7,bo X G B7,bo X G y2,bo X G y3,bo X G B2,bo X G u8,bo X G w7,bo X G p9,bo X G t0,bo X G u5,bo X G s7,bo X G r4,bz X G e4,bz X G e2⟩
 have v9:XCls K O:=⟨show(kD K O).isSome=zb by rw[o9];rfl,t6,q1,r9,w1,z1,p8,p7⟩;have T5:TgtS K (λi=>[l8,n0,l1,l0,l6,O,k5,k6,k9,l9,i7,i9,i8,j1,j0].getD i 0) 5:=⟨v9,t2,q2,λi h1 h2=>match i,h1,h2 with|0,h,_=>absurd h ()|1,_,_=>n8|2,_,_=>p5|3,_,_=>o8|4,_,_=>p1|5,_,_=>o7|6,_,_=>o6|7,_,_=>n9|8,_,_=>p0|9,_,_=>o2|10,_,_=>l5|11,_,_=>l4|12,_,_=>l7|13,_,_=>l2|14,_,_=>k8|_+15,_,h=>absurd h ()⟩;obtain⟨_,A1⟩:=Zw ["thing"] X G h1;obtain⟨_,A2⟩:=Zw ["thing","least","most"] X G h2;obtain⟨_,A3⟩:=Zw ["thing","least","most"] X G h3;obtain⟨_,A4⟩:=Zw ["thing"] X G h4;obtain⟨_,A5⟩:=Zw ["n","thing"] X G h5;obtain⟨_,A6⟩:=Zw ["n","thing"] X G h6;obtain⟨_,A7⟩:=Zw ["n","thing"] X G h7;obtain⟨_,A8⟩:=Zw ["n","thing"] X G h8;obtain⟨_,A9⟩:=Zw ["thing"] X G h9
 obtain⟨_,q6⟩:=Zw ["thing"] X G D1;obtain⟨_,u3⟩:=Zw ["manner"] X G G5;obtain⟨_,q5⟩:=Zw ["manner"] X G v1;obtain⟨_,r3⟩:=Zw ["rule","stand"] X G w9;obtain⟨_,t9⟩:=Zw ["manner","stand"] X G C9;obtain⟨_,s5⟩:=Zw ["rule","stand"] X G x5;obtain⟨_,s2⟩:=Zw ["found","stand"] X G y8;obtain⟨_,r1⟩:=Zw ["manner","stands"] X G H5;obtain⟨_,t7⟩:=Zw ["manner","found","stands"] X G x3;obtain⟨_,u4⟩:=Zw ["manner"] X G G3;obtain⟨_,s0⟩:=Zw ["manner","stand"] X G w8;obtain⟨_,t4⟩:=Zw ["manner","stands"] X G v8;obtain⟨_,s3⟩:=Zw ["manner","stands"] X G v0;obtain⟨_,q3⟩:=Zw ["manner"] X G E1;obtain⟨_,u1⟩:=Zw ["cell","place"] X G x0;obtain⟨_,q8⟩:=Zw ["tape","many"] X G w0;obtain⟨_,t5⟩:=Zw ["tape"] X G B9;obtain⟨_,t3⟩:=Zw ["tape"] X G v5;obtain⟨_,t8⟩:=Zw ["tape","n","states","names"] X G y4;obtain⟨_,r6⟩:=Zw ["tape"] X G w6;obtain⟨_,q0⟩:=Zw ["rule","stand"] X G H3
 obtain⟨_,q4⟩:=Zw ["rule","stand"] X G C6;obtain⟨_,r7⟩:=Zw ["manner"] X G G1;obtain⟨_,r2⟩:=Zw ["manner","run"] X G G2;obtain⟨_,s9⟩:=Zw ["manner","stand"] X G B6;obtain⟨_,t1⟩:=Zw ["manner","known","found"] X G B5;obtain⟨_,q9⟩:=Zw ["manner","stand"] X G y5;obtain⟨_,s6⟩:=Zw ["caught"] X G u9;obtain⟨_,p6⟩:=Zw ["manner"] X G w3;obtain⟨_,r5⟩:=Zw ["manner","known","found"] X G G4;have B8:=Qwh (st:=xu) (ps:=["script"]) X G r8 z2 C8 y7 λ_ _ _ _ _ _ us hl=>match us,hl with|[_],_=>rfl
 refine⟨cB "law" "law" (Yt xu) (Z7 xu) (Q9 xu) .none n6 n2 n5 n3 k2 n7,λs v=>.of_eq rfl,λbase kb nb=>?_⟩;have g6:=A1.d l.prog w base rfl (Q9t A1.F T    );have a6:=A2.d l.prog w base rfl (Q5c A2.F T   g6 );have j:=A3.d l.prog w base rfl (Q01 A3.F T    );have b8:=A4.d l.prog w base rfl (Qc1 A4.F T    );have g0:=A5.d l.prog w base rfl (Q7k A5.F T   j a6 b8 );have a9:=A6.d l.prog w base rfl (Ky A6.F T   j g0 );have i0:=A7.d l.prog w base rfl (Qc2 A7.F T   j a6 b8 a9 );have g1:=A8.d l.prog w base rfl (Q7p A8.F T   j i0 );have e7:=A9.d l.prog w base rfl (Q5d A9.F T   j b8 );have f0:=q6.d l.prog w base rfl (Q7j q6.F T   j a6 e7 g1 )
 have d2:=u3.d l.prog w base rfl (Q3t u3.F T  g5 f0 );have g4:=q5.d l.prog w base rfl (Q7n q5.F T    );have d3:=r3.d l.prog w base rfl (Q3u r3.F T    );have q:=t9.d l.prog w base rfl (yd t9.F T   d3 );have U:=s5.d l.prog w base rfl (Q27 s5.F T    );have e8:=s2.d l.prog w base rfl (Qfz s2.F T    );have c2:=r1.d l.prog w base rfl (Q13 r1.F T   q );have b9:=t7.d l.prog w base rfl (Q02 t7.F T  i3 q U );have k0:=u4.d l.prog w base rfl (Qfy u4.F T   g4 c2 e8 b9 );have g3:=s0.d l.prog w base rfl (Q7m s0.F T   q U );have c8:=t4.d l.prog w base rfl (Q26 t4.F T   q U );have c3:=s3.d l.prog w base rfl (Q12 s3.F T   c8 g3 )
 have g8:=q3.d l.prog w base rfl (Qjy q3.F T  i1 d2 k0 c3 e8 );have c0:=u1.d l.prog w base rfl (Q03 u1.F T    );have S:=q8.d l.prog w base rfl (Q29 q8.F T   c0 );have b5:=t5.d l.prog w base rfl (Q3y t5.F T   S );have b0:=t3.d l.prog w base rfl (qt t3.F T   b5 );have d5:=t8.d l.prog w base rfl (Q3x t8.F T   S );have c4:=r6.d l.prog w base rfl (Q14 r6.F T   S b5 b0 d5 );have z:=q0.d l.prog w base rfl (Q40 q0.F T    );have I:=q4.d l.prog w base rfl (Q3w q4.F T    );have c5:=r7.d l.prog w base rfl (Q15 r7.F T   z I );have d8:=r2.d l.prog w base rfl (Q3v r2.F T   z I )
 have a1:=s9.d l.prog w base rfl (yu s9.F T   z I );have b4:=t1.d l.prog w base rfl (ja t1.F T   a1 I z );have b2:=q9.d l.prog w base rfl (qr q9.F T   a1 z I );have d9:=s6.defX (P:=l.prog) (w:=w) (base:=base) (Q3z s6.F T Nm T5   );have c1:=p6.d l.prog w base rfl (Q04 p6.F T Nm T5  g8 d9 );have c7:=r5.d l.prog w base rfl (Q28 r5.F T   b4 d8 b2 );exact Qrb hL (Qv2 B8.F T   c4 c5 c1 g8 c7 ) Qrc
end Lw
end
namespace PySem.W.Fast
local macro_rules|`(command|open $n*)=>return Lean.mkNullNode (<-n.mapM λn=>`(command|theorem $n:ident:True:=trivial))
open tw16806125638465569744 tw16555979561958206684 tw11587706399279337969 tw16234381180275738257 tw2533852509553891317 tw13088365896349881850 tw888937434255626309 tw8181757413222803893 tw11745552742777642669 tw1472342778075143450 tw12420514507124168623 tw11058286584483428130 tw11201141057066600448 tw14862194992636930636 tw4010831332843106026 tw16684099906044211947 tw2221534792768062055 tw5337477269301044665 tw15057357286832222650 te5850180851894919184 te2764344946387158535 te11889548316344459228 te2798594146712875354 te10043027741746023821 te16550974201589115663 te5298959528031647190 te6519964293216821876 te3737483302400218261 te8522777635521064464 te4201112188250089092 te15933243227237192130 te3626091776529256379 te7909455501970218410 te16461290587703955961 te15665992280877052877 te14348169191268775141 te17328885117907377445 te4425751467394776518 te4765777131512480812 te2889765592883060947 te16680358716884671252 te7082630074896342516 te553889108020612350 te17510032216940154809 te18285888194271464530 te14318597620130038656 te9531157335587512459 te7890070539309001347 te10426876506217176464 te245560730868834776 te15805517224955516294 te1183058495988848624 te4014279707985271566 te979988983760635672 te1111041990658908505 te12141491944401439552 te17631996247226453725 te16448158828586112339 te16937065197533561721 te6807039594292308197 te10893269015497338120 te14096184456876154858 te1594561987537670055 te411028856295282548 te3866378852165804541 te5307053108128494837 te14584784606605637980 te16416956276116766626 te15955844250411771238 te10050719576877881576 te2791677520369418877 te4155042617211132502 te1418236695898976001 te13128691758722958308 te8937583173004466305 te3537140740584939697 te13698203069603853148 te11623807924360247855 te1114454516986174685 te15063590066693701529 te6337246091765920766 te10230582544879643223 te9007508236930543646 te14238666986246489749 te2631392723463938020 te10649350678395733872 te6792269401304636408 te5249627524946574643 te2300593461332422030 te18302840306354913628 te5362401843785097266 te6792061258873118163 te6353174464026156180 te1984664192892343339 te9101394843724700895 te12485666705974560005 te1069029552982378177 te10489098176809437602 te7306031822581107508 te7297353820685872659 te3206213557187162222 te8664108022453064364 te8222052529046641196 te13702916418666404101 te17400825885748606444 te10104253632262262085 te651254540602443720 te9021495368675561209 te6651802074124351803 te1488636596379972248 te2508544391748156411 te17045566145503230183 te11193493279159999285 te2939486462242137251 te2428113447013514922 te10559216801633252683 te15737995444463999452 te900027738550015929 te15756502866358924278 te6026246716299542841 te3409939997430341118 te17698716302173964227 te5163840295463515439 te11098539584372840112 te15545668751578263219 te3215006619744915831 te17141972194804387018 te9035579231808301759 te10622010608261899997 te6452108056107767109 te2871429071158273859 te15968813517410773142 te10155816125503238563 te1056013344612490098 te15647142514281389415 te12048134204688147605 te6213125813023499151 te10690479084134341578 te14402084803311792709 te14416380487207479197 te4086009616467797155 te11979504696463164794 te6709337033579925114 te6636053138850486525 te15236766316452278189 te8106437227422101998 te16812820102200158661 te12775408251339758828 te1972849308244445018 te3441447405995248690 te1703774870025076362 te9570377479823849119 te18431741515000902509 te8624537133066303400 te1945414720903862369 te17136710204948942525 te11548334786001427656 te17590314771185050869 te2549606654743893196 te4662320616627392631 te18201705821742301875 te13715889043265361908 te10116332380173989411 te11485388520401723906 te18422876155812951515 te10730347908326258546 te7277705146094404221 te562888692780218701 te2412469473671456620 te16886455614082069572 te2969475008274539396 te2268604815182804198 te404933710854583564 te15201111354780122489 te18263940697331660126 te18081696952108171136 te8887878431227854556 te8881993057972133204 te7177209397039641336 te11204481337412494019 te858857117398209007 te521176978063872169 te8034855111090678261 te11731411349513262309 te16108599686135842019 te16827810275680662251 te10844650159055953544 te14017331907881007047 te8041937915306386849 te16580521478878466567 te1960306481834227306 te2981723811772925419 te1620991531397247996 te600308469468895789 te14056559723380094442 te10966014026587069390 te11578626141067863980 te10259190455331415380 te16326185192999550343 te12591852587478199424 te1675042018674065262 te2765195017097981102 te13812094434589058046 te2478677045144064162
end PySem.W.Fast
open PySem PySem.W PyProof.Rows Sm
set_option maxRecDepth 100000 in
set_option maxHeartbeats 0 in
theorem PySem.Challenge.cw_lendwharf_k66_whole_rests_holds : PySem.Challenge.rw_lendwharf_k66_whole_rests.Holds := by
 w_on; o_law; k_head; (case hw=>w_witness2)
 k_fill
 refine Sm.walkS (l:=PySem.Challenge.rw_lendwharf_k66_whole_rests) (k:=11) rfl ⟨rfl,by decide,by decide⟩ rfl (fun w h Y=>PySem.W.kIn_of Y) ?F
 case F=>
  intro w mg fa h KX G hmg;refine' Lw.all_mk KX G hmg ..
  any_goals k_is
  any_goals exact FA.mk (by k_is) (by k_is) (by k_is) (by k_is)
  any_goals k_exc
  all_goals first | kts_exm | kit_is | rfl | decide
