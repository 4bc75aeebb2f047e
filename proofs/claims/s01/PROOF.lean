import PyProof.Rows.All
import VbtaagSpec
import Wide.All
import OpenK.AllK
import Wide.FinOn
import PyProof.EqAt
import PyProof.EqKinds
import PyProof.TupleCall
import KE.BitLaws
import Open.SpecLaws
import KE.OsHead
import KE.OsGo
import KE.KDictSum
import KE.KSortTupG
import KE.IntBitsLaws
import PySem.Challenge.RW_whoknows_s01_answers
import KE.KEqSeq
import PyVbtaag
import PyFlatLaws
set_option Elab.async false
set_option linter.all false
set_option maxRecDepth 100000
set_option maxHeartbeats 400000
set_option compiler.extract_closed false
open Array renaming getElem?_eq_getElem->JL,getElem?_eq_none->SG,length_toList->JV
open Bool renaming or_false->DA,true_and->gc,false_and->ye,eq_false_iff->Av,eq_iff_iff->mq,and_eq_true->fQ,and_true->DE,or_assoc->HS,false_ne_true->eN,false_eq_true->qm,true_or->Sa,false_or->EG,noConfusion->jU,and_eq_true_iff->EY,not_false->JW,not_true->TY,true->L,false->aH
open False renaming elim->lM
open ForInStep renaming yield->EB
open Int renaming toNat_natCast->ij,toNat->qy
open List renaming filter_map->yb,idxOf_lt_length_iff->DB,filter_congr->si,filter_eq_self->vX,filter_filter->DC,contains_eq_mem->HC,mem_filter->fw,all_eq_true->iK,any_eq_true->nH,foldl_append->DI,mem_map->cx,append_assoc->iD,foldl->qT,length_append->cK,range->ez,mem_range->oG,filterMap_cons->AH,mem_cons_of_mem->eD,mem_cons->dz,mem_append->eX,mem_append_left->yi,getElem?_eq_some_iff->AI,getElem_inj->yj,getElem?_set_self->Ik,getElem?_set_ne->D0,mem_filterMap->AO,mem_append_right->sQ,length_map->dj,append_nil->fV,nodup_cons->fW,of_mem_zip->Ek,replicate->iR,length->lO,mem_of_getElem?->gG,map_nil->wG,map_cons->dX,size_toArray->A8,all_cons->yz,any_cons->rq,replicate_succ->Jf,flatten_cons->Rz,foldl_cons->Bc,take_of_length_le->yB,getElem?_eq_getElem->cc,getElem?_map->ig,length_cons->dY,range_succ_eq_map->RO,any_map->yC,all_map->Ew,forIn_nil->Jl,mem_cons_self->eR,length_set->Jt,find?_cons->yH,cons_append->yI,length_filter_le->jT,nodup_nil->j5,length_nil->mQ,getElem?_eq_none->yO,eraseIdx_cons_succ->Tx,eq_nil_of_length_eq_zero->E7,filter_cons->kY,map_map->gw,zip_cons_cons->J2,ext_getElem?->yV,pairwise_map->E9,pairwise_iff_getElem->Uk,map_append->f9,contains_cons->LQ,length_singleton->tQ,mem_of_getLast?->Vg,dropLast_sublist->LR,mem_singleton_self->LS,getLast?_eq_getElem?->FY,drop_eq_getElem_cons->B2,take_append_drop->zk,take_length->eE,length_drop->ve,drop_length->Me,length_reverse->tR,reverse_cons->qz,drop_zero->F2,dropLast_reverse->Mh,length_take->eF,getElem?_take->tV,sum_cons->xj,flatMap_cons->kE,flatMap_append->tW,take->Mt,drop->Mu,sum_nil->Mv,getElem?_of_mem->lX,getElem_mem->Wd,reverse->Wh,mem_of_mem_take->Wi,range_succ->MC,map_congr_left->lj,getElem?_range->zy,nodup_append->Cj,take_zero->MH,filter_append->nj,find?_map->MW,map_id->MX,length_filter_eq_length_iff->M6,flatMap->vq,filterMap_append->X0,getElem?_append_left->om,getElem?_append_right->nk,find?_append->rW,filterMap->X5,pairwise_cons->Yc,mem_flatMap->qF,flatMap_assoc->Yi,cons_ne_nil->l9,find?_cons_of_neg->xC,find?_eq_none->zR,flatMap_nil->Np,map_flatMap->vC,filter_flatMap->Nq,find?_cons_of_pos->Nr,mem_of_find?_eq_some->ma,length_range->NL,length_flatMap->NQ,range'->GN,dropLast_concat_getLast->Zc,head?_eq_getElem?->Zh,find?_some->vO,eq_nil_or_concat->ZV,concat_eq_append->ZW,take_left->ZX,map_const'->ZY,sum_replicate_nat->ZZ,pairwise_append->aaL,not_mem_nil->Ds
open List.Pairwise renaming nil->Yf
open List.cons renaming injEq->Xk
open Nat renaming not_lt_zero->Dx,lt_succ_self->rY,eq_of_testBit_eq->nF,testBit_or->rZ,lt_irrefl->sj,testBit_and->mn,le_refl->aX,add_comm->DP,mul_le_mul_right->we,mul_le_mul->HZ,lt_of_lt_of_le->jh,ne_of_lt->fZ,le_trans->fJ,le_of_lt->DW,ne_of_gt->rf,zero_le->iP,le_of_eq->Eg,le_succ->A3,le_of_succ_le->RY,lt_trans->JA,succ_ne_self->JQ,lt_of_le_of_lt->rE,sub_zero->BC,zero_add->TZ,sub_self->yT,lt_or_ge->nh,pow_le_pow_right->zr,zero_testBit->Cf,testBit_eq_decide_div_mod_eq->Wm,testBit_two_pow->Wn,min_eq_left->MG,testBit_lt_two_pow->CN,ble->Hj,beq->O2,pow->Di,lt_trichotomy->aaN,mod_lt->vS,le_add_right->aaS,succ_le_succ->Dr
open Ne renaming symm->aP
open Option renaming isSome_iff_exists->El,getD_none->Rr,map_eq_some_iff->Jk,isSome_some->RV,map_some->Sd,isSome_map->Jz,none->N,ne_none_iff_exists'->MM,getD_some->oZ,toList_none->X7,none_or->zP,map->uh,some->B
open Option.some renaming inj->iO,injEq->Ul
open Or renaming inl->bM,inr->ET
open PyFlat renaming put->dE,told->qO,played->Pq,put1->aaW,putRows->Hu
open PyProof.Rows renaming Constant_none->Io,callWith_type1->uI,callWith_builtin1->adM,Subscript_->IW,subscriptTail_builtinR->Rp,boot_enumerate->JP,KeyKind->agm,KeysOf->agn,size_push'->J1,lexLt->agr,itemOrd->ags,intKind->J6
open PySem renaming contains->aqn,Spec->aqo,Program->bx,sizeLine->aL,sysModules->ju,Within->Ic,mainGlobals->jO,builtinsNs->Ih,bootBuiltins->ko,wpAny_Name->Im,behindInMarks->wo,wpAny_isTrue_Compare1->QB,wpAny_truthy_bool->qY,wpAny_execs_nil->D7,wpAny_execs_cons->QD,swapsWith->sO,wpAny_assign_Name->QG,wpAny_bind->aJ,wpAny_passesOwn->wx,wpAny_pure->bj,sizeLine_eq->wC,attributeBase->qe,FuncData->jk,bindArgs->Ej,wpAny_call->IP,wpAny_Call_Name_kw->sY,NameKind->kS,mem_of_lookup->lP,wpAny_loadPart'->Fm,seqIndex_of->IX,seqIndex_neg->IY,PlainAttrs->Jc,evalArgs_none->Et,wpAny_Dict_empty->Sk,wpAny_Call_method->Bp,call_reversed_list->Sx,DictEntry->kz,wpAny_pyIter_slot->Sy,firstArgMember->ER,size_of_entries->yN,wpAny_pyIter_keyiter->SK,method_meetsIn->JO,wpAny_pyIter_enum->yP,Builtin->aqp,Params->Bw,call->Tq,callType_codes->JX,builtinLookup_eq_fast->Um,boot_len->gQ,hashInt->Dj,rawHash->aaP,reduceHash->O8,Addr->J,Value->aj,Shared->aF,Heap->a9,Str->ao,Around->dO,Expr->bK,Stmt->hX
open PySem.Around renaming under->IK
open PySem.Builtin renaming bitAnd->sS,bitOr->sU,bitXor->IB,bitNot->AV
open PySem.Builtin.Dict renaming dictSlotNone->afc,showsAll->JK,pendingCount->afO,takeOut->Tz,keyAndDefault->afV,entriesForEmpty->TJ,quietEq->TK,mergeDict->TX,selfAndRest->af',updateFrom->T2,merge->aga,readDirectly->agb,addKeywords->agc
open PySem.Builtin.Dict_items renaming ownsTuple->EL
open PySem.Builtin.Int renaming intBits->u4
open PySem.Builtin.List renaming listTooLong->Eu,listFitsIndex->aeb,listExtendWith->Fc,listSameRef->Uo,listLengthHint->agJ,listItems->Ur,listUpdate->agL
open PySem.Builtin.Range renaming rangeSize->acF
open PySem.Builtin.SmallTypes renaming nextOf->wZ,ownedTupleIsFree->Ut,ownedTupleHandOut->Uu
open PySem.Builtin.Tuple renaming tupleHashOf->Hk
open PySem.Calls renaming Name_function_global->Qx,spliced_nil->uL,spliced_cons->sX,callWith_builtin->Es,evalArgs_plain->Jd,call_function_entry->Tt
open PySem.Challenge renaming pw_whoknows_s01_answers->ahl,rw_whoknows_s01_answers->abe
open PySem.CmpOp renaming NotIn->Qz
open PySem.Code renaming frames->Q4,isFrame->IL
open PySem.EqMixed renaming eq_bool_str->acV,eq_int_str->acX,eq_str_bool->acZ,eq_str_int->ac0,ne_bool_str->ac6,ne_int_str->ac8,ne_str_bool->ac',ne_str_int->ada
open PySem.EqNone renaming eq_none_none->acQ,eq_none_bool->acR,eq_none_int->acS,eq_none_str->acT,eq_bool_none->acU,eq_int_none->acW,eq_str_none->acY,ne_none_none->ac1,ne_none_bool->ac2,ne_none_int->ac3,ne_none_str->ac4,ne_bool_none->ac5,ne_int_none->ac7,ne_str_none->ac9
open PySem.F renaming slot_list_append->ic,slot_list_extend->rB,slot_list_pop->qj,slot_int_rmul->RF,slot_list_index->Jj,slot_dict_get->JE,entry_dict_get->Sr,args_dict_get_3->Ss,plainAttrs_dict->Bq,slot_dict_iter->JJ,slot_dict_keyiterator_next->yM,entry_dict_keyiterator_next->SA,args_dict_keyiterator_next_1->SD,slot_dict_keyiterator_iter->SM,slot_dict_items->SQ,slot_dict_len->Tu,slot_dict_pop->TH,slot_dict_values->E8,type_dict_values->T7,entry_dict_values->T8,args_dict_values_1->T9,slot_enumerate_next->Fj,entry_enumerate_next->Uw,args_enumerate_next_1->Ux,slot_dict_valueiterator_next->Fl,entry_dict_valueiterator_next->Uz,args_dict_valueiterator_next_1->UA,called_enumerate->u5,entry_object_init->UB,entry_enumerate_new->UC,plainAttrs_list->dJ,type_list_append->iF,type_list_pop->rN,type_list_extend->tT,type_list_index->Z'
open PySem.Heap renaming lt_size->cU,SameBut->jw,get?_push_of_some->dP,get?_push_size->fK,size_push->mI,get?_update_self->yy,get?_update_other->I0,ExtBut->EO
open PySem.Heap.IsSliceOf renaming new->adS
open PySem.Heap.SameBut renaming update->wR,refl->af7
open PySem.NameKind renaming free->Jm,cell->RW
open PySem.Obj renaming mapSeq->wH,mapFields->Bt,isFreed_of_fields->SE,data_mapFields->EN,cls_mapFields->SF,mapDictKeys->TB,isFreed_of_dict->TF,data_mapDictKeys->E6
open PySem.Paired renaming length->km,snoc->Sf
open PySem.PassesOwn renaming never->dR
open PySem.PyData renaming eqv->Ex,int->CO,eqvAll->CP
open PySem.SeqAt renaming EqAt->Rt,shaped->RQ
open PySem.SeqAt.EqAt renaming int_str->Qj,str_int->Qk
open PySem.Shared renaming TypeIs->T1
open PySem.Str renaming ofString->tw
open PySem.Value renaming isInt->Qh,isStrOf->Qi,int->yh,str->AA,none->lF,bool->sF,bytes->Ql,float->Ia,ref->cv,type->nI,builtin->TN
open PySem.W renaming instObj->uA,methodObj->Ie,Frag->aM,lookIn->Ec,plainGet->AZ,hasDictIn->Ed,findIn->oM,handedIn->QW,plainGet_of->IF,isFn->Ee,plainOver->IG,takerIn->IH,makesIn->A1,emptyDict->sW,keepIn->nO,kitOne->IJ,kia_one->qf,kitx_list->Q2,kitx_dict->Q3,callWith_K->IQ,methodCall_KW->Q7,callWith_K0->Q8,cellsFrom_some->Rh,fnOf->rj,codeIn->A5,WRecords->SY,length_le_weightAllW->Tc,WalkOS->Tp,kdl_call->T3,kdl_dict->T4,shaped_ints->Zd,nsIn->Du,mg_of->qQ,mg_none_of->aa7
open PySem.W.Codec renaming denoteAll->EU,encAll->yQ,withinAll->To,app->BA
open PySem.W.Looks renaming here->adj
open PySem.W.WData renaming weightAll->EV
open PySem.Walks renaming list->RP
open PySem.Within renaming cons->adn
open PyVbtaag renaming answers_asked->Pl,answers->Po,whole->Hs,calls->aaV
open Std.Legacy.Range renaming forIn_eq_forIn_range'->af5,size->af6
open Sum renaming inl->cC,inr->pT
open True renaming intro->mH
open Vbtaag renaming stuck->xi,weighed->Ce,reduced->xk,World->fi,there->eB,linked->lq,step->aO,isAgent->o4,only->dh,holds->kG,shown->Cy,agents->ka,seen->b8,told->kH,showed->t9,again->jF,whispered->l7,links->xy,fresh->ot,longer->vA,chains->zS,ends->CG,chainTo->o8,Pairs->gb,has->bH,first->jY,narrower->fE,matched->vG,table->bq,partedAt->kL,rounds->kM,likeOf->cu,seenBy->xS,chained->cV,least->vJ,linkIn->CU,joined->GZ,short->fH,LONG->C0,Found->C1,found->kf,parting->vP,everyPair->C2,partings->G4,partingTable->C3,readForm->xX,spread->OY,then_->O0,by_->aaI,Text->Ai,formOf->qN,depthOf->aaJ,Call->Dh,STATES->Pa,LINKS->Pb,callOf->Pf,text?->aaT,Form->bo,ids->ae,maskOf->cF,sat->aU,Link->cD
open Vbtaag.Form renaming size->jt,deep->wd,hasCommon->ur,atom->vQ,no->G1
open VbtaagNeutral renaming text->Pg,asked1->Ph,step->Dt,start->Ak,asked->am0
def bT:=@absurd
def au:=@if_neg
def aD:=@if_pos
def pq:=@beq_iff_eq
def cw:=@decide_eq_true
def cb:=@congrArg
def eG:=@decide_eq_false
def tf:=@decide_eq_true_eq
theorem O{α:Sort _}{a:α}:a=a:=rfl
set_option maxHeartbeats 0 in
theorem w_S:abe.wellSaid=true:=by decide+kernel
local macro_rules|`(tactic|left)=>`(tactic|exact⟨rfl,rfl,rfl,by decide+kernel,rfl,by decide+kernel,by decide+kernel⟩)
local macro_rules|`(tactic|lia)=>`(tactic|first|lia-ring-abstractProof|omega)
local macro_rules|`(tactic|cutsat)=>`(tactic|first|lia-ring|omega)
local macro_rules|`(tactic|grind)=>`(tactic|first|lia-ring-abstractProof|(simp_all;done)|grind+splitIte-abstractProof)
local macro_rules|`(tactic|grobner)=>`(tactic|first|lia-ring|(simp_all;done)|grind+splitIte)
local macro_rules|`(tactic|refine⟨_,($e),?_⟩)=>`(tactic|(refine⟨_,$e,?_⟩;try dsimp only[L2.yu,L2.Cx.D6]))
local macro_rules|`(tactic|right)=>`(tactic|(intro _ _ _ _ h;cases h;rename_i h;(repeat obtain⟨_,h⟩:=h);subst_vars;rfl))
set_option hygiene false
def p_(n:Nat)(r:Lean.Term):Lean.MacroM (Array Lean.Term):=do
 let mut r:=r
 let mut o:=#[]
 for _ in [1:n] do
  o:=o.push (<-`(($r).1))
  r<-`(($r).2)
 return o.push r
local macro_rules|`(universe $x*)=>do
 let mut T:Lean.Term:=⟨x.back!⟩
 for y in x.pop.reverse do T<-`($y×$T)
 let mut A<-`(Prop)
 for y in x.reverse do A<-`($y->$A)
 let e:=s!"e_{x.size}".toName
 let c:=Lean.mkIdent (e++`c)
 let i:=Lean.mkIdent
 let q<-p_ x.size (<-`(x))
 let z:=x.map λx=>i (x.getId.appendAfter "'")
 `(inductive $(i e) {$x* :Type} (P:$A) : Prop|mk $z* :P $z*->$(i e) P
 noncomputable def $c {$x* :Type} (i:Nonempty $T) (P:$A) : $T :=Classical.epsilon λx=>P $q*
 theorem $(i (e++`s)) {$x* :Type} [i:Nonempty $T] {P:$A} (h:$(i e) P):P $(<-p_ x.size (<-`($c i P)))*:=by cases h;rename_i h;exact Classical.epsilon_spec (p:=λx:$T=>P $q*) ⟨⟨$[$(<-x.mapM λ_=>`(_))],*⟩,h⟩
 theorem $(i (e++`h)) {$x* :Type} [i:Nonempty $T] {P:$A} (h:P $(<-p_ x.size (<-`($c i λ $z* =>¬P $z*)))*):∀ $z* ,P $z*:=λ $z* =>Classical.byContradiction λg=>$(i (e++`s)) (P:=λ $z* =>¬P $z*) ⟨$[$z],*,g⟩ h)
local macro_rules|`(tactic|rcases F,$x:ident with⟨$p,*⟩)=>do
 let a:=p.getElems
 let v:=a.map λp=>(p.raw.find? (·.isIdent)).get!
 let n:=(v.findIdx? (·.getId==`rfl)).get!
 let e:=if n=1 then `Exists else s!"e_{n}".toName
 let t<-p_ n (<-`($(Lean.mkIdent (e++`c)) _ _))
 let v:Array Lean.Ident:=(v.extract 0 n).map (⟨·⟩)
 let r:=a.extract n a.size
 `(tactic|(refine F.k_ $x (by right) ?_;dsimp only[C_];generalize R_.f _=_f,R_.a _=a6,R_.A _=A,R_.o _=outer,R_.s _=s,R_.H _=H,R_.v _=vs,R_.Q _=Q,R_.E _=E;intro hr h;replace h:=$(Lean.mkIdent (e++`s)) h;generalize $[$t:term=$v],* at h;obtain⟨$r,*⟩:=h;have nd:=$(Lean.mkIdent (x.getId++`nd))))
local macro_rules|`(tactic|funext $x*)=>do
 let n:=x.size
 let e:=if n=1 then `Exists else s!"e_{n}".toName
 let t<-p_ n (<-`($(Lean.mkIdent (e++`c)) _ _))
 let v:Array Lean.Ident:=x.map (⟨·.raw⟩)
 `(tactic|(revert $v*;refine no_implicit_lambda%($(Lean.mkIdent (e++`h)) ?_);generalize $[$t:term=$v],*;set_option tactic.hygienic false in intros))
local macro_rules|`(tactic|rfl')=>`(tactic|all_goals grind)
local macro_rules|`(nofun)=>`(by intro z;cases z)
local macro_rules|`(tactic|ac_nf)=>`(tactic|first|exact .inl rfl|exact .inr rfl|assumption|exact .inr (.inl rfl)|exact .inr (.inr rfl))
set_option hygiene true
noncomputable def Exists.c{α:Type}(i:Nonempty α)(P:α->Prop):=Classical.epsilon P
theorem Exists.s{α:Type}[i:Nonempty α]{P:α->Prop}(h:Exists P):P (Exists.c i P):=Classical.epsilon_spec h
theorem Exists.h{α:Type}[i:Nonempty α]{P:α->Prop}(h:P (Exists.c i λx=>¬P x))(x:α):P x:=Classical.byContradiction λg=>Exists.s (P:=λx=>¬P x) ⟨x,g⟩ h
theorem a_1:1<=PySem.sizeLine:=by decide
theorem a_2:2<=PySem.sizeLine:=by decide
theorem a_3:3<=PySem.sizeLine:=by decide
universe α β
universe α β γ
universe α β γ δ
universe α β γ δ ε
universe α β γ δ ε ζ
universe α β γ δ ε ζ η
universe α β γ δ ε ζ η θ
universe α β γ δ ε ζ η θ ι
universe α β γ δ ε ζ η θ ι κ
universe α β γ δ ε ζ η θ ι κ μ
universe α β γ δ ε ζ η θ ι κ μ ν
universe α β γ δ ε ζ η θ ι κ μ ν ξ
universe α β γ δ ε ζ η θ ι κ μ ν ξ ο
universe α β γ δ ε ζ η θ ι κ μ ν ξ ο π ρ
instance:Nonempty PySem.Around:=⟨{}⟩
instance:Nonempty PySem.Shared:=⟨{}⟩
instance iW:Nonempty PySem.World:=⟨⟨λ_ _=>0,{strHash:=λ_=>0,shareClass:=id,mergeTok:=id,idOf:=λ_=>0,idOfShared:=λ_ _=>0,followText:=λ_=>true,idOfImm:=λ_=>0}⟩⟩
noncomputable section
namespace WK
open Vbtaag
noncomputable def enc:bo->List Nat
 |.top=>[84]
 |.atom i=>[48+i]
 |.no f=>126::enc f
 |.and f g=>38::(enc f++enc g)
 |.or f g=>124::(enc f++enc g)
 |.know a f=>(97+a)::enc f
 |.every f=>69::enc f
 |.common f=>67::enc f
 |.after f g=>91::(enc f++enc g)
def Wf:bo->Prop
 |.top=>True
 |.atom i=>i<8
 |.no f=>Wf f
 |.and f g=>Wf f/\Wf g
 |.or f g=>Wf f/\Wf g
 |.know a f=>a<4/\Wf f
 |.every f=>Wf f
 |.common f=>Wf f
 |.after f g=>Wf f/\Wf g
theorem kj:∀f:bo,(enc f).length=f.size
 |.top=>rfl
 |.atom _=>rfl
 |.no f=>by simp[enc,jt,kj f];lia
 |.and f g=>by simp[enc,jt,kj f,kj g];lia
 |.or f g=>by simp[enc,jt,kj f,kj g];lia
 |.know _ f=>by simp[enc,jt,kj f];lia
 |.every f=>by simp[enc,jt,kj f];lia
 |.common f=>by simp[enc,jt,kj f];lia
 |.after f g=>by simp[enc,jt,kj f,kj g];lia
noncomputable def parts (c:Nat):Nat:=if c=84\/(48<=c/\c<=55)then 0 else if c=38\/c=124\/c=91 then 2 else 1
structure RS where
 bJ:List Nat
 want:List Nat
 g9:Nat
noncomputable def j1 (s:RS)(c:Nat):Option RS:=
 if c=75 then B ⟨s.bJ,s.want,1⟩
 else if c=40\/c=91 then B ⟨s.bJ++[c],s.want++[s.bJ.length],s.g9⟩
 else if c=84\/(48<=c/\c<=55)then B ⟨s.bJ++[c],s.want,2⟩
 else if c=126\/c=69\/c=67 then B ⟨s.bJ++[c],s.want,s.g9⟩else N
noncomputable def uk (s:RS)(c:Nat):Option RS:=if 97<=c/\c<=100 then B ⟨s.bJ++[c],s.want,0⟩else N
noncomputable def jK (s:RS)(c:Nat):Option RS:=match s.want.getLast? with
 |none=>N
 |some p=>
  if s.bJ[p]?=B 40 then(if c=38\/c=124 then B ⟨s.bJ.set p c,s.want.dropLast++[p],0⟩else N)
  else if s.bJ[p]?=B 91 then(if c=93 then B ⟨s.bJ,s.want.dropLast,0⟩else N)
  else(if c=41 then B ⟨s.bJ,s.want.dropLast,s.g9⟩else N)
noncomputable def eC (s:RS)(c:Nat):Option RS:=if s.g9=0 then j1 s c else if s.g9=1 then uk s c else jK s c
noncomputable def iB:RS->List Nat->Option RS
 |s,[]=>B s
 |s,c::t=>match eC s c with
  |some s'=>iB s' t
  |none=>N
noncomputable def cO (s:RS)(t:List Nat):Option (List Nat):=match iB s t with
 |some s'=>if s'.g9=2/\s'.want=[]then B s'.bJ else N
 |none=>N
def qR (h:eC s c=B s'):cO s (c::t)=cO s' t:=by simp[cO,iB,h]
def x9 (h:eC s c=N):cO s (c::t)=none:=by simp[cO,iB,h]
def abf (n:Nat)(t:List Nat):Prop:=∀(S w:List Nat),match read n t with
 |some (f,r)=>r.length<t.length/\Wf f/\cO ⟨S,w,0⟩ t=cO ⟨S++enc f,w,2⟩ r
 |none=>cO ⟨S,w,0⟩ t=N
def abg (S w:List Nat):cO ⟨S,w,0⟩ []=none:=by simp[cO,iB]
def abh (S w:List Nat):cO ⟨S,w,1⟩ []=none:=by simp[cO,iB]
def Hy (S w:List Nat)(p:Nat)(k:Nat):cO ⟨S,w++[p],k⟩ []=none:=by simp[cO,iB]
def ya (w:List Nat)(p:Nat):(w++[p]).getLast?=B p:=by simp
theorem Hz:∀(n:Nat)(t:List Nat),t.length<n->abf n t
 |0,t,h=>bT h (Dx _)
 |n+1,[],_=>λS w=>by rw[Vbtaag.read];exact abg S w
 |n+1,c::r,h=>λS w=>by
  have hr:r.length<n:=by simp at h;lia
  have ih:=Hz n;rw[Vbtaag.read.eq_def];dsimp only;by_cases An:c=84
  .subst An;simp only[if_true];refine⟨by simp,trivial,?_⟩;exact qR (by simp[eC,j1,enc])
  rw[au An];by_cases gC:48<=c/\c<=55
  .rw[aD gC];have e:48+(c-48)=c:=by lia
   refine⟨by simp,by show c-48<8;lia,?_⟩;refine qR ?_;have n1:¬c=75:=by lia
   have n2:¬(c=40\/c=91):=by lia
   simp[eC,j1,enc,n1,n2,An,gC,e]
  rw[au gC]
  have one:∀(op:bo->bo),(∀f,enc (op f)=c::enc f)->(∀f,Wf (op f)=Wf f)->(c=126\/c=69\/c=67)->
    (match(match read n r with|some (f,s)=>B (op f,s)|none=>N)with|some (f,r')=>r'.length<(c::r).length/\Wf f/\cO ⟨S,w,0⟩ (c::r)=cO ⟨S++enc f,w,2⟩ r'|none=>cO ⟨S,w,0⟩ (c::r)=N):=λop he hw hc=>by
   have n1:¬c=75:=by lia
   have n2:¬(c=40\/c=91):=by lia
   have n3:¬(c=84\/(48<=c/\c<=55)):=by lia
   have st:cO ⟨S,w,0⟩ (c::r)=cO ⟨S++[c],w,0⟩ r:=qR (by simp only[eC,j1,if_true,au n1,au n2,au n3,aD hc]);have:=ih r hr (S++[c]) w;rfl'
  by_cases oA:c=126
  .rw[aD oA];exact one .no (λf=>by rw[oA];rfl) (λf=>rfl) (by lia)
  rw[au oA];by_cases hE:c=69
  .rw[aD hE];exact one .every (λf=>by rw[hE];rfl) (λf=>rfl) (by lia)
  rw[au hE];by_cases hC:c=67
  .rw[aD hC];exact one .common (λf=>by rw[hC];rfl) (λf=>rfl) (by lia)
  rw[au hC];by_cases hK:c=75
  .rw[aD hK];subst hK;have st:cO ⟨S,w,0⟩ (75::r)=cO ⟨S,w,1⟩ r:=qR (by simp[eC,j1]);rw[st];cases r with
   |nil=>exact abh S w
   |cons d s=>
    have hs:s.length<n:=by simp at hr;lia
    by_cases hd:97<=d/\d<=100
    .have hJ:cO ⟨S,w,1⟩ (d::s)=cO ⟨S++[d],w,0⟩ s:=qR (by simp[eC,uk,hd]);have:=ih s hs (S++[d]) w;simp only[agentOf,aD hd];cases q:read n s with
     |none=>rw[q]at this;grind
     |some p=>
      obtain⟨f,u⟩:=p;rw[q]at this;have e:97+(d-97)=d:=by lia
      refine⟨by simp;lia,⟨by lia,this.2.1⟩,?_⟩;rw[hJ,this.2.2];simp[enc,e]
    .have hJ:cO ⟨S,w,1⟩ (d::s)=none:=x9 (by simp[eC,uk,hd]);simp only[agentOf,au hd];exact hJ
  rw[au hK];by_cases hT:c=91
  .rw[aD hT];subst hT;have st:cO ⟨S,w,0⟩ (91::r)=cO ⟨S++[91],w++[S.length],0⟩ r:=qR (by simp[eC,j1]);rw[st];have i1:=ih r hr (S++[91]) (w++[S.length]);cases q:read n r with
   |none=>grind
   |some p=>
    obtain⟨f,s⟩:=p;rw[q]at i1;obtain⟨l1,w1,e1⟩:=i1;have PH:(S++[91]++enc f)[S.length]?=B 91:=by simp
    cases s with
    |nil=>rw[e1];exact Hy _ _ _ _
    |cons d s=>
     have hs:s.length<n:=by grind
     by_cases hd:d=93
     .subst hd
      have hJ:cO ⟨S++[91]++enc f,w++[S.length],2⟩ (93::s)=cO ⟨S++[91]++enc f,w,0⟩ s:=
       qR (by simp only[eC,jK,ya,PH];simp)
      have i2:=ih s hs (S++[91]++enc f) w;show(match(match read n s with|some (g,u)=>B (Form.after f g,u)|none=>N)with|some (f',r')=>r'.length<(91::r).length/\Wf f'/\cO ⟨S++[91],w++[S.length],0⟩ r=cO ⟨S++enc f',w,2⟩ r'|none=>cO ⟨S++[91],w++[S.length],0⟩ r=N);rw[e1,hJ];cases q2:read n s with
      |none=>rw[q2]at i2;exact i2
      |some p2=>obtain⟨g,u⟩:=p2;rw[q2]at i2;refine⟨by grind,⟨w1,i2.2.1⟩,?_⟩;rw[i2.2.2];simp[enc]
     .have hJ:cO ⟨S++[91]++enc f,w++[S.length],2⟩ (d::s)=none:=x9 (by simp only[eC,jK,ya,PH];simp[hd]);rfl'
  rw[au hT];by_cases hB:c=40
  .rw[aD hB];subst hB;have st:cO ⟨S,w,0⟩ (40::r)=cO ⟨S++[40],w++[S.length],0⟩ r:=qR (by simp[eC,j1]);rw[st];have i1:=ih r hr (S++[40]) (w++[S.length]);cases q:read n r with
   |none=>grind
   |some p=>
    obtain⟨f,s⟩:=p;rw[q]at i1;obtain⟨l1,w1,e1⟩:=i1;have PJ:(S++[40]++enc f)[S.length]?=B 40:=by simp
    cases s with
    |nil=>rw[e1];exact Hy _ _ _ _
    |cons d s=>
     have hs:s.length<n:=by grind
     show(match(match read n s with|some (g,41::u)=>if d=38 then B (Form.and f g,u)else if d=124 then B (Form.or f g,u)else N|_=>N)with|some (f',r')=>r'.length<(40::r).length/\Wf f'/\cO ⟨S++[40],w++[S.length],0⟩ r=cO ⟨S++enc f',w,2⟩ r'|none=>cO ⟨S++[40],w++[S.length],0⟩ r=N);rw[e1];by_cases hd:d=38\/d=124
     .have abi:(S++[40]++enc f).set S.length d=S++[d]++enc f:=by simp
      have hJ:cO ⟨S++[40]++enc f,w++[S.length],2⟩ (d::s)=cO ⟨S++[d]++enc f,w++[S.length],0⟩ s:=
       qR (by
        simp only[eC,jK,ya,PJ,abi,aD hd]
        simp)
      rw[hJ];have i2:=ih s hs (S++[d]++enc f) (w++[S.length]);cases q2:read n s with
      |none=>grind
      |some p2=>
       obtain⟨g,u⟩:=p2;rw[q2]at i2;obtain⟨l2,w2,e2⟩:=i2;have PK:(S++[d]++enc f++enc g)[S.length]?=B d:=by simp
       cases u with
       |nil=>rw[e2];exact Hy _ _ _ _
       |cons k u=>
        by_cases hk:k=41
        .subst hk;have Dy:¬d=40:=by lia
         have Dz:¬d=91:=by lia
         have um:cO ⟨S++[d]++enc f++enc g,w++[S.length],2⟩ (41::u)=cO ⟨S++[d]++enc f++enc g,w,2⟩ u:=
          qR (by
           simp only[eC,jK,ya,PK]
           simp[Dy,Dz])
         have fin:u.length<(40::r).length:=by grind
         rcases hd with hd|hd
         .subst hd;simp only[if_true];refine⟨fin,⟨w1,w2⟩,?_⟩;rw[e2,um];simp[enc]
         .subst hd;simp only[show¬(124:Nat)=38 by lia,if_false,if_true];refine⟨fin,⟨w1,w2⟩,?_⟩;rw[e2,um];simp[enc]
        .have Dy:¬d=40:=by lia
         have Dz:¬d=91:=by lia
         have um:cO ⟨S++[d]++enc f++enc g,w++[S.length],2⟩ (k::u)=none:=
          x9 (by
           simp only[eC,jK,ya,PK]
           simp[Dy,Dz,hk])
         grind+splitIte
     .have hJ:cO ⟨S++[40]++enc f,w++[S.length],2⟩ (d::s)=none:=x9 (by simp only[eC,jK,ya,PJ,au hd];simp);grind
  rw[au hB];refine x9 ?_;have n2:¬(c=40\/c=91):=by lia
  have n3:¬(c=84\/(48<=c/\c<=55)):=by lia
  have n4:¬(c=126\/c=69\/c=67):=by lia
  simp only[eC,j1,if_true,au hK,au n2,au n3,au n4]
def abj (S:List Nat):cO ⟨S,[],2⟩ []=B S:=by simp[cO,iB]
def abk (S:List Nat)(c:Nat)(t:List Nat):cO ⟨S,[],2⟩ (c::t)=none:=x9 (by simp[eC,jK])
def HA (t:List Nat):cO ⟨[],[],0⟩ t=(readForm t).map enc:=by
 have:=Hz (t.length+1) t (rY _) [] [];unfold readForm;cases q:read (t.length+1) t with
 |none=>grind
 |some p=>
  obtain⟨f,r⟩:=p;rw[q]at this;rw[this.2.2];cases r with
  |nil=>exact abj _
  |cons c r=>exact abk _ c r
def PL (h:readForm t=B f):Wf f:=by have:=Hz (t.length+1) t (rY _) [] [];unfold readForm at h;rfl'
def oC (a v:Nat):Nat:=a^^^(a&&&v)
theorem Ao (a v i:Nat):(oC a v).testBit i=(a.testBit i&&!v.testBit i):=by unfold oC;rfl'
def subB (a v:Nat):Bool:=a&&&v==a
theorem Ap (a v:Nat):subB a v=L↔∀i,a.testBit i=L->v.testBit i=true:=by
 unfold subB;rw[pq];constructor
 .grind
 .intro h;refine nF λi=>?_<;>grind
noncomputable def iI (p:Nat->Bool):Nat->Nat
 |0=>0
 |k+1=>if p k=L then iI p k|||2^k else iI p k
theorem iJ (p:Nat->Bool):∀k j,(iI p k).testBit j=(decide (j<k)&&p j)
 |0,j=>by simp[iI]
 |k+1,j=>by
  unfold iI;by_cases hj:j=k
  .subst hj;split
   .grind
   .rename_i h;rw[iJ p j j];grobner
  .have e:decide (j<k+1)=decide (j<k):=by grobner
   split
   .rw[rZ,iJ p k j,Nat.testBit_two_pow_of_ne (λz=>hj z.symm),DA,e]
   .rw[iJ p k j,e]
theorem Aq (h:∀j,j<k->p j=q j):iI p k=iI q k:=by refine nF λj=>?_;rw[iJ,iJ];rfl'
def Fits (k o:Nat):Prop:=∀j,o.testBit j=L->j<k
theorem vW (p:Nat->Bool)(k:Nat):Fits k (iI p k):=λj h=>by rw[iJ]at h;grind
noncomputable def gU (see:Nat->Nat)(v o:Nat)(k:Nat):Nat:=iI (λi=>o.testBit i&&subB (see i&&&o) v) k
def dZ (m:Model)(u:Nat):Nat:=(ae m).idxOf u
def sub (m:Model)(o:Nat):Model:=only m λu=>o.testBit (dZ m u)
def at_ (m:Model)(i:Nat):Nat:=(ae m).getD i 0
theorem gD (m:Model):(ae m).length=m.states.length:=by simp[ae]
theorem r9 (m:Model)(p:Nat->Bool):ae (only m p)=(ae m).filter p:=by unfold ae only;rw[yb];rfl
theorem abl (m:Model)(o:Nat):ae (sub m o)=(ae m).filter λu=>o.testBit (dZ m u):=r9 m _
theorem lE (h:u∈ae m):dZ m u<(ae m).length:=DB.mpr h
theorem abm (h:¬u∈ae m):dZ m u=(ae m).length:=by unfold dZ;grind
theorem getD_get {l:List Nat}{i:Nat}(h:i<l.length):l.getD i 0=l[i]:=by grind
theorem pz (h:u∈ae m):at_ m (dZ m u)=u:=by unfold at_ dZ;grind
theorem PM (h:i<(ae m).length):at_ m i∈ae m:=by unfold at_;grind
theorem yd (hn:(ae m).Nodup)(h:i<(ae m).length):dZ m (at_ m i)=i:=by unfold at_ dZ;grind
theorem sh {p:Nat->Bool}{l:List Nat}:(l.filter p)=l.filter λu=>(l.filter p).contains u:=by refine si λu hu=>?_<;>grind
theorem nG:∀(f:bo)(m:Model),aU f m=(ae m).filter λu=>(aU f m).contains u
 |.top,m=>by unfold aU;refine(vX.mpr λu hu=>?_).symm;grind
 |.atom i,m=>by unfold aU;exact sh
 |.no f,m=>by unfold aU;exact sh
 |.and f g,m=>by unfold aU;dsimp only;rw[nG g m,DC];exact sh
 |.or f g,m=>by unfold aU;exact sh
 |.know a f,m=>by unfold aU;exact sh
 |.every f,m=>by unfold aU;exact sh
 |.common f,m=>by unfold aU;exact sh
 |.after f g,m=>by unfold aU;exact sh
theorem Ar (h:u∈aU f m):u∈ae m:=by rw[nG]at h;grind
theorem abn (h:holds f m u=L):u∈ae m:=by unfold holds at h;rw[HC]at h;exact Ar (of_decide_eq_true h)
theorem holds_iff:holds f m u=L↔u∈aU f m:=by unfold holds;simp
def val (m:Model)(f:bo)(o:Nat):Nat:=iI (λi=>holds f (sub m o) (at_ m i)) (ae m).length
theorem pC (m:Model)(f:bo)(o i:Nat):(val m f o).testBit i=(decide (i<(ae m).length)&&holds f (sub m o) (at_ m i)):=iJ _ _ _
theorem j2 (m:Model)(f:bo)(o:Nat):Fits (ae m).length (val m f o):=vW _ _
theorem As:u∈ae (sub m o)↔u∈ae m/\o.testBit (dZ m u)=true:=by rw[abl];simp
theorem Au (hn:(ae m).Nodup)(h:i<(ae m).length):at_ m i∈ae (sub m o)↔o.testBit i=true:=by rw[As,yd hn h];exact⟨λz=>z.2,λz=>⟨PM h,z⟩⟩
theorem HD (m:Model)(f:bo)(o u:Nat)(ho:Fits (ae m).length o):(val m f o).testBit (dZ m u)=(o.testBit (dZ m u)&&(aU f (sub m o)).contains u):=by
 rw[pC];by_cases h:u∈ae m
 .rw[pz h,cw (lE h),gc];cases q:o.testBit (dZ m u)with
  |true=>rfl
  |false=>rw[ye,Av];intro z;have:=(As.mp (abn z)).2;rw[q]at this;cases this
 .rw[abm h]
  have:o.testBit (ae m).length=false:=by rw[Av];intro z;exact sj _ (ho _ z)
  simp[this]
theorem val_sub (m:Model)(f:bo)(o:Nat)(ho:Fits (ae m).length o):sub m (val m f o)=only (sub m o) λu=>(aU f (sub m o)).contains u:=by
 unfold sub only;dsimp only;rw[DC,DC];congr 1
 .refine si λx _=>?_;rw[HD m f o x.id ho,Bool.and_comm];rfl
 .refine si λl _=>?_;rw[HD m f o l.u ho,HD m f o l.v ho];show _=(((aU f (sub m o)).contains l.u&&(aU f (sub m o)).contains l.v)&&(o.testBit (dZ m l.u)&&o.testBit (dZ m l.v)));rfl'
section
variable{m:Model}(hn:(ae m).Nodup)
theorem sm (ha:Fits k a)(hb:Fits k b)(h:∀i,i<k->a.testBit i=b.testBit i):a=b:=by
 refine nF λi=>?_;by_cases hi:i<k
 .exact h i hi
 .have h1:a.testBit i=false:=by rw[Av];exact λz=>hi (ha i z)
  have h2:b.testBit i=false:=by rw[Av];exact λz=>hi (hb i z)
  rw[h1,h2]
theorem PN (ha:Fits k a):Fits k (a&&&b):=λj h=>by rw[mn]at h;simp at h;exact ha j h.1
theorem PQ (ha:Fits k a)(hb:Fits k b):Fits k (a|||b):=λj h=>by rw[rZ]at h;simp at h;exact h.elim (ha j) (hb j)
theorem PR (ha:Fits k a):Fits k (oC a b):=λj h=>by rw[Ao]at h;simp at h;exact ha j h.1
include hn
theorem HE (hi:i<(ae m).length):at_ m i∈aU f (sub m o)↔(val m f o).testBit i=true:=by rw[pC,cw hi,gc];exact holds_iff.symm
theorem sr (hi:i<(ae m).length):(aU f (sub m o)).contains (at_ m i)=(val m f o).testBit i:=by rw[pC,cw hi,gc];rfl
theorem vY (hi:i<(ae m).length):((ae (sub m o)).filter p).contains (at_ m i)=(o.testBit i&&p (at_ m i)):=by rw[HC];rw[mq,decide_eq_true_iff,fw,Au hn hi,fQ]
theorem abo (ho:Fits (ae m).length o):val m .top o=o:=by refine sm (j2 _ _ _) ho λi hi=>?_;rw[pC,cw hi,gc];unfold holds aU;rw[HC,mq,decide_eq_true_iff];exact Au hn hi
theorem abp (h:o.testBit (dZ m u)=L):cF (sub m o) u=cF m u:=by unfold cF sub only;grind
theorem abq (ha:∀i,atoms.testBit i=(decide (i<(ae m).length)&&(cF m (at_ m i)).testBit k)):val m (.atom k) o=atoms&&&o:=by
 refine sm (j2 _ _ _) (PN λj h=>?_) λi hi=>?_
 .grind
 .rw[pC,cw hi,gc];unfold holds aU;rw[vY hn hi,mn,ha,cw hi,gc];cases q:o.testBit i with
  |false=>simp
  |true=>rw[abp hn (by rw[yd hn hi];exact q)];simp
theorem abr (ho:Fits (ae m).length o):val m (.no f) o=oC o (val m f o):=by refine sm (j2 _ _ _) (PR ho) λi hi=>?_;rw[pC,cw hi,gc,Ao];unfold holds aU;dsimp only;rw[vY hn hi,sr hn hi]
theorem abt:val m (.and f g) o=val m f o&&&val m g o:=by refine sm (j2 _ _ _) (PN (j2 _ _ _)) λi hi=>?_;rw[pC,cw hi,gc,mn,<-sr hn hi,<-sr hn hi];unfold holds;show((aU g (sub m o)).filter λu=>(aU f (sub m o)).contains u).contains (at_ m i)=_;grind
theorem vZ (hi:i<(ae m).length)(h:(val m f o).testBit i=L):o.testBit i=true:=by have:=Ar ((HE hn hi).mpr h);exact(Au hn hi).mp this
theorem abu:val m (.or f g) o=val m f o|||val m g o:=by refine sm (j2 _ _ _) (PQ (j2 _ _ _) (j2 _ _ _)) λi hi=>?_;have h1:=vZ hn (f:=f) (o:=o) hi;have h2:=vZ hn (f:=g) (o:=o) hi;rw[pC,cw hi,gc,rZ];unfold holds aU;dsimp only;rw[vY hn hi,sr hn hi,sr hn hi];rfl'
theorem abv (ho:Fits (ae m).length o):val m (.after f g) o=oC o (val m f o)|||val m g (val m f o):=by refine sm (j2 _ _ _) (PQ (PR ho) (j2 _ _ _)) λi hi=>?_;have h1:=vZ hn (f:=f) (o:=o) hi;have h2:=vZ hn (f:=g) (o:=val m f o) hi;rw[pC,cw hi,gc,rZ,Ao];unfold holds aU;dsimp only;rw[<-val_sub m f o ho,vY hn hi,sr hn hi,sr hn hi];rfl'
def su (m:Model)(q:cD->Bool)(see:Nat->Nat):Prop:=∀i j,i<(ae m).length->(see i).testBit j=(decide (j<(ae m).length)&&m.links.any λl=>q l&&(l.u==at_ m i&&l.v==at_ m j))
theorem PU (hs:su m q see)(hi:i<(ae m).length)(hv:Fits (ae m).length v)(hvo:∀j,v.testBit j=L->o.testBit j=L)(S:List Nat)(hS:∀j,j<(ae m).length->S.contains (at_ m j)=v.testBit j)(yf:o.testBit i=L):
  (((ae (sub m o)).filter λv=>(sub m o).links.any λl=>q l&&(l.u==at_ m i&&l.v==v)).all λv=>S.contains v)=subB (see i&&&o) v:=by
 rw[mq,iK,Ap];constructor
 .intro h j hj;rw[mn,fQ,hs i j hi,fQ,decide_eq_true_iff]at hj;obtain⟨⟨wa,hl⟩,PV⟩:=hj;rw[<-hS j wa];refine h _ (fw.mpr ⟨(Au hn wa).mpr PV,?_⟩);obtain⟨l,dU,jc⟩:=nH.mp hl;refine nH.mpr ⟨l,fw.mpr ⟨dU,?_⟩,jc⟩;rw[fQ,fQ,pq,pq]at jc;show(o.testBit (dZ m l.u)&&o.testBit (dZ m l.v))=L;rw[jc.2.1,jc.2.2,yd hn hi,yd hn wa,yf,PV];rfl
 .intro h x hx;obtain⟨pE,HF⟩:=fw.mp hx;obtain⟨wb,hx4⟩:=As.mp pE;have hp:=lE wb;have e:=pz wb;rw[<-e,hS _ hp];refine h _ ?_;rw[mn,hx4,DE,hs i _ hi,cw hp,gc,e];obtain⟨l,dU,jc⟩:=nH.mp HF;exact nH.mpr ⟨l,(fw.mp dU).1,jc⟩
theorem abx (hs:su m (λl=>l.a==a) see):val m (.know a f) o=gU see (val m f o) o (ae m).length:=by
 refine Aq λi hi=>?_;unfold holds aU;dsimp only;rw[vY hn hi];cases q:o.testBit i with
 |false=>rfl
 |true=>exact cb _ (PU hn hs hi (j2 m f o) (λj hj=>vZ hn (j2 m f o j hj) hj) _ (λj hj=>sr hn hj) q)
theorem aby (hs:su m (λ_=>L) see):val m (.every f) o=gU see (val m f o) o (ae m).length:=by
 refine Aq λi hi=>?_;unfold holds aU;dsimp only;rw[vY hn hi];cases q:o.testBit i with
 |false=>rfl
 |true=>have:=PU hn hs hi (j2 m f o) (λj hj=>vZ hn (j2 m f o j hj) hj) _ (λj hj=>sr hn hj) q;simp only[gc]at this;exact cb _ this
end
theorem filter_mono {l:List Nat}{p q:Nat->Bool}(h:∀a,a∈l->p a=L->q a=L):(l.filter p).Sublist (l.filter q):=by
 have e:l.filter p=(l.filter q).filter p:=by rw[DC];refine si λa ha=>?_<;>simp_all
 rw[e];exact List.filter_sublist
def yg (m:Model)(l:List Nat):Prop:=∃p,l=(ae m).filter p
theorem Aw (m:Model)(u:Nat):yg m (seenBy m u):=⟨_,O⟩
theorem yg.mem (h:yg m l)(hv:v∈l):v∈ae m:=by obtain⟨p,rfl⟩:=h;grind
noncomputable def nextOf (m:Model)(l:List Nat):List Nat:=(ae m).filter λv=>l.contains v||(l.flatMap (seenBy m)).contains v
theorem PX:v∈nextOf m l↔v∈ae m/\(v∈l\/∃x,x∈l/\v∈seenBy m x):=by unfold nextOf;simp
theorem HG (m:Model)(n:Nat)(l:List Nat):spread m (n+1) l=if(nextOf m l).length=l.length then nextOf m l else spread m n (nextOf m l):=rfl
theorem PY {m:Model}{l:List Nat}(h:yg m l):l.Sublist (nextOf m l):=by
 obtain⟨p,e⟩:=h
 have this:l=(ae m).filter λv=>l.contains v:=by rw[e];exact sh
 have k:((ae m).filter λv=>l.contains v).Sublist (nextOf m l):=filter_mono λa _ ha=>by rw[ha];rfl
 grind
theorem PZ:∀{n:Nat}{l:List Nat},yg m l->∀v,v∈l->v∈spread m n l
 |0,l,_,v,hv=>hv
 |n+1,l,h,v,hv=>by
  rw[HG];have h1:v∈nextOf m l:=(PY h).subset hv;split
  .exact h1
  .exact PZ ⟨_,O⟩ v h1
theorem P0 {m:Model}{D:Nat->Prop}(hD:∀v,D v->∀x,x∈seenBy m v->D x):∀{n:Nat}{l:List Nat},(∀v,v∈l->D v)->∀v,v∈spread m n l->D v
 |0,l,h,v,hv=>h v hv
 |n+1,l,h,v,hv=>by
  have h1:∀x,x∈nextOf m l->D x:=λx hx=>by rcases(PX.mp hx).2 with z|⟨y,hy,z⟩<;>grind
  rw[HG]at hv;split at hv
  .exact h1 v hv
  .exact P0 hD h1 v hv
theorem P1:∀{n:Nat}{l:List Nat},yg m l->(ae m).length<=n+l.length->∀v,v∈spread m n l->∀x,x∈seenBy m v->x∈spread m n l
 |0,l,h,hl,v,hv,x,hx=>by
  obtain⟨p,e⟩:=h;have hs:l.Sublist (ae m):=by simp_all
  have:l=ae m:=hs.eq_of_length_le (by cutsat);show x∈l;rw[this];exact(Aw m v).mem hx
 |n+1,l,h,hl,v,hv,x,hx=>by
  have s:=PY h;rw[HG]at hv ⊢;split
  .rename_i q;rw[aD q]at hv;have e:l=nextOf m l:=s.eq_of_length q.symm;exact PX.mpr ⟨(Aw m v).mem hx,.inr ⟨v,by grobner,hx⟩⟩
  .rename_i q;rw[au q]at hv;have:=s.length_le;exact P1 (l:=nextOf m l) ⟨_,O⟩ (by cutsat) v hv x hx
theorem HH (h:v∈seenBy m u):v∈chained m u:=PZ (Aw m u) v h
theorem HI (h:v∈chained m u)(hx:x∈seenBy m v):x∈chained m u:=
 P1 (Aw m u) (by rw[gD];lia) v h x hx
theorem HJ {m:Model}{u:Nat}{D:Nat->Prop}(h1:∀v,v∈seenBy m u->D v)(h2:∀v,D v->∀x,x∈seenBy m v->D x):∀v,v∈chained m u->D v:=P0 h2 h1
theorem abz {m:Model}{u v:Nat}(h:v∈seenBy m u):∀x,x∈chained m v->x∈chained m u:=
 HJ (λx hx=>HI (HH h) hx) λy hy x hx=>HI hy hx
section
variable{m:Model}(hn:(ae m).Nodup)
include hn
theorem HK (hi:i<(ae m).length):(val m (.common f) o).testBit i=L↔o.testBit i=L/\∀v,v∈chained (sub m o) (at_ m i)->v∈aU f (sub m o):=by rw[pC,cw hi,gc];show((ae (sub m o)).filter λu=>(chained (sub m o) u).all λv=>(aU f (sub m o)).contains v).contains (at_ m i)=L↔_;rw[vY hn hi,fQ,iK];all_goals simp
theorem P2 (hs:su m (λ_=>L) see)(hi:i<(ae m).length)(hj:j<(ae m).length)(yf:o.testBit i=L):at_ m j∈seenBy (sub m o) (at_ m i)↔(see i).testBit j=L/\o.testBit j=true:=by
 unfold seenBy;rw[fw,Au hn hj,hs i j hi,cw hj,gc];constructor
 .rintro⟨h1,h2⟩;obtain⟨l,dU,jc⟩:=nH.mp h2;exact⟨nH.mpr ⟨l,(fw.mp dU).1,by grind⟩,h1⟩
 .rintro⟨h1,h2⟩;refine⟨h2,?_⟩;obtain⟨l,dU,jc⟩:=nH.mp h1;rw[gc]at jc;refine nH.mpr ⟨l,fw.mpr ⟨dU,?_⟩,jc⟩;rw[fQ,pq,pq]at jc;show(o.testBit (dZ m l.u)&&o.testBit (dZ m l.v))=L;rw[jc.1,jc.2,yd hn hi,yd hn hj,yf,h2];rfl
theorem abA (h:v∈seenBy (sub m o) u):v∈ae m/\o.testBit (dZ m v)=true:=As.mp ((Aw _ _).mem h)
theorem abB (hs:su m (λ_=>L) see)(h:∀i,(val m (.common f) o).testBit i=L->F.testBit i=L):
  ∀i,(val m (.common f) o).testBit i=L->(gU see (val m f o&&&F) o (ae m).length).testBit i=true:=λi hi=>by
 have DF:=j2 _ _ _ i hi;obtain⟨yf,hc⟩:=(HK hn DF).mp hi;unfold gU;rw[iJ,cw DF,gc,fQ,Ap];refine⟨yf,λj hj=>?_⟩;rw[mn,fQ]at hj
 have wa:j<(ae m).length:=by have:=hj.1;rw[hs i j DF,fQ,decide_eq_true_iff]at this;exact this.1
 have hb:at_ m j∈seenBy (sub m o) (at_ m i):=(P2 hn hs DF wa yf).mpr hj;rw[mn,fQ];refine⟨(HE hn wa).mp (hc _ (HH hb)),h j ((HK hn wa).mpr ⟨hj.2,λv hv=>hc v (abz hb v hv)⟩)⟩
theorem abC {o F:Nat}{see:Nat->Nat}(hs:su m (λ_=>L) see)(h:∀i,(val m (.common f) o).testBit i=L->F.testBit i=L)(hF:gU see (val m f o&&&F) o (ae m).length=F):
  F=val m (.common f) o:=by
 have fF:Fits (ae m).length F:=by rw[<-hF];exact vW _ _
 refine sm fF (j2 _ _ _) λi hi=>?_;rw[mq];refine⟨λz=>?_,h i⟩
 have step:∀i,i<(ae m).length->F.testBit i=L->o.testBit i=L/\∀x,x∈seenBy (sub m o) (at_ m i)->x∈aU f (sub m o)/\F.testBit (dZ m x)=true:=λi hi z=>by rw[<-hF]at z;unfold gU at z;rw[iJ,cw hi,gc,fQ,Ap]at z;refine⟨z.1,λx hx=>?_⟩;obtain⟨pE,HF⟩:=abA hn hx;have e:=pz pE;have hp:=lE pE;rw[<-e]at hx;have:=z.2 (dZ m x) (by rw[mn,fQ];exact(P2 hn hs hi hp z.1).mp hx);rw[mn,fQ]at this;refine⟨?_,this.2⟩;rw[<-e];exact(HE hn hp).mpr this.1
 refine(HK hn hi).mpr ⟨(step i hi z).1,λv hv=>?_⟩;have:=HJ (m:=sub m o) (u:=at_ m i) (D:=λx=>x∈aU f (sub m o)/\F.testBit (dZ m x)=L) (λx hx=>(step i hi z).2 x hx) (λx hx y hy=>?_) v hv
 .exact this.1
 .have pE:=(As.mp (Ar hx.1)).1;have e:=pz pE;rw[<-e]at hy;exact(step _ (lE pE) hx.2).2 y hy
end
theorem abD (h:∀i,F'.testBit i=L->F.testBit i=L):∀i,(gU see (v&&&F') o k).testBit i=L->(gU see (v&&&F) o k).testBit i=true:=λi hi=>by unfold gU at hi ⊢;rw[iJ,fQ,fQ,Ap]at hi ⊢;grind
theorem abE:∀i,(gU see v o k).testBit i=L->o.testBit i=true:=λi hi=>by unfold gU at hi;rw[iJ,fQ,fQ]at hi;exact hi.2.1
theorem sub_lt {a b:Nat}(h:∀i,a.testBit i=L->b.testBit i=L)(ck:a≠b):a<b:=by have e:subB a b=true:=(Ap a b).mpr h;unfold subB at e;have e:=beq_iff_eq.mp e;have:a&&&b<=b:=Nat.and_le_right;lia
section
variable(see:Nat->Nat)(v o k:Nat)
def gE (F:Nat):Nat:=gU see (v&&&F) o k
noncomputable def fI:Nat->Nat->Nat
 |0,F=>F
 |n+1,F=>if gE see v o k F=F then F else fI n (gE see v o k F)
def wc:Nat:=fI see v o k o o
def uo (F:Nat):Prop:=∀i,(gE see v o k F).testBit i=L->F.testBit i=L
end
section
variable{see:Nat->Nat}{v o k:Nat}
def P4:uo see v o k o:=abE
def Ax (h:uo see v o k F):uo see v o k (gE see v o k F):=abD h
theorem HL:∀(aR F:Nat),F<=aR->∀n,F<=n->uo see v o k F->fI see v o k n F=fI see v o k F F
 |0,F,hN,n,hn,hF=>by
  have e:F=0:=by lia
  subst e
  have z:gE see v o k 0=0:=by
   refine nF λi=>?_;cases q:(gE see v o k 0).testBit i with
   |false=>simp
   |true=>rw[<-hF i q]
  cases n with
  |zero=>rfl
  |succ n=>simp[fI,z]
 |aR+1,F,hN,n,hn,hF=>by
  by_cases q:gE see v o k F=F
  .have:∀n,fI see v o k n F=F:=λn=>by
    cases n with
    |zero=>rfl
    |succ n=>simp[fI,q]
   grind
  .have lt:gE see v o k F<F:=sub_lt hF q;obtain⟨a,rfl⟩:∃a,n=a+1:=⟨n-1,by lia⟩;obtain⟨b,eb⟩:∃b,F=b+1:=⟨F-1,by lia⟩;have e1:fI see v o k (a+1) F=fI see v o k a (gE see v o k F):=by simp[fI,q]
   have e2:fI see v o k F F=fI see v o k b (gE see v o k F):=by
    conv=>lhs;arg 5;rw[eb]
    simp[fI,q]
   rw[e1,e2,HL aR _ (by lia) a (by lia) (Ax hF),HL aR _ (by lia) b (by lia) (Ax hF)]
def abF (h:gE see v o k F=F):fI see v o k F F=F:=by
 cases F with
 |zero=>rfl
 |succ n=>simp[fI,h]
def abG (hF:uo see v o k F)(h:¬gE see v o k F=F):fI see v o k (gE see v o k F) (gE see v o k F)=fI see v o k F F/\gE see v o k F<F:=by
 have lt:gE see v o k F<F:=sub_lt hF h;refine⟨?_,lt⟩;obtain⟨b,eb⟩:∃b,F=b+1:=⟨F-1,by cutsat⟩
 have e2:fI see v o k F F=fI see v o k b (gE see v o k F):=by
  conv=>lhs;arg 5;rw[eb]
  simp[fI,h]
 rw[e2];exact(HL _ _ (aX _) b (by cutsat) (Ax hF)).symm
theorem P5:∀(n F:Nat),F<=n->uo see v o k F->∀C:Nat,(∀i,C.testBit i=L->F.testBit i=L)->
  (∀F,(∀i,C.testBit i=L->F.testBit i=L)->∀i,C.testBit i=L->(gE see v o k F).testBit i=L)->
  gE see v o k (fI see v o k n F)=fI see v o k n F/\∀i,C.testBit i=L->(fI see v o k n F).testBit i=L
 |0,F,hn,hF,C,hC,hs=>by
  have e:F=0:=by lia
  subst e;refine⟨?_,hC⟩;refine nF λi=>?_;show(gE see v o k 0).testBit i=(0:Nat).testBit i;cases q:(gE see v o k 0).testBit i with
  |false=>simp
  |true=>rw[<-hF i q]
 |n+1,F,hn,hF,C,hC,hs=>by
  by_cases q:gE see v o k F=F
  .have:fI see v o k (n+1) F=F:=by simp[fI,q]
   grind
  .have lt:gE see v o k F<F:=sub_lt hF q;have:fI see v o k (n+1) F=fI see v o k n (gE see v o k F):=by simp[fI,q]
   rw[this];exact P5 n _ (by lia) (Ax hF) C (hs F hC) hs
end
def abH (hn:(ae m).Nodup)(hs:su m (λ_=>L) see):val m (.common f) o=wc see (val m f o) o (ae m).length:=by have h0:∀i,(val m (.common f) o).testBit i=L->o.testBit i=true:=λi hi=>vZ hn (j2 _ _ _ i hi) hi;obtain⟨h1,h2⟩:=P5 (see:=see) (v:=val m f o) (o:=o) (k:=(ae m).length) o o (aX _) P4 _ h0 λF hF=>abB hn hs hF;exact(abC hn hs h2 h1).symm
structure Vw where
 n:Nat
 atoms:Nat->Nat
 see:Nat->Nat->Nat
 any:Nat->Nat
structure HM (m:Model)(w:Vw):Prop where
 nd:(ae m).Nodup
 n:w.n=(ae m).length
 atoms:∀k,k<8->∀i,(w.atoms k).testBit i=(decide (i<(ae m).length)&&(cF m (at_ m i)).testBit k)
 see:∀a,a<4->su m (λl=>l.a==a) (w.see a)
 any:su m (λ_=>L) w.any
structure Pd where
 sign:Nat
 only:Nat
 first:Option Nat
noncomputable def valueOf (w:Vw)(p:Pd)(e:Nat):Nat:=
 if p.sign=126 then oC p.only e
 else if p.sign=38 then p.first.getD 0&&&e
 else if p.sign=124 then p.first.getD 0|||e
 else if p.sign=91 then oC p.only (p.first.getD 0)|||e
 else if p.sign=69 then gU w.any e p.only w.n
 else if p.sign=67 then wc w.any e p.only w.n
 else gU (w.see (p.sign-97)) e p.only w.n
structure Wk where
 pend:List Pd
 only:Nat
 value:Nat
noncomputable def hU (w:Vw):List Pd->Nat->Nat->Nat->Wk
 |[],o,_,e=>⟨[],o,e⟩
 |p::r,o,old,e=>if p.first=N/\parts p.sign=2 then⟨⟨p.sign,p.only,B e⟩::r,if p.sign=91 then e else o,old⟩else hU w r p.only old (valueOf w p e)
noncomputable def j3 (w:Vw)(s:Wk)(c:Nat):Wk:=
 if 0<parts c then⟨⟨c,s.only,N⟩::s.pend,s.only,s.value⟩
 else if c=84 then hU w s.pend s.only s.value s.only
 else hU w s.pend s.only s.value (w.atoms (c-48)&&&s.only)
def mr (w:Vw)(s:Wk)(l:List Nat):Wk:=l.foldl (j3 w) s
def DH (w:Vw)(s:Wk)(a b:List Nat):mr w s (a++b)=mr w (mr w s a) b:=DI ..
def jd (h:c=126\/c=69\/c=67\/(97<=c/\c<=100)):parts c=1:=by unfold parts;grind
def iC (h:c=38\/c=124\/c=91):parts c=2:=by unfold parts;grind
def sv (h:c=84\/(48<=c/\c<=55)):parts c=0:=by unfold parts;rw[aD h]
def uq (h:0<parts c):j3 w s c=⟨⟨c,s.only,N⟩::s.pend,s.only,s.value⟩:=by unfold j3;rw[aD h]
def DJ (h:parts c=1):hU w (⟨c,o,N⟩::r) o' old e=hU w r o old (valueOf w ⟨c,o,N⟩ e):=by rw[hU,au (by rw[h];lia)]
def HN (h:parts c=2):hU w (⟨c,o,N⟩::r) o' old e=⟨⟨c,o,B e⟩::r,if c=91 then e else o',old⟩:=by rw[hU,aD ⟨O,h⟩]
def HP:hU w (⟨c,o,B x⟩::r) o' old e=hU w r o old (valueOf w ⟨c,o,B x⟩ e):=by rw[hU,au (by simp)]
theorem pF (S:HM m w):∀(f:bo),Wf f->∀(pd:List Pd)(o old:Nat),Fits (ae m).length o->mr w ⟨pd,o,old⟩ (enc f)=hU w pd o old (val m f o)
 |.top,_,pd,o,old,ho=>by rw[abo S.nd ho];rfl
 |.atom i,hi,pd,o,old,ho=>by have hi:i<8:=hi;rw[abq S.nd (S.atoms i hi)];have h0:parts (48+i)=0:=sv (by lia);show j3 w ⟨pd,o,old⟩ (48+i)=_;unfold j3;grind
 |.no f,h,pd,o,old,ho=>by show mr w (j3 w ⟨pd,o,old⟩ 126) (enc f)=_;rw[uq (by rw[jd (by lia)];lia),pF S f h _ _ _ ho,DJ (jd (by lia)),abr S.nd ho];rfl
 |.and f g,⟨h1,h2⟩,pd,o,old,ho=>by show mr w (j3 w ⟨pd,o,old⟩ 38) (enc f++enc g)=_;rw[uq (by rw[iC (by lia)];lia),DH,pF S f h1 _ _ _ ho,HN (iC (by lia)),au (by lia),pF S g h2 _ _ _ ho,HP,abt S.nd];rfl
 |.or f g,⟨h1,h2⟩,pd,o,old,ho=>by show mr w (j3 w ⟨pd,o,old⟩ 124) (enc f++enc g)=_;rw[uq (by rw[iC (by lia)];lia),DH,pF S f h1 _ _ _ ho,HN (iC (by lia)),au (by lia),pF S g h2 _ _ _ ho,HP,abu S.nd];rfl
 |.know a f,⟨ha,h⟩,pd,o,old,ho=>by show mr w (j3 w ⟨pd,o,old⟩ (97+a)) (enc f)=_;rw[uq (by rw[jd (by lia)];lia),pF S f h _ _ _ ho,DJ (jd (by lia)),abx S.nd (S.see a ha)];unfold valueOf;rw[au (by grind),au (by grind),au (by grind),au (by grind),au (by grind),au (by grind)];show hU w pd o old (gU (w.see (97+a-97)) (val m f o) o w.n)=_;rw[show 97+a-97=a by lia,S.n]
 |.every f,h,pd,o,old,ho=>by show mr w (j3 w ⟨pd,o,old⟩ 69) (enc f)=_;rw[uq (by rw[jd (by lia)];lia),pF S f h _ _ _ ho,DJ (jd (by lia)),aby S.nd S.any,<-S.n];rfl
 |.common f,h,pd,o,old,ho=>by show mr w (j3 w ⟨pd,o,old⟩ 67) (enc f)=_;rw[uq (by rw[jd (by lia)];lia),pF S f h _ _ _ ho,DJ (jd (by lia)),abH S.nd S.any,<-S.n];rfl
 |.after f g,⟨h1,h2⟩,pd,o,old,ho=>by show mr w (j3 w ⟨pd,o,old⟩ 91) (enc f++enc g)=_;rw[uq (by rw[iC (by lia)];lia),DH,pF S f h1 _ _ _ ho,HN (iC (by lia)),aD O,pF S g h2 _ _ _ (j2 _ _ _),HP,abv S.nd ho];rfl
def HQ (n i:Nat):(2^n-1).testBit i=decide (i<n):=Nat.testBit_two_pow_sub_one ..
def abI (m:Model)(hl:∀l,l∈m.links->l.u∈ae m/\l.v∈ae m):sub m (2^(ae m).length-1)=m:=by
 unfold sub only
 have e1:m.states.filter (λx=>(2^(ae m).length-1).testBit (dZ m x.id))=m.states:=vX.mpr λx hx=>by rw[HQ];exact cw (lE (cx.mpr ⟨x,hx,O⟩))
 have e2:m.links.filter (λl=>(2^(ae m).length-1).testBit (dZ m l.u)&&(2^(ae m).length-1).testBit (dZ m l.v))=m.links:=vX.mpr λl h=>by rw[HQ,HQ,cw (lE (hl l h).1),cw (lE (hl l h).2)];rfl
 show({states:=_,links:=_}:Model)=m;rw[e1,e2]
def abJ (S:HM m w)(hl:∀l,l∈m.links->l.u∈ae m/\l.v∈ae m)(hf:Wf f):∀i,i<(ae m).length->(mr w ⟨[],2^(ae m).length-1,0⟩ (enc f)).value.testBit i=(aU f m).contains (at_ m i):=λi hi=>by rw[pF S f hf _ _ _ (λj hj=>by grind)];show(val m f _).testBit i=_;rw[pC,abI m hl,cw hi,gc];rfl
section
variable{α:Type}
noncomputable def cJ (cS:Nat->List α->α):List Nat->List α->List α
 |[],st=>st
 |c::r,st=>cS c ((cJ cS r st).take (parts c))::(cJ cS r st).drop (parts c)
noncomputable def gf (cS:Nat->List α->α):bo->α
 |.top=>cS 84 []
 |.atom i=>cS (48+i) []
 |.no f=>cS 126 [gf cS f]
 |.and f g=>cS 38 [gf cS f,gf cS g]
 |.or f g=>cS 124 [gf cS f,gf cS g]
 |.know a f=>cS (97+a) [gf cS f]
 |.every f=>cS 69 [gf cS f]
 |.common f=>cS 67 [gf cS f]
 |.after f g=>cS 91 [gf cS f,gf cS g]
def DK (h:parts c=1)(e:cJ cS r st=x::fT):cJ cS (c::r) st=cS c [x]::fT:=by rw[cJ,e,h];rfl
def HR (h:parts c=2)(e:cJ cS r st=x::y::fT):cJ cS (c::r) st=cS c [x,y]::fT:=by rw[cJ,e,h];rfl
def P6 (h:parts c=0):cJ cS (c::r) st=cS c []::cJ cS r st:=by rw[cJ,h];rfl
theorem mw (cS:Nat->List α->α)(st:List α):∀(f:bo),Wf f->∀r,cJ cS (enc f++r) st=gf cS f::cJ cS r st
 |.top,_,r=>P6 (sv (by cutsat))
 |.atom i,h,r=>P6 (sv (by have:i<8:=h;cutsat))
 |.no f,h,r=>DK (jd (by cutsat)) (mw cS st f h r)
 |.every f,h,r=>DK (jd (by cutsat)) (mw cS st f h r)
 |.common f,h,r=>DK (jd (by cutsat)) (mw cS st f h r)
 |.know a f,⟨ha,h⟩,r=>DK (jd (by cutsat)) (mw cS st f h r)
 |.and f g,⟨h1,h2⟩,r=>HR (iC (by cutsat)) (show cJ cS ((enc f++enc g)++r) st=_ by rw[iD,mw cS st f h1,mw cS st g h2])
 |.or f g,⟨h1,h2⟩,r=>HR (iC (by cutsat)) (show cJ cS ((enc f++enc g)++r) st=_ by rw[iD,mw cS st f h1,mw cS st g h2])
 |.after f g,⟨h1,h2⟩,r=>HR (iC (by cutsat)) (show cJ cS ((enc f++enc g)++r) st=_ by rw[iD,mw cS st f h1,mw cS st g h2])
end
def kP (_:Nat)(l:List Nat):Nat:=l.foldl max 0+1
theorem pH:∀f:bo,gf kP f=f.deep
 |.top=>rfl
 |.atom _=>rfl
 |.no f=>by simp only[gf,pH f,wd,kP,qT];lia
 |.every f=>by simp only[gf,pH f,wd,kP,qT];lia
 |.common f=>by simp only[gf,pH f,wd,kP,qT];lia
 |.know _ f=>by simp only[gf,pH f,wd,kP,qT];lia
 |.and f g=>by simp only[gf,pH f,pH g,wd,kP,qT];lia
 |.or f g=>by simp only[gf,pH f,pH g,wd,kP,qT];lia
 |.after f g=>by simp only[gf,pH f,pH g,wd,kP,qT];lia
def gh (c:Nat)(l:List Bool):Bool:=decide (c=67)||l.any id
theorem pI:∀f:bo,Wf f->gf gh f=f.hasCommon
 |.top,_=>rfl
 |.atom i,h=>by have:i<8:=h;simp[gf,gh,ur];lia
 |.no f,h=>by simp[gf,gh,ur,pI f h]
 |.every f,h=>by simp[gf,gh,ur,pI f h]
 |.common f,h=>by simp[gf,gh,ur]
 |.know a f,⟨ha,h⟩=>by
  have:¬97+a=67:=by lia
  simp[gf,gh,ur,pI f h,this]
 |.and f g,⟨h1,h2⟩=>by simp[gf,gh,ur,pI f h1,pI g h2]
 |.or f g,⟨h1,h2⟩=>by simp[gf,gh,ur,pI f h1,pI g h2]
 |.after f g,⟨h1,h2⟩=>by simp[gf,gh,ur,pI f h1,pI g h2]
noncomputable def flags:List Nat->Bool
 |[]=>aH
 |c::r=>flags r||(decide (c=91)&&((cJ gh r [])[1]?.getD aH))
theorem pJ:∀(f:bo),Wf f->∀r,flags (enc f++r)=(stuck f||flags r)
 |.top,_,r=>by simp[enc,flags,stuck]
 |.atom i,h,r=>by
  have:¬48+i=91:=by have:i<8:=h;lia
  simp[enc,flags,stuck,this]
 |.no f,h,r=>by simp[enc,flags,stuck,pJ f h]
 |.every f,h,r=>by simp[enc,flags,stuck,pJ f h]
 |.common f,h,r=>by simp[enc,flags,stuck,pJ f h]
 |.know a f,⟨ha,h⟩,r=>by
  have:¬97+a=91:=by lia
  simp[enc,flags,stuck,pJ f h,this]
 |.and f g,⟨h1,h2⟩,r=>by simp[enc,flags,stuck,pJ f h1,pJ g h2,iD,HS]
 |.or f g,⟨h1,h2⟩,r=>by simp[enc,flags,stuck,pJ f h1,pJ g h2,iD,HS]
 |.after f g,⟨h1,h2⟩,r=>by
  have e:cJ gh (enc f++(enc g++r)) []=f.hasCommon::g.hasCommon::cJ gh r []:=by rw[mw _ _ f h1,mw _ _ g h2,pI f h1,pI g h2]
  show flags (91::((enc f++enc g)++r))=_;rw[iD];show(flags (enc f++(enc g++r))||(decide (91=91)&&((cJ gh (enc f++(enc g++r)) [])[1]?.getD aH)))=_;rw[e,pJ f h1,pJ g h2];show((stuck f||(stuck g||flags r))||g.hasCommon)=((stuck f||(stuck g||g.hasCommon))||flags r);rfl'
noncomputable def dQ (c:Nat):Bool:=!decide (c=84\/c=38\/c=124)
noncomputable def cnt (l:List Nat):Nat:=(l.filter dQ).length
def cnt_nil:cnt []=0:=rfl
def cnt_cons (c:Nat)(l:List Nat):cnt (c::l)=(if dQ c=L then 1 else 0)+cnt l:=by unfold cnt;grind
def cnt_append (a b:List Nat):cnt (a++b)=cnt a+cnt b:=by simp[cnt]
noncomputable def bh (P:List Nat)(c:Nat):List Nat:=if dQ c=L then 124::126::(P++[c])else[c]
noncomputable def eU (P l:List Nat):List Nat:=l.flatMap (bh P)
def uu (P:List Nat)(c:Nat)(l:List Nat):eU P (c::l)=bh P c++eU P l:=rfl
def DM (P a b:List Nat):eU P (a++b)=eU P a++eU P b:=by simp[eU]
theorem Ay (P:List Nat):∀l,(eU P l).length=l.length+cnt l*(2+P.length)
 |[]=>by simp[eU,cnt]
 |c::l=>by
  rw[uu,cK,Ay P l,cnt_cons,Nat.add_mul];unfold bh;split<;>simp
  .omega
  .omega
theorem HU (P:List Nat):∀l,cnt (eU P l)=cnt l*(2+cnt P)
 |[]=>by simp[eU,cnt]
 |c::l=>by
  rw[uu,cnt_append,HU P l,cnt_cons,Nat.add_mul];unfold bh;split
  .rename_i h;rw[cnt_cons,cnt_cons,cnt_append,cnt_cons,cnt_nil,h];have g1:dQ 124=false:=by decide
   have g2:dQ 126=true:=by decide
   grind
  .rename_i h;rw[cnt_cons,cnt_nil];simp[h]
def Plain:bo->Prop
 |.top=>True
 |.atom _=>True
 |.no f=>Plain f
 |.and f g=>Plain f/\Plain g
 |.or f g=>Plain f/\Plain g
 |.know _ f=>Plain f
 |.every f=>Plain f
 |.common _=>False
 |.after _ _=>False
theorem qU (p:bo):∀g:bo,Wf g->Plain g->enc (push p g)=eU (enc p) (enc g)
 |.top,_,_=>by
  have g1:dQ 84=false:=by decide
  simp[push,enc,eU,bh,g1]
 |.atom i,h,_=>by
  have h:i<8:=h
  have g1:dQ (48+i)=true:=by unfold dQ;grind
  simp[push,enc,eU,bh,g1]
 |.no g,h,q=>by
  have g1:dQ 126=true:=by decide
  have e:=qU p g h q;simp only[push,enc,e,uu,bh,g1,if_true];simp
 |.every g,h,q=>by
  have g1:dQ 69=true:=by decide
  have e:=qU p g h q;simp only[push,enc,e,uu,bh,g1,if_true];simp
 |.know a g,⟨ha,h⟩,q=>by
  have g1:dQ (97+a)=true:=by unfold dQ;grind
  have e:=qU p g h q;simp only[push,enc,e,uu,bh,g1,if_true];simp
 |.and f g,⟨h1,h2⟩,⟨q1,q2⟩=>by
  have g1:dQ 38=false:=by decide
  have e1:=qU p f h1 q1;have e2:=qU p g h2 q2;simp only[push,enc,e1,e2,uu,DM,bh,g1];simp
 |.or f g,⟨h1,h2⟩,⟨q1,q2⟩=>by
  have g1:dQ 124=false:=by decide
  have e1:=qU p f h1 q1;have e2:=qU p g h2 q2;simp only[push,enc,e1,e2,uu,DM,bh,g1];simp
theorem uv (p:bo)(hp:Plain p):∀g:bo,Plain g->Plain (push p g)
 |.top,_=>trivial
 |.atom i,_=>⟨hp,trivial⟩
 |.no g,q=>⟨hp,uv p hp g q⟩
 |.every g,q=>⟨hp,uv p hp g q⟩
 |.know a g,q=>⟨hp,uv p hp g q⟩
 |.and f g,⟨q1,q2⟩=>⟨uv p hp f q1,uv p hp g q2⟩
 |.or f g,⟨q1,q2⟩=>⟨uv p hp f q1,uv p hp g q2⟩
theorem uw (p:bo)(hp:Wf p):∀g:bo,Wf g->Wf (push p g)
 |.top,_=>trivial
 |.atom i,h=>⟨hp,h⟩
 |.no g,q=>⟨hp,uw p hp g q⟩
 |.every g,q=>⟨hp,uw p hp g q⟩
 |.know a g,⟨ha,q⟩=>⟨hp,ha,uw p hp g q⟩
 |.and f g,⟨q1,q2⟩=>⟨uw p hp f q1,uw p hp g q2⟩
 |.or f g,⟨q1,q2⟩=>⟨uw p hp f q1,uw p hp g q2⟩
 |.common g,q=>q
 |.after f g,q=>q
def mx:∀f:bo,Wf f->Wf (reduced f)
 |.top,_=>trivial
 |.atom i,h=>h
 |.no g,q=>mx g q
 |.every g,q=>mx g q
 |.know a g,⟨ha,q⟩=>⟨ha,mx g q⟩
 |.and f g,⟨q1,q2⟩=>⟨mx f q1,mx g q2⟩
 |.or f g,⟨q1,q2⟩=>⟨mx f q1,mx g q2⟩
 |.common g,q=>mx g q
 |.after f g,⟨q1,q2⟩=>uw _ (mx f q1) _ (mx g q2)
def fz (h:(a||b)=aH):a=aH/\b=false:=by grind
theorem oE:∀f:bo,f.hasCommon=aH->Plain (reduced f)
 |.top,_=>trivial
 |.atom i,_=>trivial
 |.no g,q=>oE g q
 |.every g,q=>oE g q
 |.know a g,q=>oE g q
 |.and f g,q=>⟨oE f (fz q).1,oE g (fz q).2⟩
 |.or f g,q=>⟨oE f (fz q).1,oE g (fz q).2⟩
 |.common g,q=>by cases q
 |.after f g,q=>uv _ (oE f (fz q).1) _ (oE g (fz q).2)
def DN (l:List Nat)(h:dQ c=L):cnt (c::l)=1+cnt l:=by rw[cnt_cons,aD h]
def P7 (l:List Nat)(h:dQ c=aH):cnt (c::l)=cnt l:=by rw[cnt_cons,h];simp
theorem pK:∀f:bo,Wf f->f.hasCommon=aH->(weighed f).1=(enc (reduced f)).length/\(weighed f).2=cnt (enc (reduced f))
 |.top,_,_=>⟨O,O⟩
 |.atom i,h,_=>by
  have h:i<8:=h
  have g1:dQ (48+i)=true:=by unfold dQ;grind
  refine⟨O,?_⟩;show 1=cnt [48+i];rw[DN _ g1,cnt_nil]
 |.no g,h,q=>by
  obtain⟨e1,e2⟩:=pK g h q;refine⟨?_,?_⟩
  .show 1+(weighed g).1=(enc (reduced g)).length+1;lia
  .show 1+(weighed g).2=cnt (126::enc (reduced g));rw[DN _ (by decide),e2]
 |.every g,h,q=>by
  obtain⟨e1,e2⟩:=pK g h q;refine⟨?_,?_⟩
  .show 1+(weighed g).1=(enc (reduced g)).length+1;lia
  .show 1+(weighed g).2=cnt (69::enc (reduced g));rw[DN _ (by decide),e2]
 |.know a g,⟨ha,h⟩,q=>by
  have g1:dQ (97+a)=true:=by unfold dQ;grind
  obtain⟨e1,e2⟩:=pK g h q;refine⟨?_,?_⟩
  .show 1+(weighed g).1=(enc (reduced g)).length+1;lia
  .show 1+(weighed g).2=cnt ((97+a)::enc (reduced g));rw[DN _ g1,e2]
 |.and f g,⟨h1,h2⟩,q=>by
  obtain⟨e1,e2⟩:=pK f h1 (fz q).1;obtain⟨e3,e4⟩:=pK g h2 (fz q).2;refine⟨?_,?_⟩
  .show 1+((weighed f).1+(weighed g).1)=(enc (reduced f)++enc (reduced g)).length+1;grind
  .show(weighed f).2+(weighed g).2=cnt (38::(enc (reduced f)++enc (reduced g)));rw[P7 _ (by decide),cnt_append,e2,e4]
 |.or f g,⟨h1,h2⟩,q=>by
  obtain⟨e1,e2⟩:=pK f h1 (fz q).1;obtain⟨e3,e4⟩:=pK g h2 (fz q).2;refine⟨?_,?_⟩
  .show 1+((weighed f).1+(weighed g).1)=(enc (reduced f)++enc (reduced g)).length+1;grind
  .show(weighed f).2+(weighed g).2=cnt (124::(enc (reduced f)++enc (reduced g)));rw[P7 _ (by decide),cnt_append,e2,e4]
 |.common g,_,q=>by cases q
 |.after f g,⟨h1,h2⟩,q=>by obtain⟨e1,e2⟩:=pK f h1 (fz q).1;obtain⟨e3,e4⟩:=pK g h2 (fz q).2;have e5:enc (reduced (.after f g))=eU (enc (reduced f)) (enc (reduced g)):=qU _ _ (mx g h2) (oE g (fz q).2);rw[e5,Ay,HU,<-e1,<-e2,<-e3,<-e4];exact⟨O,O⟩
theorem pO:∀f:bo,Wf f->stuck f=aH->(weighed f).1=(enc (reduced f)).length
 |.top,_,_=>rfl
 |.atom i,_,_=>rfl
 |.no g,h,q=>by have e1:=pO g h q;show 1+(weighed g).1=(enc (reduced g)).length+1;cutsat
 |.every g,h,q=>by have e1:=pO g h q;show 1+(weighed g).1=(enc (reduced g)).length+1;cutsat
 |.common g,h,q=>by have e1:=pO g h q;show 1+(weighed g).1=(enc (reduced g)).length+1;cutsat
 |.know a g,⟨ha,h⟩,q=>by have e1:=pO g h q;show 1+(weighed g).1=(enc (reduced g)).length+1;cutsat
 |.and f g,⟨h1,h2⟩,q=>by have e1:=pO f h1 (fz q).1;have e3:=pO g h2 (fz q).2;show 1+((weighed f).1+(weighed g).1)=(enc (reduced f)++enc (reduced g)).length+1;grobner
 |.or f g,⟨h1,h2⟩,q=>by have e1:=pO f h1 (fz q).1;have e3:=pO g h2 (fz q).2;show 1+((weighed f).1+(weighed g).1)=(enc (reduced f)++enc (reduced g)).length+1;grobner
 |.after f g,⟨h1,h2⟩,q=>by have e1:=pO f h1 (fz q).1;have q2:=(fz (fz q).2).2;obtain⟨e3,e4⟩:=pK g h2 q2;have e5:enc (reduced (.after f g))=eU (enc (reduced f)) (enc (reduced g)):=qU _ _ (mx g h2) (oE g q2);rw[e5,Ay,<-e1,<-e3,<-e4];rfl
structure Pc where
 size:Nat
 dy:Nat
 bJ:Option (List Nat)
noncomputable def je (c:Nat)(l:List Pc):Pc:=
 let size:=1+(l.map λp=>p.size).sum
 let g:=(l.map λp=>p.dy).sum+(if dQ c=L then 1 else 0)
 if 3000<size then⟨size,g,N⟩else⟨size,g,B (c::l.flatMap λp=>p.bJ.getD [])⟩
noncomputable def iL (p t:Pc):Pc:=
 let size:=p.size+p.dy*(t.size+2)
 let g:=p.dy*(t.dy+2)
 if 3000<size then⟨size,g,N⟩else⟨size,g,B (eU (t.bJ.getD []) (p.bJ.getD []))⟩
def P8:Pc:=⟨0,0,N⟩
noncomputable def dW (c:Nat)(l:List Pc):Pc:=if c=91 then iL (l[1]?.getD P8) (l[0]?.getD P8)else je c l
structure Is (f:bo)(p:Pc):Prop where
 size:p.size=(weighed f).1
 dQ:f.hasCommon=aH->p.dy=(weighed f).2
 bJ:p.bJ=if 3000<(weighed f).1 then N else B (enc (reduced f))
def DO (h:Is f p)(hc:c≠91)(e1:(weighed g).1=1+(weighed f).1)(e2:g.hasCommon=aH->f.hasCommon=aH/\(weighed g).2=(if dQ c=L then 1 else 0)+(weighed f).2)
  (e3:enc (reduced g)=c::enc (reduced f)):Is g (dW c [p]):=by
 unfold dW je;rw[au hc];have s:1+([p].map λp=>p.size).sum=(weighed g).1:=by simp[h.size,e1]
 dsimp only;rw[s];by_cases q:3000<(weighed g).1
 .rw[aD q];refine⟨O,λz=>?_,by rw[aD q]⟩;obtain⟨z1,z2⟩:=e2 z;rw[z2,<-h.dQ z1];simp;lia
 .rw[au q];refine⟨O,λz=>?_,?_⟩
  .obtain⟨z1,z2⟩:=e2 z;rw[z2,<-h.dQ z1];simp;lia
  .rw[au q,e3];simp[h.bJ,au (show¬3000<(weighed f).1 by lia)]
def P9 (h:Is f p)(h':Is g r)(hc:c≠91)(hg:dQ c=aH)(e1:(weighed k).1=1+((weighed f).1+(weighed g).1))(e2:k.hasCommon=aH->f.hasCommon=aH/\g.hasCommon=aH/\(weighed k).2=(weighed f).2+(weighed g).2)
  (e3:enc (reduced k)=c::(enc (reduced f)++enc (reduced g))):Is k (dW c [p,r]):=by
 unfold dW je;rw[au hc];have s:1+([p,r].map λp=>p.size).sum=(weighed k).1:=by simp[h.size,h'.size,e1]
 dsimp only;rw[s];by_cases q:3000<(weighed k).1
 .rw[aD q];refine⟨O,λz=>?_,by rw[aD q]⟩;obtain⟨z1,z2,z3⟩:=e2 z;rw[z3,<-h.dQ z1,<-h'.dQ z2];simp[hg]
 .rw[au q];refine⟨O,λz=>?_,?_⟩
  .obtain⟨z1,z2,z3⟩:=e2 z;rw[z3,<-h.dQ z1,<-h'.dQ z2];simp[hg]
  .rw[au q,e3];simp[h.bJ,h'.bJ,au (show¬3000<(weighed f).1 by lia),au (show¬3000<(weighed g).1 by lia)]
theorem HV:∀{l:List Nat},cnt l=0->eU P l=l
 |[],_=>rfl
 |c::l,h=>by rw[cnt_cons]at h;rw[uu,HV (by cutsat)];unfold bh;grobner
def abK (hw:Wf g)(h:Is g p)(h':Is f t)(hc:g.hasCommon=aH):Is (.after f g) (dW 91 [t,p]):=by
 show Is (.after f g) (iL p t);unfold iL
 have s:p.size+p.dy*(t.size+2)=(weighed (.after f g)).1:=by show _=(weighed g).1+(weighed g).2*(2+(weighed f).1);rw[h.size,h.dQ hc,h'.size,DP _ 2]
 have e5:enc (reduced (.after f g))=eU (enc (reduced f)) (enc (reduced g)):=qU _ _ (mx g hw) (oE g hc)
 have gg:(Form.after f g).hasCommon=aH->p.dy*(t.dy+2)=(weighed (.after f g)).2:=λz=>by show _=(weighed g).2*(2+(weighed f).2);rw[h.dQ hc,h'.dQ (fz z).1,DP _ 2]
 dsimp only;rw[s];by_cases q:3000<(weighed (.after f g)).1
 .rw[aD q];exact⟨O,gg,by rw[aD q]⟩
 .rw[au q];refine⟨O,gg,?_⟩;rw[au q,e5];have q':¬3000<(weighed g).1+(weighed g).2*(2+(weighed f).1):=q;have n1:¬3000<(weighed g).1:=by lia
  by_cases q2:3000<(weighed f).1
  .have z:(weighed g).2=0:=by
    rcases Nat.eq_zero_or_pos (weighed g).2 with z|z
    .exact z
    .have:1*(2+(weighed f).1)<=(weighed g).2*(2+(weighed f).1):=we _ z;lia
   have z':cnt (enc (reduced g))=0:=by rw[<-(pK g hw hc).2,z]
   rw[h.bJ,au n1];show B (eU _ (enc (reduced g)))=_;rw[HV z',HV z']
  .rw[h.bJ,h'.bJ,au n1,au q2];rfl
theorem pieces:∀f:bo,Wf f->stuck f=aH->Is f (gf dW f)
 |.top,_,_=>⟨O,λ_=>rfl,O⟩
 |.atom i,h,_=>by
  have h:i<8:=h
  have g1:dQ (48+i)=true:=by unfold dQ;grind
  have e:gf dW (.atom i)=⟨1,1,B [48+i]⟩:=by show dW (48+i) []=_;unfold dW je;rw[au (by lia),g1];rfl
  rw[e];exact⟨O,λ_=>rfl,O⟩
 |.no g,h,q=>DO (pieces g h q) (by lia) O (λz=>⟨z,O⟩) rfl
 |.every g,h,q=>DO (pieces g h q) (by lia) O (λz=>⟨z,O⟩) rfl
 |.common g,h,q=>DO (pieces g h q) (by lia) O (λz=>by cases z) rfl
 |.know a g,⟨ha,h⟩,q=>by
  have g1:dQ (97+a)=true:=by unfold dQ;grind
  exact DO (pieces g h q) (by lia) O (λz=>⟨z,by rw[g1];rfl⟩) rfl
 |.and f g,⟨h1,h2⟩,q=>P9 (pieces f h1 (fz q).1) (pieces g h2 (fz q).2) (by lia) (by decide) O (λz=>⟨(fz z).1,(fz z).2,O⟩) rfl
 |.or f g,⟨h1,h2⟩,q=>P9 (pieces f h1 (fz q).1) (pieces g h2 (fz q).2) (by lia) (by decide) O (λz=>⟨(fz z).1,(fz z).2,O⟩) rfl
 |.after f g,⟨h1,h2⟩,q=>abK h2 (pieces g h2 (fz (fz q).2).1) (pieces f h1 (fz q).1) (fz (fz q).2).2
noncomputable def iM:List Nat->List Nat->List Nat×List Nat
 |codes,[]=>(codes,[])
 |codes,c::w=>if c=41 then iM (codes++[c]) w else(codes++[c],41::w)
noncomputable def iN (s:List Nat×List Nat)(c:Nat):List Nat×List Nat:=
 let t:=if c=38\/c=124 then(s.1++[40],c::s.2)else if 97<=c/\c<=100 then(s.1++[75,c],s.2)else(s.1++[c],s.2)
 if parts c=0 then iM t.1 t.2 else t
def jg (s:List Nat×List Nat)(l:List Nat):List Nat×List Nat:=l.foldl iN s
def HW (s:List Nat×List Nat)(a b:List Nat):jg s (a++b)=jg (jg s a) b:=DI ..
def Quiet:bo->Prop
 |.top=>True
 |.atom _=>True
 |.no f=>Quiet f
 |.and f g=>Quiet f/\Quiet g
 |.or f g=>Quiet f/\Quiet g
 |.know _ f=>Quiet f
 |.every f=>Quiet f
 |.common f=>Quiet f
 |.after _ _=>False
def P' (h:c=84\/(48<=c/\c<=55)):iN s c=iM (s.1++[c]) s.2:=by unfold iN;rw[au (show¬(c=38\/c=124)by lia),au (show¬(97<=c/\c<=100)by lia),aD (sv h)]
def HX (h:c=126\/c=69\/c=67):iN s c=(s.1++[c],s.2):=by unfold iN;rw[au (show¬(c=38\/c=124)by lia),au (show¬(97<=c/\c<=100)by lia),au (show¬parts c=0 by rw[jd (by lia)];lia)]
def stepK (h:97<=c/\c<=100):iN s c=(s.1++[75,c],s.2):=by unfold iN;rw[au (show¬(c=38\/c=124)by lia),aD h,au (show¬parts c=0 by rw[jd (by lia)];lia)]
def Qa (h:c=38\/c=124):iN s c=(s.1++[40],c::s.2):=by unfold iN;rw[aD h,au (show¬parts c=0 by rw[iC (by lia)];lia)]
def Qb (h:c=38\/c=124):iM codes (c::w)=(codes++[c],41::w):=by rw[iM,au (by lia)]
def Qc:iM codes (41::w)=iM (codes++[41]) w:=by rw[iM,aD rfl]
theorem sA:∀(f:bo),Wf f->Quiet f->∀(codes w:List Nat),jg (codes,w) (enc f)=iM (codes++shown f) w
 |.top,_,_,codes,w=>P' (s:=(codes,w)) (c:=84) (by lia)
 |.atom i,h,_,codes,w=>P' (s:=(codes,w)) (c:=48+i) (by have:i<8:=h;lia)
 |.no f,h,q,codes,w=>by show jg (iN (codes,w) 126) (enc f)=_;rw[HX (by lia),sA f h q];simp[shown]
 |.every f,h,q,codes,w=>by show jg (iN (codes,w) 69) (enc f)=_;rw[HX (by lia),sA f h q];simp[shown]
 |.common f,h,q,codes,w=>by show jg (iN (codes,w) 67) (enc f)=_;rw[HX (by lia),sA f h q];simp[shown]
 |.know a f,⟨ha,h⟩,q,codes,w=>by show jg (iN (codes,w) (97+a)) (enc f)=_;rw[stepK (by lia),sA f h q];simp[shown]
 |.and f g,⟨h1,h2⟩,⟨q1,q2⟩,codes,w=>by show jg (iN (codes,w) 38) (enc f++enc g)=_;rw[Qa (by lia),HW,sA f h1 q1,Qb (by lia),sA g h2 q2,Qc];simp[shown]
 |.or f g,⟨h1,h2⟩,⟨q1,q2⟩,codes,w=>by show jg (iN (codes,w) 124) (enc f++enc g)=_;rw[Qa (by lia),HW,sA f h1 q1,Qb (by lia),sA g h2 q2,Qc];simp[shown]
theorem ux (p:bo)(hp:Quiet p):∀g:bo,Quiet g->Quiet (push p g)
 |.top,_=>trivial
 |.atom i,_=>⟨hp,trivial⟩
 |.no g,q=>⟨hp,ux p hp g q⟩
 |.every g,q=>⟨hp,ux p hp g q⟩
 |.know a g,q=>⟨hp,ux p hp g q⟩
 |.and f g,⟨q1,q2⟩=>⟨ux p hp f q1,ux p hp g q2⟩
 |.or f g,⟨q1,q2⟩=>⟨ux p hp f q1,ux p hp g q2⟩
 |.common g,q=>q
def pQ:∀f:bo,Quiet (reduced f)
 |.top=>trivial
 |.atom _=>trivial
 |.no g=>pQ g
 |.every g=>pQ g
 |.know _ g=>pQ g
 |.and f g=>⟨pQ f,pQ g⟩
 |.or f g=>⟨pQ f,pQ g⟩
 |.common g=>pQ g
 |.after f g=>ux _ (pQ f) _ (pQ g)
def Qe (f:bo)(h:Wf f)(q:Quiet f):jg ([],[]) (enc f)=(shown f,[]):=by rw[sA f h q];rfl
theorem my:∀f:bo,(shown f).length<=4*f.size
 |.top=>by simp[shown,jt]
 |.atom _=>by simp[shown,jt]
 |.no f=>by have:=my f;simp[shown,jt];lia
 |.every f=>by have:=my f;simp[shown,jt];lia
 |.common f=>by have:=my f;simp[shown,jt];lia
 |.know _ f=>by have:=my f;simp[shown,jt];lia
 |.and f g=>by have:=my f;have:=my g;simp[shown,jt];lia
 |.or f g=>by have:=my f;have:=my g;simp[shown,jt];lia
 |.after f g=>by have:=my f;have:=my g;simp[shown,jt];lia
def jL (p:Pc)(n:Nat):Prop:=p.size+2<=4^n/\p.dy+2<=4^n
def DQ (n:Nat):1<=4^n:=Nat.one_le_pow _ _ (by lia)
def Qg (n:Nat):4^(1+n)=4*4^n:=by grind
def Az (c:Nat)(l:List Pc):(je c l).size=1+(l.map λp=>p.size).sum/\(je c l).dy=(l.map λp=>p.dy).sum+(if dQ c=L then 1 else 0):=by unfold je;grind
def HY (p t:Pc):(iL p t).size=p.size+p.dy*(t.size+2)/\(iL p t).dy=p.dy*(t.dy+2):=by unfold iL;grind
def abL (hc:c≠91)(h:jL p n):jL (dW c [p]) (1+n):=by unfold dW;rw[au hc];obtain⟨e1,e2⟩:=Az c [p];unfold jL at h ⊢;grind
def abM (hc:c≠91)(h:jL p n)(h':jL r k):jL (dW c [p,r]) (1+(n+k)):=by unfold dW;rw[au hc];obtain⟨e1,e2⟩:=Az c [p,r];unfold jL at h h' ⊢;rw[e1,e2,Qg,Nat.pow_add];have q1:=DQ n;have q2:=DQ k;have m1:4^n*1<=4^n*4^k:=Nat.mul_le_mul_left _ q2;have m2:1*4^k<=4^n*4^k:=we _ q1;simp;split<;>lia
def abN (h:jL t n)(h':jL p k):jL (dW 91 [t,p]) (1+(n+k)):=by show jL (iL p t) _;obtain⟨e1,e2⟩:=HY p t;unfold jL at h h' ⊢;rw[e1,e2,Qg,Nat.pow_add];have q1:=DQ n;have q2:=DQ k;have m2:1*4^k<=4^n*4^k:=we _ q1;have m3:p.dy*(t.size+2)<=4^k*4^n:=HZ (by cutsat) h.1;have m4:p.dy*(t.dy+2)<=4^k*4^n:=HZ (by cutsat) h.2;grobner
end WK
namespace L2
open PySem PySem.Spec PyProof.Rows
abbrev Key:=Sum Int ao
def sC:Key->aj->Bool
 |.inl k,v=>Qh k v
 |.inr x,v=>Qi x v
def abO (w:World):Key->Int
 |.inl k=>hashInt k
 |.inr x=>hashStr w x
def qV:∀{k:Key}{v:aj},sC k v=L->(∃i t,k=cC i/\v=yh i t)\/(∃x t,k=pT x/\v=AA x t)
 |.inl i,v,h=>by obtain⟨t,e⟩:=Value.isInt_shape (k:=i) (v:=v) h;grind
 |.inr x,v,h=>by obtain⟨t,e⟩:=Value.isStrOf_shape (x:=x) (v:=v) h;grind
def abP (i:Int)(t:Tok):sC (.inl i) (.int i t)=true:=by simp[sC,Qh]
def abQ (x:ao)(t:Tok):sC (.inr x) (.str x t)=true:=by simp[sC,Qi]
def abR (a b:Int):decide ((cC a:Key)=cC b)=(a==b):=by grind
def abS (a b:ao):decide ((pT a:Key)=pT b)=decide (a=b):=by all_goals simp
def abT (a:Int)(b:ao):decide ((cC a:Key)=pT b)=false:=eG (λq=>nomatch q)
def abU (a:ao)(b:Int):decide ((pT a:Key)=cC b)=false:=eG (λq=>nomatch q)
def dN (prog:bx)(w:World):PySem.KeyKind prog w Key where
 is:=sC
 hash:=abO w
 inj:=λv a b ha hb=>by
  rcases qV ha with⟨i,t,rfl,rfl⟩|⟨x,t,rfl,rfl⟩
  .rcases qV hb with⟨j,u,rfl,e⟩|⟨y,u,rfl,e⟩<;>grind
  .rcases qV hb with⟨j,u,rfl,e⟩|⟨y,u,rfl,e⟩<;>grind
 byValue:=λk v h=>by rcases qV h with⟨i,t,rfl,rfl⟩|⟨x,t,rfl,rfl⟩<;>rfl
 pyHash:=λhv h=>by
  rcases qV hv with⟨i,t,rfl,rfl⟩|⟨x,t,rfl,rfl⟩
  .exact wpAny_pyHash_int h
  .exact wpAny_pyHash_str h
 eqBool:=λhu hv h=>by
  rcases qV hu with⟨i,t,rfl,rfl⟩|⟨x,t,rfl,rfl⟩
  .rcases qV hv with⟨j,u,rfl,rfl⟩|⟨y,u,rfl,rfl⟩
   .rw[abR]at h;exact wpAny_eqBool_int h
   .rw[abT]at h;exact Qj i t y u _ _ _ _ h
  .rcases qV hv with⟨j,u,rfl,rfl⟩|⟨y,u,rfl,rfl⟩
   .rw[abU]at h;exact Qk x t j u _ _ _ _ h
   .rw[abS]at h;exact wpAny_eqBool_str h
 «strs»:=λk x t v h=>by
  rcases qV h with⟨i,u,rfl,e⟩|⟨y,u,rfl,e⟩
  .grind
  .injection e with e1 _
   subst e1;cases v<;>rfl
def abV (prog:bx)(w:World)(i:Int)(t:Tok):(dN prog w).is (.inl i) (.int i t)=true:=abP i t
def abW (prog:bx)(w:World)(x:ao)(t:Tok):(dN prog w).is (.inr x) (.str x t)=true:=abQ x t
inductive V where
 |bB|bl (b:Bool)|int (i:Int)|str (x:ao)|jM (b:Array UInt8)|uz (b:UInt64)|ref (a:J)|ty (n:String)
 deriving DecidableEq
instance:Nonempty V:=⟨.bB⟩
def RelV:V->aj->Prop
 |.bB,u=>u=lF
 |.bl b,u=>u=sF b
 |.int i,u=>∃t,u=yh i t
 |.str x,u=>∃t,u=AA x t
 |.jM b,u=>∃t,u=Ql b t
 |.uz b,u=>∃t,u=Ia b t
 |.ref a,u=>u=cv a
 |.ty n,u=>u=nI n
abbrev Vals:List V->List aj->Prop:=Paired RelV
def Vals.length {xs:List V}{us:List aj}(r:Vals xs us):xs.length=us.length:=km r
theorem Vals.get:∀{xs:List V}{us:List aj}{i:Nat}{x:V},Vals xs us->xs[i]?=B x->∃u,us[i]?=B u/\RelV x u
 |_,_,_,_,.nil,e=>by simp at e
 |_,_,0,_,.cons r _,e=>by grind
 |_,_,i+1,x,.cons _ t,e=>by obtain⟨u,h1,h2⟩:=Vals.get (i:=i) (x:=x) t (by simpa using e);grind
theorem Vals.set (r:RelV x u):∀{xs:List V}{us:List aj}(i:Nat),Vals xs us->Vals (xs.set i x) (us.set i u)
 |_,_,_,.nil=>.nil
 |_,_,0,.cons _ t=>.cons r t
 |_,_,i+1,.cons q t=>.cons q (Vals.set r i t)
def Vals.append:∀{xs ys:List V}{us ws:List aj},Vals xs us->Vals ys ws->Vals (xs++ys) (us++ws)
 |_,_,_,_,.nil,s=>s
 |_,_,_,_,.cons r t,s=>.cons r (Vals.append t s)
def Vals.take:∀{xs:List V}{us:List aj}(n:Nat),Vals xs us->Vals (xs.take n) (us.take n)
 |_,_,0,_=>.nil
 |_,_,_+1,.nil=>.nil
 |_,_,n+1,.cons r t=>.cons r (Vals.take n t)
def Vals.drop:∀{xs:List V}{us:List aj}(n:Nat),Vals xs us->Vals (xs.drop n) (us.drop n)
 |_,_,0,r=>r
 |_,_,_+1,.nil=>.nil
 |_,_,n+1,.cons _ t=>Vals.drop n t
def jN:Option V->Option aj->Prop
 |some v,B u=>RelV v u
 |none,N=>True
 |_,_=>False
def KV {κ:Type}:List (κ×V)->List (κ×aj)->Prop:=Paired λ(p:κ×V)(q:κ×aj)=>p.1=q.1/\RelV p.2 q.2
def kV:Key->V
 |.inl i=>.int i
 |.inr x=>.str x
inductive HO where
 |Z (xs:List V)
 |tup (xs:List V)
 |dK (kvs:List (Key×V))|dT (kvs:List (List Key×V))
 |set (S:Int->Bool) (n:Nat)
 |ins (C dx:J) (fs:List (ao×V))
 |own (x:J)
 |xd (fs:List (ao×V))
 |met (f x:J)
 |Ib (lo hi:Int)
 |bF (o:Obj) (u:HO)
 |wg (ps:Array aj)
 |ext (φ:a9->Prop)
instance:Nonempty HO:=⟨.Z []⟩
abbrev Hp:=J->Option HO
noncomputable def M (H:Hp)(a:J)(o:HO):Hp:=λb=>if b=a then B o else H b
def ah:M H a o a=B o:=by unfold M;simp
def aa (h:b≠a):M H a o b=H b:=by unfold M;rw[au h]
def mz:M (M H a o) a u=M H a u:=by funext b;unfold M;split<;>rfl
def bE {H:Hp}{a b:J}{o u:HO}(h:H a=B o)(h':H b=B u)(d:o≠u):a≠b:=by grind
def aK {H:Hp}{a b:J}{o:HO}(h:H a=B o)(h':H b=N):a≠b:=by grind
section
variable(P:bx)(w:World)
def d9 (H:Hp)(h:a9)(a:J):HO->Prop
 |.Z xs=>xs.length<=aL/\∃(aI:List aj)(n:Nat),Vals xs aI/\h.get? a=B {cls:=.type "list",data:=.seq aI.toArray n}
 |.tup xs=>xs.length<=aL/\∃aI:List aj,Vals xs aI/\IsTup h a aI.toArray
 |.dK kvs=>kvs.length<=aL/\(a==ju)=aH/\∃vs,KV kvs vs/\h.DictOf (dN P w) a vs
 |.dT kvs=>kvs.length<=aL/\(a==ju)=aH/\∃xs:List (List Key×J×aj),
   Paired (λ(p:List Key×V)(q:List Key×J×aj)=>p.1=q.1/\H q.2.1=B (.tup (p.1.map kV))/\RelV p.2 q.2.2) kvs xs/\
   ∃o es ep,h.get? a=B o/\o.ExactDict/\o.data=.dict es ep/\es.toList=xs.map (entryOfKey (tupleKind (dN P w)))/\(xs.map (·.1)).Nodup
 |.set S n=>h.SetOf (intKind P w) a S n
 |.ins C dx fs=>H dx=B (.own a)/\fs.length<=1000/\dx≠a/\h.get? a=B (uA C dx)/\
   ∃mA,h.Ns1 dx mA/\(∀f,jN (fs.lookup f) (mA f))/\Ic mA (fs.map (·.1))
 |.own _=>∃o,h.get? a=B o
 |.xd fs=>∃mA,h.Ns1 a mA/\∀f,jN (fs.lookup f) (mA f)
 |.Ib lo hi=>∃t u v,h.get? a=B {cls:=.type "range",data:=.fields #[.int lo t,.int hi u,.int 1 v]}
 |.bF o u=>h.get? a=B o/\d9 H h a u
 |.wg ps=>h.get? a=B {cls:=.none,data:=.fields ps}
 |.met f x=>h.get? a=B (Ie (.ref f) (.ref x))
 |.ext φ=>φ h/\(∃o,h.get? a=B o)/\∀h1 h2:a9,φ h1->(∀o,h1.get? a=B o->h2.get? a=B o)->φ h2
def eV (H:Hp)(h:a9):Prop:=∀a o,H a=B o->d9 P w H h a o
end
section
variable{P:bx}{w:World}{H H':Hp}{h h':a9}{a:J}{o:HO}
def d9.lt (x:d9 P w H h a o):a<h.objs.size:=by
 funext P w H h a o
 cases o with
 |Z xs=>obtain⟨_,_,_,_,e⟩:=x;exact cU e
 |tup xs=>obtain⟨_,_,_,p⟩:=x;exact p.lt
 |dK kvs=>obtain⟨_,_,_,_,o,_,_,e,_⟩:=x;exact cU e
 |dT kvs=>obtain⟨_,_,_,_,o,_,_,e,_⟩:=x;exact cU e
 |set S n=>obtain⟨o,_,_,_,e,_⟩:=x;exact cU e
 |ins C dx fs=>obtain⟨_,_,_,e,_⟩:=x;exact cU e
 |own y=>obtain⟨_,e⟩:=x;exact cU e
 |xd fs=>obtain⟨_,⟨_,_,_,e,_⟩,_⟩:=x;exact cU e
 |Ib lo hi=>obtain⟨_,_,_,e⟩:=x;exact cU e
 |bF ob u=>obtain⟨e,_⟩:=x;exact cU e
 |wg ps=>exact cU (show h.get? a=B _ from x)
 |met f y=>exact cU (show h.get? a=B _ from x)
 |ext φ=>obtain⟨_,⟨_,e⟩,_⟩:=x;exact cU e
theorem Paired.Ig {α β:Type}{F G:α->β->Prop}:∀{l₁:List α}{l₂:List β},Paired F l₁ l₂->(∀a b,F a b->G a b)->Paired G l₁ l₂
 |_,_,.nil,_=>.nil
 |_,_,.cons r t,f=>.cons (f _ _ r) (Paired.Ig t f)
def d9.oF (x:d9 P w H h a o)(k:∀b u,(b=a\/H b=B (.own a))->h.get? b=B u->h'.get? b=B u)
  (ho:∀b,H b=B (.own a)->H' b=B (.own a)) (ht:∀b xs,H b=B (.tup xs)->H' b=B (.tup xs)):d9 P w H' h' a o:=by
 funext P w H H' h h' a o
 induction o with
 |Z xs=>obtain⟨z,aI,n,r,e⟩:=x;exact⟨z,aI,n,r,k _ _ (.inl O) e⟩
 |tup xs=>obtain⟨z,aI,r,ob,e,c⟩:=x;exact⟨z,aI,r,ob,k _ _ (.inl O) e,c⟩
 |dK kvs=>obtain⟨z,y,vs,r,ob,es,ep,e,c⟩:=x;exact⟨z,y,vs,r,ob,es,ep,k _ _ (.inl O) e,c⟩
 |dT kvs=>obtain⟨z,y,xs,r,ob,es,ep,e,c⟩:=x;exact⟨z,y,xs,Paired.Ig r λp q z=>⟨z.1,ht _ _ z.2.1,z.2.2⟩,ob,es,ep,k _ _ (.inl O) e,c⟩
 |set S n=>obtain⟨ob,es,ep,t,e,c⟩:=x;exact⟨ob,es,ep,t,k _ _ (.inl O) e,c⟩
 |ins C dx fs=>obtain⟨d,z,ne,e,mA,⟨od,es,ep,e2,c⟩,r⟩:=x;exact⟨ho _ d,z,ne,k _ _ (.inl O) e,mA,⟨od,es,ep,k _ _ (.inr d) e2,c⟩,r⟩
 |own y=>obtain⟨ob,e⟩:=x;exact⟨ob,k _ _ (.inl O) e⟩
 |xd fs=>obtain⟨mA,⟨od,es,ep,e,c⟩,r⟩:=x;exact⟨mA,⟨od,es,ep,k _ _ (.inl O) e,c⟩,r⟩
 |Ib lo hi=>obtain⟨t,u,v,e⟩:=x;exact⟨t,u,v,k _ _ (.inl O) e⟩
 |bF ob u ih=>obtain⟨e,q⟩:=x;exact⟨k _ _ (.inl O) e,ih q⟩
 |wg ps=>have e:h.get? a=B {cls:=.none,data:=.fields ps}:=x;show h'.get? a=B {cls:=.none,data:=.fields ps};grind
 |met f y=>have e:h.get? a=B (Ie (.ref f) (.ref y)):=x;show h'.get? a=B (Ie (.ref f) (.ref y));grind
 |ext φ=>obtain⟨p,⟨o,e⟩,st⟩:=x;exact⟨st _ _ p λo q=>k _ _ (.inl O) q,⟨o,k _ _ (.inl O) e⟩,st⟩
def eV.lt (x:eV P w H h)(e:H a=B o):a<h.objs.size:=(x a o e).lt
def eV.fresh (x:eV P w H h)(e:h.objs.size<=a):H a=none:=by
 cases q:H a with
 |none=>rfl
 |some u=>exact bT (jh (x.lt q) e) (sj _)
def eV.kept (x:eV P w H h)(k:∀b u,h.get? b=B u->h'.get? b=B u):eV P w H h':=λa o e=>
 (x a o e).oF (λb u _ q=>k b u q) (λ_ q=>q) λ_ _ q=>q
def eV.laid (x:eV P w H h)(k:∀b u,h.get? b=B u->h'.get? b=B u)(hp:h.objs.size<=a)(new:d9 P w (M H a o) h' a o):eV P w (M H a o) h':=λb u e=>by
 have hn:=x.fresh hp;by_cases hb:b=a
 .subst hb;rw[ah]at e;cases e;exact new
 .rw[aa hb]at e;exact(x b u e).oF (λc v _ q=>k c v q) (λc q=>by rw[aa (aK q hn)];exact q) λc xs q=>by rw[aa (aK q hn)];exact q
end
def Rd (H:Hp)(a:J)(u:HO):Prop:=H a=B u\/∃o,H a=B (.bF o u)
def Rd.ok (r:Rd H a u)(x:eV P w H h):d9 P w H h a u:=by
 rcases r with r|⟨o,r⟩
 .exact x a u r
 .obtain⟨_,q⟩:=x a _ r;exact q
def sI:Option HO->Prop
 |some (.Z _)=>True
 |some (.dK _)=>True
 |some (.dT _)=>True
 |some (.set _ _)=>True
 |some (.ins _ _ _)=>True
 |some (.ext _)=>True
 |_=>False
section
variable{P:bx}{w:World}{H:Hp}{h h':a9}{x e:J}{o':HO}
def eV.write (ok:eV P w H h)(mu:sI (H x))(he:e=x\/H e=B (.own x))(k:∀b u,b≠e->h.get? b=B u->h'.get? b=B u)(AB:∃u,h'.get? e=B u)
  (new:d9 P w (M H x o') h' x o'):eV P w (M H x o') h':=λb u q=>by
 have abX:∀c y,H c=B (.own y)->c≠x:=λc y r z=>by subst z;rw[r]at mu;exact mu
 have abY:∀c xs,H c=B (.tup xs)->c≠x:=λc xs r z=>by subst z;rw[r]at mu;exact mu
 by_cases hb:b=x
 .subst hb;rw[ah]at q;cases q;exact new
 .rw[aa hb]at q;by_cases uB:b=e
  .have q':H b=B (.own x):=by grind
   rw[q]at q';cases q';obtain⟨v,hv⟩:=AB;exact⟨v,by grind⟩
  .refine(ok b u q).oF (λc v hc r=>k c v ?_ r) (λc r=>by rw[aa (abX c b r)];exact r) λc xs r=>by rw[aa (abY c xs r)];exact r
   rfl'
end
structure Un (fs ex:List J)(H H':Hp)(h h':a9):Prop where
 keep:∀b o,h.get? b=B o->H b=N->b∉fs->b∉ex->h'.get? b=B o
 slot:∀b o,h.get? b=B o->H b=N->b∈fs->b∉ex->∃sl,h'.get? b=B {o with slots:=sl}
 free:∀b o,h.get? b=B o->H b=N->b∉ex->H' b=N
 there:∀b o,h.get? b=B o->b∉ex->∃o',h'.get? b=B o'
 pU:∀b xs,H b=B (.tup xs)->H' b=B (.tup xs)
 pV:∀b o u,H b=B (.bF o u)->H' b=B (.bF o u)
 uC:∀b ps,H b=B (.wg ps)->∃more,H' b=B (.wg (ps++more))
section
variable{fs fA ex ex':List J}{H H1 H2:Hp}{h h1 h2 h':a9}{a x e:J}{o:HO}
def Un.any (u:Un fs ex H H1 h h1)(q:h.get? b=B ob)(n:H b=N)(hx:b∉ex):∃sl,h1.get? b=B {ob with slots:=sl}:=by
 by_cases hb:b∈fs
 .exact u.slot b ob q n hb hx
 .exact⟨ob.slots,u.keep b ob q n hb hx⟩
def Un.kept (k:∀b u,h.get? b=B u->h'.get? b=B u):Un fs ex H H h h':=
 ⟨λb ob q _ _ _=>k b ob q,λb ob q _ _ _=>⟨ob.slots,k b ob q⟩,λ_ _ _ n _=>n,λb ob q _=>⟨ob,k b ob q⟩,λ_ _ q=>q,λ_ _ _ q=>q,λ_ ps q=>⟨#[],by rw[q];simp⟩⟩
def Un.refl:Un fs ex H H h h:=Un.kept λ_ _ q=>q
def Un.laid (k:∀b u,h.get? b=B u->h'.get? b=B u)(hp:h.objs.size<=a)(hn:H a=N):Un fs ex H (M H a o) h h' where
 keep:=λb u q _ _ _=>k b u q
 slot:=λb u q _ _ _=>⟨u.slots,k b u q⟩
 free:=λb u q n _=>by rw[aa (fZ (jh (cU q) hp))];exact n
 there:=λb u q _=>⟨u,k b u q⟩
 pU:=λb xs q=>by rw[aa (aK q hn)];exact q
 pV:=λb u xs q=>by rw[aa (aK q hn)];exact q
 uC:=λb ps q=>⟨#[],by rw[aa (aK q hn),q];simp⟩
def Un.write (mu:sI (H x))(he:e=x\/H e=B (.own x))(k:∀b u,b≠e->h.get? b=B u->h'.get? b=B u)(AB:∃u,h'.get? e=B u):Un fs ex H (M H x o) h h':=by
 have hx:∀b,H b=N->b≠x:=λb n z=>by subst z;rw[n]at mu;exact mu
 have hb:∀b,H b=N->b≠e:=λb n z=>by grind
 have hm:∀b u,H b=B u->¬sI (B u)->b≠x:=λb u q nm z=>by grind
 refine⟨λb u q n _ _=>k b u (hb b n) q,λb u q n _ _=>⟨u.slots,k b u (hb b n) q⟩,λb u q n _=>by rw[aa (hx b n)];exact n,λb u q _=>?_,λb xs q=>by rw[aa (hm b _ q λz=>z)];exact q,λb u xs q=>by rw[aa (hm b _ q λz=>z)];exact q,λb ps q=>⟨#[],by rw[aa (hm b _ q λz=>z),q];simp⟩⟩
 rfl'
end
noncomputable def DS (h:a9)(H:Hp):List Addr:=(ez h.objs.size).filter λa=>(H a).isSome
def sJ (h:a9)(H:Hp):Heap:=PySem.W.hideAll h (DS h H)
def abZ (h:a9)(H:Hp):(sJ h H).objs.size=h.objs.size:=PySem.W.hideAll_size _ _
def ab0 (e:h.get? b=B o)(n:H b=N):(sJ h H).get? b=B o:=
 PySem.W.hideAll_get _ e λhm=>by have q:(H b).isSome=true:=(fw.mp hm).2;grind
def ab1 (e:(sJ h H).get? b=B o):h.get? b=B o/\H b=none:=by
 have e':h.get? b=B o:=PySem.W.of_hideAll (DS h H) e;refine⟨e',?_⟩;cases q:H b with
 |none=>rfl
 |some x=>have hm:b∈DS h H:=fw.mpr ⟨oG.mpr (cU e'),by simp[q]⟩;have z:(sJ h H).get? b=none:=PySem.W.hideAll_none (DS h H) hm;rw[z]at e;cases e
structure Mod (K:aM)(mg:ao->Option aj)(ak:a9):Prop where
 pX:K.In ak
 glob:ak.Ns jO mg
 blt:∃mb,ak.Ns Ih mb/\∀x:ao,x≠"__name__"->mb x=ko x
 nolimit:ak.NoLimit
structure Cx where
 prog:bx
 w:World
 K:aM
 mg:ao->Option aj
 ak:a9
 A:dO
 aR:List ao
 jv:aF
 wj:Hp
 env:Env
 outer:List Env
 stack:List Env
 ex:List J
 fn:ao->Bool
 calm:Bool
 pn:List (J×Obj)
 xe:aj->aF->Prop
instance:Nonempty Cx:=iW.elim λw=>⟨⟨default,w,default,λ_=>N,default,{},[],{},λ_=>N,default,[],[],[],λ_=>true,true,[],λ_ _=>True⟩⟩
noncomputable def pZ (l:List Env):List Addr:=l.filterMap (·.frame)
abbrev Cx.fs (X:Cx):List Addr:=pZ X.outer
def AD (sc:Scope)(x:ao):Prop:=sc.names.lookup x=B .local\/sc.names.lookup x=B .cell\/sc.names.lookup x=B .free
def Loc (sc:Scope)(x:ao):Prop:=sc.names.lookup x=B .local\/sc.names.lookup x=B .cell
def Look (env:Env)(h:a9)(m:ao->Option aj)(x:ao)(u:aj):Prop:=
 (env.kindOf x=B .local/\m x=B u)\/((env.kindOf x=B .cell\/env.kindOf x=B .free)/\∃c,env.cells.lookup x=B c/\h.IsCell c (B u))
structure Cx.Ok (X:Cx):Prop where
 mod:Mod X.K X.mg X.ak
 kind:X.env.scope.kind=.function
 glob:X.env.globals=jO
 blt:X.env.builtins=Ih
 above:X.jv.heap.objs.size<=X.env.locals
 inj:∀x y c,X.env.cells.lookup x=B c->X.env.cells.lookup y=B c->x=y
 has:∀x,(X.env.kindOf x=B .cell\/X.env.kindOf x=B .free)->∃c,X.env.cells.lookup x=B c
 AE:∀x c,X.fn x=L->X.env.cells.lookup x=B c->X.jv.heap.objs.size<=c
 hd:X.calm=L->X.A.handled=N
 frames:X.A.frames=B X.stack
 DU:X.stack=X.outer\/(X.stack=X.env::X.outer/\X.env.frame=B X.env.locals)
 DV:∀b∈X.ex,b≠X.env.locals/\∀x c,X.env.cells.lookup x=B c->c≠b
 bs:∀b o,X.ak.get? b=B o->X.jv.heap.get? b=B o/\X.wj b=N
 sM:X.ak.objs.size<=X.jv.heap.objs.size
 AF:∀b o,X.ak.get? b=B o->b∉X.ex
 AG:∀b∈X.ex,b∉X.fs
 oH:X.jv.heap.FunFrames X.ak X.outer
 wk:∀b∈X.fs,X.wj b=N
structure Inv (X:Cx)(Y:List (J×Obj))(σ:List (Option V))(H:Hp)(s:aF):Prop where
 ok:X.Ok
 os:s.os=X.jv.os
 bare:AllBare s.gens
 ak:Un X.fs X.ex X.wj H X.jv.heap s.heap
 loc:∃m,s.heap.Ns X.env.locals m/\∀(i:Nat)(x:ao)(v:V),X.aR[i]?=B x->σ[i]?=B (B v)->AD X.env.scope x->∃u,RelV v u/\Look X.env s.heap m x u
 cell:∀x c,X.env.cells.lookup x=B c->∃v,s.heap.IsCell c v
 free:H X.env.locals=N
 nJ:∀x c,X.env.cells.lookup x=B c->H c=N
 pin:∀p∈X.pn++Y,s.heap.get? p.1=B p.2/\H p.1=N/\p.1≠X.env.locals/\p.1∉X.fs/\∀v,p.2.data≠.cell v
 aV:eV X.prog X.w H s.heap
 len:σ.length=X.aR.length
section
variable{X:Cx}{Y:List (J×Obj)}{σ:List (Option V)}{H H':Hp}{s:aF}{h':a9}
def Cx.Ok.ab2 (ok:X.Ok)(e:X.ak.get? b=B o):b∉X.fs:=λhb=>by have:=(ok.oH.mem hb).1;rw[e]at this;cases this
def Inv.bs (I:Inv X Y σ H s):∀b o,X.ak.get? b=B o->s.heap.get? b=B o/\H b=none:=λb o e=>
 ⟨I.ak.keep b o (I.ok.bs b o e).1 (I.ok.bs b o e).2 (I.ok.ab2 e) (I.ok.AF b o e),I.ak.free b o (I.ok.bs b o e).1 (I.ok.bs b o e).2 (I.ok.AF b o e)⟩
def Inv.bk (I:Inv X Y σ H s):∀b o,X.ak.get? b=B o->s.heap.get? b=B o:=λb o e=>(I.bs b o e).1
def Inv.mod (I:Inv X Y σ H s):Mod X.K X.mg X.ak:=I.ok.mod
def Inv.gW (I:Inv X Y σ H s):X.K.In s.heap:=I.ok.mod.pX.keeps I.bk
def Inv.lt (I:Inv X Y σ H s):X.env.locals<s.heap.objs.size:=let⟨_,hn,_⟩:=I.loc;hn.lt
def Inv.sz (I:Inv X Y σ H s):X.jv.heap.objs.size<=s.heap.objs.size:=fJ I.ok.above (DW I.lt)
def Inv.ab3 (I:Inv X Y σ H s)(h:s.heap.objs.size<=a):a∉X.fs:=λhb=>by obtain⟨_,o,ho,_⟩:=I.ok.oH.mem hb;exact bT (jh (cU ho) (fJ I.sz h)) (sj _)
def Inv.wm (I:Inv X Y σ H s):∀x c,X.env.cells.lookup x=B c->c≠X.env.locals:=λx c e z=>by obtain⟨v,o,ho,hd⟩:=I.cell x c e;obtain⟨m,⟨o',es,ep,lI,qX,_⟩,_⟩:=I.loc;rfl'
def Inv.oH (I:Inv X Y σ H s):s.heap.FunFrames X.ak X.outer:=by
 have all:∀(l:List Env),(∀b∈pZ l,b∈X.fs)->X.jv.heap.FunFrames X.ak l->s.heap.FunFrames X.ak l:=by
  intro l;induction l with
  |nil=>intro _ _;trivial
  |cons env r ih=>intro hs hl;obtain⟨hk,⟨bV,o,hf,hn,ho,hd⟩,hr⟩:=hl;have hL:bV∈X.fs:=hs bV (by unfold pZ;grind);obtain⟨sl,e⟩:=I.ak.slot bV o ho (I.ok.wk bV hL) hL λz=>I.ok.AG bV z hL;exact⟨hk,⟨bV,_,hf,hn,e,hd⟩,ih (λb hb=>hs b (by unfold pZ;rw[AH,hf];exact eD _ hb)) hr⟩
 exact all X.outer (λ_ hb=>hb) I.ok.oH
def Inv.stack (I:Inv X Y σ H s):s.heap.FunFrames X.ak X.stack:=by
 rcases I.ok.DU with e|⟨e,hf⟩
 .rw[e];exact I.oH
 .rw[e];obtain⟨m,hn,_⟩:=I.loc;refine .cons (by rw[I.ok.kind];decide) hf hn ?_ I.oH;exact Heap.get?_none_of_le (fJ I.ok.sM I.ok.above)
def Inv.Ii (I:Inv X Y σ H s):∀b∈pZ X.stack,b∈X.env.locals::X.fs:=λb hb=>by
 rcases I.ok.DU with e|⟨e,hf⟩
 .grind
 .rw[e]at hb;unfold pZ at hb;rw[AH,hf]at hb;exact hb
def Inv.Qm (I:Inv X Y σ H s):∀b∈pZ X.stack,H b=none:=λb hb=>by
 rcases dz.mp (I.Ii b hb)with e|hb
 .rw[e];exact I.free
 .obtain⟨_,o,ho,_⟩:=I.ok.oH.mem hb;exact I.ak.free b o ho (I.ok.wk b hb) λz=>I.ok.AG b z hb
def Inv.step {g':Array GenState}{t':Nat}{d':Drawn}{ch:List J}(I:Inv X Y σ H s)
  (gF:∀b∈ch,(b∈X.ex\/X.jv.heap.objs.size<=b)/\b≠X.env.locals/\(∀x c,X.env.cells.lookup x=B c->c≠b)/\∀p∈X.pn++Y,p.1≠b)
  (keep:∀b o,b≠X.env.locals->b∉X.fs->b∉ch->s.heap.get? b=B o->H b=N->h'.get? b=B o)
  (slot:∀b o,b≠X.env.locals->b∈X.fs->b∉ch->s.heap.get? b=B o->H b=N->∃sl,h'.get? b=B {o with slots:=sl}) (free:∀b o,b∉ch->s.heap.get? b=B o->H b=N->H' b=N)
  (there:∀b o,b∉ch->s.heap.get? b=B o->∃o',h'.get? b=B o')
  (pU:∀b xs,H b=B (.tup xs)->H' b=B (.tup xs)) (pV:∀b o u,H b=B (.bF o u)->H' b=B (.bF o u)) (uC:∀b ps,H b=B (.wg ps)->∃more,H' b=B (.wg (ps++more)))
  (ns:∀m,s.heap.Ns X.env.locals m->h'.Ns X.env.locals m) (aV:eV X.prog X.w H' h') (hg:AllBare g'):
  Inv X Y σ H' {s with heap:=h',gens:=g',drawn:=d',toks:=t'}:=by
 have Qn:∀b o,X.jv.heap.get? b=B o->b≠X.env.locals:=λb o e=>fZ (jh (cU e) I.ok.above)
 have DX:∀b o,X.jv.heap.get? b=B o->b∉X.ex->b∉ch:=λb o e hx hb=>by
  rcases(gF b hb).1 with z|z
  .exact hx z
  .exact bT (jh (cU e) z) (sj _)
 have cellK:∀x c,X.env.cells.lookup x=B c->∀v,s.heap.IsCell c v->h'.IsCell c v:=λx c e v ⟨o,ho,hd⟩=>by
  have Qo:c∉ch:=λz=>(gF c z).2.2.1 x c e rfl;by_cases hc:c∈X.fs
  .obtain⟨sl,q⟩:=slot c o (I.wm x c e) hc Qo ho (I.nJ x c e);exact⟨_,q,hd⟩
  .exact⟨o,keep c o (I.wm x c e) hc Qo ho (I.nJ x c e),hd⟩
 refine⟨I.ok,I.os,hg,⟨λb o e n hb hx=>?_,λb o e n hb hx=>?_,λb o e n hx=>?_,λb o e hx=>?_,λb xs e=>pU b xs (I.ak.pU b xs e),λb o xs e=>pV b o xs (I.ak.pV b o xs e),λb ps e=>?_⟩,?_,λx c e=>?_,?_,λx c e=>?_,λp hp=>?_,aV,I.len⟩
 .exact keep b o (Qn b o e) hb (DX b o e hx) (I.ak.keep b o e n hb hx) (I.ak.free b o e n hx)
 .obtain⟨sl,e1⟩:=I.ak.slot b o e n hb hx;obtain⟨sl',e2⟩:=slot b _ (Qn b o e) hb (DX b o e hx) e1 (I.ak.free b o e n hx);exact⟨sl',e2⟩
 .obtain⟨o',e1⟩:=I.ak.there b o e hx;exact free b o' (DX b o e hx) e1 (I.ak.free b o e n hx)
 .obtain⟨o',e1⟩:=I.ak.there b o e hx;exact there b o' (DX b o e hx) e1
 .obtain⟨m1,e1⟩:=I.ak.uC b ps e;grind
 .obtain⟨m,hn,hl⟩:=I.loc;refine⟨m,ns m hn,λi x v e1 e2 e3=>?_⟩;obtain⟨u,r,l⟩:=hl i x v e1 e2 e3;refine⟨u,r,?_⟩;rcases l with l|⟨k,c,e,z⟩
  .exact .inl l
  .exact .inr ⟨k,c,e,cellK x c e _ z⟩
 .obtain⟨v,z⟩:=I.cell x c e;grind
 .obtain⟨m,⟨o,_,_,ho,_⟩,_⟩:=I.loc;exact free _ o (λz=>(gF _ z).2.1 O) ho I.free
 .obtain⟨v,o,ho,hd⟩:=I.cell x c e;exact free c o (λz=>(gF c z).2.2.1 x c e O) ho (I.nJ x c e)
 .obtain⟨e,n,ne,nf,d⟩:=I.pin p hp;grind
def Inv.un {t':Nat}(I:Inv X Y σ H s)(u:Un X.fs [] H H' s.heap h')(aV:eV X.prog X.w H' h'):Inv X Y σ H' {s with heap:=h',toks:=t'}:=by
 obtain⟨m,⟨o,es,ep,ho,r⟩,_⟩:=id I.loc;obtain⟨sl,hL⟩:=u.any ho I.free (by simp)
 exact I.step (g':=s.gens) (d':=s.drawn) (ch:=[]) (λ_ z=>nomatch z) (λb o _ hb _ e n=>u.keep b o e n hb (by simp)) (λb o _ hb _ e n=>u.slot b o e n hb (by simp)) (λb o _ e n=>u.free b o e n (by simp)) (λb o _ e=>u.there b o e (by simp)) u.pU u.pV u.uC (λm' hm=>by
  obtain⟨o',mC,lJ,lI,r'⟩:=hm;rw[ho]at lI;cases lI
  exact⟨_,mC,lJ,hL,r'⟩) aV I.bare
def Inv.call {g':Array GenState}{t':Nat}{d':Drawn}{ch:List J}(I:Inv X Y σ H s)(u:Un (pZ X.stack) ch H H' s.heap h')(aV:eV X.prog X.w H' h')(hg:AllBare g')
  (gF:∀b∈ch,(b∈X.ex\/X.jv.heap.objs.size<=b)/\b≠X.env.locals/\(∀x c,X.env.cells.lookup x=B c->c≠b)/\∀p∈X.pn++Y,p.1≠b):
  Inv X Y σ H' {s with heap:=h',gens:=g',drawn:=d',toks:=t'}:=by
 obtain⟨m,⟨o,es,ep,ho,r⟩,_⟩:=id I.loc;obtain⟨sl,hL⟩:=u.any ho I.free λz=>(gF _ z).2.1 rfl
 exact I.step (ch:=ch) gF (λb o hL hb hc e n=>u.keep b o e n (λz=>(dz.mp (I.Ii b z)).elim hL hb) hc) (λb o _ _ hc e n=>u.any e n hc) (λb o hc e n=>u.free b o e n hc) (λb o hc e=>u.there b o e hc) u.pU u.pV u.uC (λm' hm=>by
  obtain⟨o',mC,lJ,lI,r'⟩:=hm;rw[ho]at lI;cases lI
  exact⟨_,mC,lJ,hL,r'⟩) aV hg
def Inv.turned {t':Nat}(I:Inv X Y σ H s)(k:∀b o,b≠it->s.heap.get? b=B o->h'.get? b=B o)(hn:H it=N)(hL:it≠X.env.locals)
  (h1:it∈X.ex\/X.jv.heap.objs.size<=it) (h2:∀x c,X.env.cells.lookup x=B c->c≠it) (h3:∀p∈X.pn++Y,p.1≠it):Inv X Y σ H {s with heap:=h',toks:=t'}:=by
 have nit:∀b u,H b=B u->b≠it:=λb u e z=>by rw[z,hn]at e;cases e
 refine I.step (g':=s.gens) (d':=s.drawn) (ch:=[it]) (λb hb=>?_) (λb o _ _ hc e _=>k b o (λz=>hc (by simp[z])) e) (λb o _ _ hc e _=>⟨o.slots,k b o (λz=>hc (by simp[z])) e⟩) (λ_ _ _ _ n=>n)
  (λb o hc e=>⟨o,k b o (λz=>hc (by simp[z])) e⟩) (λ_ _ e=>e) (λ_ _ _ e=>e) (λb ps e=>⟨#[],by rw[e];simp⟩) (λm hm=>?_) (λb u e=>?_) I.bare
 .grind
 .obtain⟨o,es,ep,ho,r⟩:=hm;exact⟨o,es,ep,k _ o (aP hL) ho,r⟩
 .refine(I.aV b u e).oF (λc v hc q=>k c v ?_ q) (λ_ q=>q) λ_ _ q=>q<;>grind
def Inv.tok (I:Inv X Y σ H s)(t:Nat):Inv X Y σ H {s with toks:=t}:=I.un (h':=s.heap) (t':=t) Un.refl I.aV
def Inv.kept {t':Nat}(I:Inv X Y σ H s)(k:∀b u,s.heap.get? b=B u->h'.get? b=B u):Inv X Y σ H {s with heap:=h',toks:=t'}:=I.un (Un.kept k) (I.aV.kept k)
def Inv.laid {t':Nat}(I:Inv X Y σ H s)(k:∀b u,s.heap.get? b=B u->h'.get? b=B u)(hp:s.heap.objs.size<=a)(new:d9 X.prog X.w (M H a o) h' a o):
  Inv X Y σ (M H a o) {s with heap:=h',toks:=t'}:=I.un (Un.laid k hp (I.aV.fresh hp)) (I.aV.laid k hp new)
def Inv.write {t':Nat}(I:Inv X Y σ H s)(mu:sI (H x))(he:e=x\/H e=B (.own x))(k:∀b u,b≠e->s.heap.get? b=B u->h'.get? b=B u)(AB:∃u,h'.get? e=B u)
  (new:d9 X.prog X.w (M H x o) h' x o):Inv X Y σ (M H x o) {s with heap:=h',toks:=t'}:=I.un (Un.write mu he k AB) (I.aV.write mu he k AB new)
def Inv.weak {σ':List (Option V)}(I:Inv X Y σ H s)(hl:σ'.length=σ.length)(w:∀(i:Nat) v,σ'[i]?=B (B v)->σ[i]?=B (B v)):Inv X Y σ' H s:=
 ⟨I.ok,I.os,I.bare,I.ak,let⟨m,hn,kQ⟩:=I.loc;⟨m,hn,λi x v e1 e2 e3=>kQ i x v e1 (w i v e2) e3⟩,I.cell,I.free,I.nJ,I.pin,I.aV,hl.trans I.len⟩
def Inv.Qp {Qq:List (J×Obj)}(I:Inv X Y σ H s)(h:∀p∈Qq,s.heap.get? p.1=B p.2/\H p.1=N/\p.1≠X.env.locals/\p.1∉X.fs/\∀v,p.2.data≠.cell v):Inv X Qq σ H s:=
 ⟨I.ok,I.os,I.bare,I.ak,I.loc,I.cell,I.free,I.nJ,λp hp=>(eX.mp hp).elim (λz=>I.pin p (yi _ z)) (h p),I.aV,I.len⟩
def Ij {aR:List ao}(hN:aR.Nodup){i j:Nat}(a:aR[i]?=B x)(b:aR[j]?=B x):i=j:=by obtain⟨h1,e1⟩:=AI.mp a;obtain⟨h2,e2⟩:=AI.mp b;exact(yj hN).mp (e1.trans e2.symm)
def Qr {aY:Model}{E:aj->aF->Prop}{i:Nat}{Q:Unit->aF->Prop}(I:Inv X Y σ H s)(hN:X.aR.Nodup)(hi:X.aR[i]?=B x)(hx:Loc X.env.scope x)(r:RelV v u)
  (h:∀s',Inv X Y (σ.set i (B v)) H s'->(∃a,jw a s.heap s'.heap/\(a=X.env.locals\/X.env.cells.lookup x=B a))->Q () s') (hf:X.fn x=L\/X.env.scope.names.lookup x=B .local:=by ac_nf):wpAny aY A (storeName X.env x u) Q E s:=by
 obtain⟨m,hn,hl⟩:=id I.loc;have ab6:(X.env.scope.kind==.class||(X.env.scope.kind==.module&&X.env.locals !=X.env.globals))=false:=by rw[I.ok.kind];rfl
 have Qt:i<σ.length:=by rw[I.len];grind
 have wm:=I.wm
 have tracked:∀{a:J}{h':a9},(∃o,s.heap.get? a=B o/\H a=N)->jw a s.heap h'->eV X.prog X.w H h':=λ{a h'} ha hs b ob e=>by obtain⟨_,_,DZ⟩:=ha;refine(I.aV b ob e).oF (λc w' hc q=>(hs.2 c ?_).trans q) (λ_ q=>q) λ_ _ q=>q<;>grind
 rcases hx with hk|hk
 .refine wpAny_storeName_local hk hn (λh' AJ hs=>?_) ab6;obtain⟨oL,_,_,yk,_⟩:=id hn;refine h _ ⟨I.ok,I.os,I.bare,⟨λb o e n hb hx=>?_,λb o e n hb hx=>?_,I.ak.free,λb o e hx=>?_,I.ak.pU,I.ak.pV,I.ak.uC⟩,⟨_,AJ,λj y v' e1 e2 e3=>?_⟩,λy c e=>?_,I.free,I.nJ,λp hp=>?_,tracked ⟨oL,yk,I.free⟩ hs,by simpa using I.len⟩ ⟨_,hs,.inl O⟩
  .exact(hs.2 b (fZ (jh (cU e) I.ok.above))).trans (I.ak.keep b o e n hb hx)
  .obtain⟨sl,e1⟩:=I.ak.slot b o e n hb hx;exact⟨sl,(hs.2 b (fZ (jh (cU e) I.ok.above))).trans e1⟩
  .obtain⟨o',e1⟩:=I.ak.there b o e hx;exact⟨o',(hs.2 b (fZ (jh (cU e) I.ok.above))).trans e1⟩
  .by_cases hj:j=i
   .subst hj;rw[hi]at e1;cases e1;rw[Ik Qt]at e2;cases e2
    exact⟨u,r,.inl ⟨hk,by simp⟩⟩
   .rw[D0 (aP hj)]at e2;obtain⟨u',r',q⟩:=hl j y v' e1 e2 e3;refine⟨u',r',?_⟩;rcases q with⟨k,e⟩|⟨k,c,e,z⟩
    .refine .inl ⟨k,?_⟩;have:y≠x:=λe=>hj (Ij hN e1 (e▸hi));grind
    .exact .inr ⟨k,c,e,z.sameBut hs (wm y c e)⟩
  .obtain⟨w',z⟩:=I.cell y c e;exact⟨w',z.sameBut hs (wm y c e)⟩
  .obtain⟨e,n,ne,nf,d⟩:=I.pin p hp;exact⟨(hs.2 p.1 ne).trans e,n,ne,nf,d⟩
 .have Il:X.fn x=true:=by grind
  obtain⟨c,hc⟩:=I.ok.has x (.inl hk);obtain⟨w',z⟩:=I.cell x c hc;refine wpAny_storeName_cell I.ok.kind hk hc z (λh' D1 hs=>?_);obtain⟨oc,hoc,apl⟩:=id z;refine h {s with heap:=h'} ⟨I.ok,I.os,I.bare,⟨λb o e n hb hx=>?_,λb o e n hb hx=>?_,I.ak.free,λb o e hx=>?_,I.ak.pU,I.ak.pV,I.ak.uC⟩,⟨m,hn.sameBut hs (aP (wm x c hc)),λj y v' e1 e2 e3=>?_⟩,λy c' e=>?_,I.free,I.nJ,λp hp=>?_,tracked ⟨oc,hoc,I.nJ x c hc⟩ hs,by simpa using I.len⟩ ⟨c,hs,.inr hc⟩
  .exact(hs.2 b (fZ (jh (cU e) (I.ok.AE x c Il hc)))).trans (I.ak.keep b o e n hb hx)
  .obtain⟨sl,e1⟩:=I.ak.slot b o e n hb hx;exact⟨sl,(hs.2 b (fZ (jh (cU e) (I.ok.AE x c Il hc)))).trans e1⟩
  .obtain⟨o',e1⟩:=I.ak.there b o e hx;exact⟨o',(hs.2 b (fZ (jh (cU e) (I.ok.AE x c Il hc)))).trans e1⟩
  .by_cases hj:j=i
   .subst hj;rw[hi]at e1;cases e1;rw[Ik Qt]at e2;cases e2
    exact⟨u,r,.inr ⟨.inl hk,c,hc,D1⟩⟩
   .rw[D0 (aP hj)]at e2;obtain⟨u',r',q⟩:=hl j y v' e1 e2 e3;refine⟨u',r',?_⟩;rcases q with q|⟨k,c',e,z'⟩
    .exact .inl q
    .refine .inr ⟨k,c',e,z'.sameBut hs ?_⟩;rintro rfl;exact hj (Ij hN e1 (I.ok.inj _ _ _ e hc▸hi))
  .by_cases hcc:c'=c
   .grind
   .obtain⟨w2,z2⟩:=I.cell y c' e;exact⟨w2,z2.sameBut hs hcc⟩
  .obtain⟨e,n,ne,nf,d⟩:=I.pin p hp;refine⟨(hs.2 p.1 ?_).trans e,n,ne,nf,d⟩;grind
def Qu {aY:Model}{E:aj->aF->Prop}{i:Nat}{Q:Unit->aF->Prop}(I:Inv X Y σ H s)(hN:X.aR.Nodup)(hi:X.aR[i]?=B x)(hx:Loc X.env.scope x)(r:RelV v u)
  (h:∀s',Inv X Y (σ.set i (B v)) H s'->Q () s') (hf:X.fn x=L\/X.env.scope.names.lookup x=B .local:=by ac_nf):wpAny aY A (storeName X.env x u) Q E s:=
 Qr I hN hi hx r (λs' I' _=>h s' I') hf
def Inv.ab9 {ch:List J}(I:Inv X Y σ H s)(ho:s'.os=s.os)(u:Un (pZ X.stack) ch H H' s.heap s'.heap)(aV:eV X.prog X.w H' s'.heap)(hg:AllBare s'.gens)
  (gF:∀b∈ch,(b∈X.ex\/X.jv.heap.objs.size<=b)/\b≠X.env.locals/\(∀x c,X.env.cells.lookup x=B c->c≠b)/\∀p∈X.pn++Y,p.1≠b):Inv X Y σ H' s':=by obtain⟨h',g',d',t',o'⟩:=s';have e:o'=s.os:=ho;subst e;exact I.call (g':=g') (t':=t') (d':=d') u aV hg gF
end
abbrev XK:=aj->Option J->Hp->Prop
abbrev St:=List (Option V)
abbrev VK:=V->Hp->Prop
abbrev TE:=St->Hp->VK->Prop
abbrev TT:=St->Hp->(Bool->Hp->Prop)->Prop
abbrev TA:=St->Hp->(List V->Hp->Prop)->Prop
structure Ends where
 nx:St->Hp->Prop
 rt:VK
 bk:St->Hp->Prop:=λ_ _=>False
 ct:St->Hp->Prop:=λ_ _=>False
abbrev Ends.th (D:Ends)(n:St->Hp->Prop):Ends:={D with nx:=n}
abbrev Ends.lp (D:Ends)(n:St->Hp->Prop):Ends:={D with nx:=n,ct:=n,bk:=D.nx}
abbrev TS:=Ends->St->Hp->Prop
inductive EP (X:Cx)(Y:List (J×Obj))(σ:St)(Q:VK)(u:aj)(s':aF):Prop|mk v H':Inv X Y σ H' s'->RelV v u->Q v H'->EP X Y σ Q u s'
def TP (X:Cx)(Y:List (J×Obj))(σ:St)(Q:Bool->Hp->Prop)(b:Bool)(s':aF):Prop:=∃H',Inv X Y σ H' s'/\Q b H'
inductive AP (X:Cx)(Y:List (J×Obj))(σ:St)(Q:List V->Hp->Prop)(us:List aj)(s':aF):Prop|mk vs H':Inv X Y σ H' s'->Vals vs us->Q vs H'->AP X Y σ Q us s'
def SP (X:Cx)(Y:List (J×Obj))(D:Ends)(f:Flow)(s':aF):Prop:=
 match f with
 |.next=>∃σ' H',Inv X Y σ' H' s'/\D.nx σ' H'
 |.brk=>∃σ' H',Inv X Y σ' H' s'/\D.bk σ' H'
 |.cont=>∃σ' H',Inv X Y σ' H' s'/\D.ct σ' H'
 |.ret u=>∃v σ' H',Inv X Y σ' H' s'/\RelV v u/\D.rt v H'
def PE (X:Cx)(e:bK)(t:TE):Prop:=
 ∀(Y:List (J×Obj))(s:aF)(σ:St)(H:Hp)(Q:VK),Inv X Y σ H s->t σ H Q->wpAny (model X.prog X.w) X.A (eval e X.env) (EP X Y σ Q) X.xe s
def PT (X:Cx)(e:bK)(t:TT):Prop:=
 ∀(Y:List (J×Obj))(s:aF)(σ:St)(H:Hp)(Q:Bool->Hp->Prop),Inv X Y σ H s->t σ H Q->wpAny (model X.prog X.w) X.A (isTrue e X.env (eval e X.env)) (TP X Y σ Q) X.xe s
def PW (X:Cx)(e:bK)(t:TT):Prop:=
 ∀(whole:Sem aj)(Y:List (J×Obj))(s:aF)(σ:St)(H:Hp)(Q:Bool->Hp->Prop),Inv X Y σ H s->t σ H Q->wpAny (model X.prog X.w) X.A (isTrue e X.env whole) (TP X Y σ Q) X.xe s
def PW.pt {t:TT}(h:PW X e t):PT X e t:=h _
def PA (X:Cx)(es:List bK)(t:TA):Prop:=
 ∀(pos:Pos)(Y:List (J×Obj))(s:aF)(σ:St)(H:Hp)(Q:List V->Hp->Prop),Inv X Y σ H s->t σ H Q->wpAny (model X.prog X.w) X.A (spliced (backTo pos (starEach es X.env))) (AP X Y σ Q) X.xe s
def PS (X:Cx)(st:hX)(t:TS):Prop:=
 ∀(Y:List (J×Obj))(s:aF)(σ:St)(H:Hp)(D:Ends),Inv X Y σ H s->t D σ H->wpAny (model X.prog X.w) X.A (exec st X.env) (SP X Y D) X.xe s
def nM (X:Cx)(st:List hX)(t:TS):Prop:=
 ∀(Y:List (J×Obj))(s:aF)(σ:St)(H:Hp)(D:Ends),Inv X Y σ H s->t D σ H->wpAny (model X.prog X.w) X.A (execs st X.env) (SP X Y D) X.xe s
def ba {α:Type}{t:Sem α}{Q Q':α->aF->Prop}{aY:Model}{E:aj->aF->Prop}(h:wpAny aY A t Q E s)(hQ:∀a s,Q a s->Q' a s):wpAny aY A t Q' E s:=wpAny_mono h hQ λ_ _ x=>x
section
variable{X:Cx}
def Qv (i:Nat):TE:=λσ H Q=>match σ[i]? with|some (some v)=>Q v H|_=>False
theorem Qv.ex (h:Qv i σ H Q):∃v,σ[i]?=B (B v)/\Q v H:=by
 unfold Qv at h;split at h;exact⟨_,‹_›,h⟩;cases h
def tC (v:V):TE:=λ_ H Q=>Q v H
def ab' {i:Nat}{pos:Pos}(hN:X.aR[i]?=B x)(hv:AD X.env.scope x)(hd:(x==("__debug__":ao))=false:=by decide)(lK:(x==("__classdict__":ao))=false:=by decide):PE X (.Name x pos) (Qv i):=by
 intro Y s σ H Q I h;obtain⟨v,e,h⟩:=h.ex;obtain⟨m,hn,hl⟩:=I.loc;obtain⟨u,r,l⟩:=hl i x v hN e hv;have fin:EP X Y σ Q u s:=⟨v,H,I,r,h⟩;rcases l with⟨hk,hm⟩|⟨hk,c,hc,Qw⟩
 .exact Im (wpAny_loadName_local I.ok.kind hk hn hm fin) hd
 .rcases hk with hk|hk
  .exact Im (wpAny_loadName_cell I.ok.kind hk hc Qw fin) hd
  .exact Im (wpAny_loadName_free I.ok.kind hk hc Qw fin lK) hd
def aZ {i j pos}:PE X (.Constant (.int i) j pos) (tC (.int i)):=λ_ _ _ H _ I h=>wpAny_Constant_int ⟨.int i,H,I.tok _,⟨_,O⟩,h⟩
def nN {b j pos}:PE X (.Constant (.bool b) j pos) (tC (.bl b)):=λ_ _ _ H _ I h=>Constant_bool ⟨.bl b,H,I,O,h⟩
def sN {j pos}:PE X (.Constant .none j pos) (tC .bB):=λ_ _ _ H _ I h=>Io ⟨.bB,H,I,O,h⟩
def Gl (X:Cx)(x:ao):Prop:=X.env.kindOf x=B .globalImplicit
def D3 {E:aj->aF->Prop}{Y:List (J×Obj)}{pos:Pos}{Q:aj->aF->Prop}(I:Inv X Y σ H s)(hg:Gl X x)(hm:X.mg x=B u)(h:Q u s)
  (hd:(x==("__debug__":ao))=false:=by decide):wpAny (model X.prog X.w) X.A (eval (.Name x pos) X.env) Q E s:=
 Qx I.ok.kind hg (Calls.loadGlobal_global (by rw[I.ok.glob];exact I.mod.glob.keeps I.bk) hm h) hd
def p0 {E:aj->aF->Prop}{Y:List (J×Obj)}{pos:Pos}{Q:aj->aF->Prop}(I:Inv X Y σ H s)(hg:Gl X x)(hm:X.mg x=N)(hv:ko x=B u)(h:Q u s)
  (hn:x≠"__name__":=by decide) (hd:(x==("__debug__":ao))=false:=by decide):wpAny (model X.prog X.w) X.A (eval (.Name x pos) X.env) Q E s:=by obtain⟨mb,h1,h2⟩:=I.mod.blt;exact Qx I.ok.kind hg (Calls.loadGlobal_builtin (by rw[I.ok.glob];exact I.mod.glob.keeps I.bk) hm (by rw[I.ok.blt];exact h1.keeps I.bk) ((h2 x hn).trans hv) h) hd
def Qy {pos:Pos}(hg:Gl X x)(hm:X.mg x=B u)(r:RelV v u)(hd:(x==("__debug__":ao))=false:=by decide):PE X (.Name x pos) (tC v):=
 λ_ _ _ H _ I h=>D3 I hg hm ⟨v,H,I,r,h⟩ hd
def aca {pos:Pos}(hg:Gl X x)(hm:X.mg x=N)(hv:ko x=B u)(r:RelV v u)(hn:x≠"__name__":=by decide)(hd:(x==("__debug__":ao))=false:=by decide):PE X (.Name x pos) (tC v):=
 λ_ _ _ H _ I h=>p0 I hg hm hv ⟨v,H,I,r,h⟩ hn hd
variable{a b:bK}{ta tb:TE}{pos:Pos}
def PC (X:Cx)(op:CmpOp)(a b:bK)(t:TE):Prop:=
 ∀(Y:List (J×Obj))(s:aF)(σ:St)(H:Hp)(Q:VK),Inv X Y σ H s->t σ H Q->
  wpAny (model X.prog X.w) X.A (eval a X.env) (λv s₁=>wpAny (model X.prog X.w) X.A (eval b X.env) (λu s₂=>wpAny (model X.prog X.w) X.A (compareOp op v u) (EP X Y σ Q) X.xe s₂) X.xe s₁) X.xe s
def acb (b:bK){op:CmpOp}(h:op≠.In)(h2:op≠.NotIn):wo op b=false:=by
 have e1:(op==CmpOp.In)=false:=by grind
 have e2:(op==Qz)=false:=by grind
 cases b<;>simp[wo,e1,e2]
def acd (ta:TE):TE:=λσ H Q=>ta σ H λx H1=>Q (.bl (decide (x=.bB))) H1
def ace (ta:TE):TE:=λσ H Q=>ta σ H λx H1=>Q (.bl (!decide (x=.bB))) H1
def RelV.QA (r:RelV x v):(v==lF)=decide (x=.bB):=by
 cases x with
 |bB=>cases r;rfl
 |bl _=>cases r;rfl
 |int _=>obtain⟨t,rfl⟩:=r;rfl
 |str _=>obtain⟨t,rfl⟩:=r;rfl
 |jM _=>obtain⟨t,rfl⟩:=r;rfl
 |uz _=>obtain⟨t,rfl⟩:=r;rfl
 |ref _=>cases r;rfl
 |ty _=>cases r;rfl
def yl {j pos'}(ha:PE X a ta):PC X .Is a (.Constant .none j pos') (acd ta):=by intro Y s σ H Q I h;refine ba (ha Y s σ H _ I h) λv s1 ⟨x,H1,I1,r1,q1⟩=>?_;exact Io (is_none_gen ⟨.bl _,H1,I1,by rw[r1.QA];rfl,q1⟩)
def acf {j pos'}(ha:PE X a ta):PC X .IsNot a (.Constant .none j pos') (ace ta):=by intro Y s σ H Q I h;refine ba (ha Y s σ H _ I h) λv s1 ⟨x,H1,I1,r1,q1⟩=>?_;exact Io (isnot_none_gen ⟨.bl _,H1,I1,by rw[r1.QA];rfl,q1⟩)
inductive bIn (x:V)(H:Hp)(Q:Bool->Hp->Prop):Prop|mk c:x=.bl c->Q c H->bIn x H Q
def tB (t:TE):TT:=λσ H Q=>t σ H λx H1=>bIn x H1 Q
def iX {op:CmpOp}{t:TE}(h:PC X op a b t)(h1:wo op b=false:=by first|exact acb _ (by decide) (by decide)|rfl):PT X (.Compare a [op] [b] pos) (tB t):=by
 intro Y s σ H Q I hw;refine QB (ba (h Y s σ H _ I hw) λv s1 h1=>ba h1 λu s2 h2=>ba h2 λc s3 ⟨x,H1,I1,r1,q1⟩=>?_) h1;obtain⟨d,rfl,q⟩:=q1;cases r1
 exact qY ⟨H1,I1,q⟩
def lL {t:TE}(h:PE X e t)(he:∀whole,isTrue e X.env whole=(do let v<-whole;standAt e.pos;holding [v] (truthy v)):=by intro _;rfl):PT X e (tB t):=by
 intro Y s σ H Q I hw;refine isTrue_plain (ba (h Y s σ H _ I hw) λv s1 ⟨x,H1,I1,r1,q1⟩=>?_) (he _);obtain⟨d,rfl,q⟩:=q1;cases r1
 exact qY ⟨H1,I1,q⟩
variable{tA D4:TT}{rest:List bK}
def acg (t u:TT):TT:=λσ H Q=>t σ H λc H1=>if c=L then u σ H1 Q else Q aH H1
def tOr (t u:TT):TT:=λσ H Q=>t σ H λc H1=>if c=L then Q L H1 else u σ H1 Q
def aci (t:TT):TT:=λσ H Q=>t σ H λc H1=>Q (!c) H1
def p9 (ha:PT X a tA):PW X (.BoolOp .And [a] pos) tA:=by
 intro wh Y s σ H Q I h;refine isTrue_and (ba (ha Y s σ H Q I h) λc s1 e=>?_);cases c with
 |true=>exact isTrue_and_nil e
 |false=>exact e
def ym (ha:PT X a tA):PW X (.BoolOp .Or [a] pos) tA:=by
 intro wh Y s σ H Q I h;refine isTrue_or (ba (ha Y s σ H Q I h) λc s1 e=>?_);cases c with
 |false=>exact isTrue_or_nil e
 |true=>exact e
def qa (ha:PT X a tA)(hb:PW X (.BoolOp .And (b::rest) pos) D4):PW X (.BoolOp .And (a::b::rest) pos) (acg tA D4):=by
 intro wh Y s σ H Q I h;refine isTrue_and (ba (ha Y s σ H _ I h) λc s1 ⟨H1,I1,q1⟩=>?_);cases c with
 |true=>exact hb wh Y s1 σ H1 Q I1 q1
 |false=>exact⟨H1,I1,q1⟩
def yn (ha:PT X a tA)(hb:PW X (.BoolOp .Or (b::rest) pos) D4):PW X (.BoolOp .Or (a::b::rest) pos) (tOr tA D4):=by
 intro wh Y s σ H Q I h;refine isTrue_or (ba (ha Y s σ H _ I h) λc s1 ⟨H1,I1,q1⟩=>?_);cases c with
 |true=>exact⟨H1,I1,q1⟩
 |false=>exact hb wh Y s1 σ H1 Q I1 q1
def uD (ha:PT X a tA):PT X (.UnaryOp .Not a pos) (aci tA):=by intro Y s σ H Q I h;exact isTrue_not (ha Y s σ H (λc H1=>Q (!c) H1) I h)
def acj (ta tb:TE):TE:=λσ H Q=>ta σ H λx H1=>bIn x H1 λc H1=>if c=L then tb σ H1 Q else Q (.bl aH) H1
def ack (ta tb:TE):TE:=λσ H Q=>ta σ H λx H1=>bIn x H1 λc H1=>if c=L then Q (.bl L) H1 else tb σ H1 Q
def QC {op}{t:TE}(h:PE X a t):PE X (.BoolOp op [a] pos) t:=λY s σ H Q I hw=>BoolOp_one (h Y s σ H Q I hw)
def acm (ha:PE X a ta)(hb:PE X (.BoolOp .And (b::rest) pos) tb):PE X (.BoolOp .And (a::b::rest) pos) (acj ta tb):=by
 intro Y s σ H Q I h;refine BoolOp_and (ba (ha Y s σ H _ I h) λv s1 ⟨x,H1,I1,r1,q1⟩=>?_);obtain⟨c,rfl,q1⟩:=q1;cases r1
 refine qY ?_;cases c with
 |true=>exact hb Y s1 σ H1 Q I1 q1
 |false=>exact⟨.bl aH,H1,I1,O,q1⟩
def acn (ha:PE X a ta)(hb:PE X (.BoolOp .Or (b::rest) pos) tb):PE X (.BoolOp .Or (a::b::rest) pos) (ack ta tb):=by
 intro Y s σ H Q I h;refine BoolOp_or (ba (ha Y s σ H _ I h) λv s1 ⟨x,H1,I1,r1,q1⟩=>?_);obtain⟨c,rfl,q1⟩:=q1;cases r1
 refine qY ?_;cases c with
 |false=>exact hb Y s1 σ H1 Q I1 q1
 |true=>exact⟨.bl L,H1,I1,O,q1⟩
def tIf (t:TT)(ta tb:TE):TE:=λσ H Q=>t σ H λc H1=>if c=L then ta σ H1 Q else tb σ H1 Q
def Ip (hc:PT X c tA)(ha:PE X a ta)(hb:PE X b tb):PE X (.IfExp c a b pos) (tIf tA ta tb):=by
 intro Y s σ H Q I h;refine wpAny_IfExp (ba (hc Y s σ H _ I h) λd s1 ⟨H1,I1,q1⟩=>?_);cases d with
 |true=>exact ha Y s1 σ H1 Q I1 q1
 |false=>exact hb Y s1 σ H1 Q I1 q1
end
def aC (K:aM)(H:Hp)(a:J)(xs:List V):Prop:=
 Rd H a (.Z xs)\/
  ∃(o:Obj)(aI:Array aj)(n:Nat),K.lookup a=B o/\o.cls=.type "list"/\o.dict=N/\o.data=.seq aI n/\aI.size<=aL/\Vals xs aI.toList
def cW (K:aM)(H:Hp)(a:J)(xs:List V):Prop:=
 Rd H a (.tup xs)\/
  ∃(o:Obj)(aI:Array aj)(n:Nat),K.lookup a=B o/\o.cls=.type "tuple"/\o.data=.seq aI n/\aI.size<=aL/\Vals xs aI.toList
noncomputable def acp:aj->Option V
 |.none=>B .bB
 |.bool b=>B (.bl b)
 |.int i _=>B (.int i)
 |.str x _=>B (.str x)
 |.bytes b _=>B (.jM b)
 |.float b _=>B (.uz b)
 |.ref a=>B (.ref a)
 |.type n=>B (.ty n)
 |_=>N
def RelV.abs (r:RelV x u):acp u=B x:=by
 cases x with
 |bB=>cases r;rfl
 |bl _=>cases r;rfl
 |int _=>obtain⟨t,rfl⟩:=r;rfl
 |str _=>obtain⟨t,rfl⟩:=r;rfl
 |jM _=>obtain⟨t,rfl⟩:=r;rfl
 |uz _=>obtain⟨t,rfl⟩:=r;rfl
 |ref _=>cases r;rfl
 |ty _=>cases r;rfl
def RelV.inj (r:RelV x u)(q:RelV y u):x=y:=iO (r.abs.symm.trans q.abs)
theorem Vals.inj:∀{xs ys:List V}{us:List aj},Vals xs us->Vals ys us->xs=ys
 |_,_,_,.nil,.nil=>rfl
 |_,_,_,.cons r t,.cons r' t'=>by rw[r.inj r',Vals.inj t t']
section
variable{X:Cx}{Y:List (J×Obj)}{σ:St}{H:Hp}{s:aF}{a:J}{xs ys:List V}
def aC.of {K:aM}(h:H a=B (.Z xs)):aC K H a xs:=.inl (.inl h)
def cW.of {K:aM}(h:H a=B (.tup xs)):cW K H a xs:=.inl (.inl h)
def Inv.list (I:Inv X Y σ H s)(h:aC X.K H a xs):∃aI:List aj,Vals xs aI/\PlainL s.heap a aI.toArray/\xs.length<=aL:=by
 rcases h with h|⟨o,aI,n,hk,hc,hd,hs,hz,r⟩
 .obtain⟨z,aI,n,r,e⟩:=h.ok I.aV;exact⟨aI,r,⟨_,n,e,O,O,O⟩,z⟩
 .refine⟨aI.toList,r,⟨o,n,I.gW a o hk,hc,hd,by lia⟩,?_⟩;have e:=r.length;grind
def Inv.tuple (I:Inv X Y σ H s)(h:cW X.K H a xs):∃aI:List aj,Vals xs aI/\IsTup s.heap a aI.toArray/\xs.length<=aL:=by
 rcases h with h|⟨o,aI,n,hk,hc,hs,hz,r⟩
 .obtain⟨z,aI,r,p⟩:=h.ok I.aV;grind
 .refine⟨aI.toList,r,⟨o,I.gW a o hk,hc,n,by lia⟩,?_⟩;have e:=r.length;grind
def Inv.D5 (I:Inv X Y σ H s)(h:aC X.K H a xs)(h':aC X.K H a ys):xs=ys:=by
 obtain⟨aI,r,⟨o,n,e,_,_,d⟩,_⟩:=I.list h;obtain⟨its',r',⟨o',n',e',_,_,d'⟩,_⟩:=I.list h';rw[e]at e';cases e';rw[d]at d';injection d' with d1 _
 have:aI=its':=by grind
 subst this;exact r.inj r'
end
abbrev Cx.qZ (X:Cx)(E:aj->aF->Prop):Cx:={X with xe:=E}
abbrev Cx.D6 (X:Cx):Cx:=X.qZ λ_ _=>False
def Cx.Ok.qZ {X:Cx}(ok:X.Ok)(E:aj->aF->Prop):(X.qZ E).Ok:=
 ⟨ok.mod,ok.kind,ok.glob,ok.blt,ok.above,ok.inj,ok.has,ok.AE,ok.hd,ok.frames,ok.DU,ok.DV,ok.bs,ok.sM,ok.AF,ok.AG,ok.oH,ok.wk⟩
def Cx.Ok.uE {X:Cx}{E:aj->aF->Prop}(ok:(X.qZ E).Ok):X.Ok:=
 ⟨ok.mod,ok.kind,ok.glob,ok.blt,ok.above,ok.inj,ok.has,ok.AE,ok.hd,ok.frames,ok.DU,ok.DV,ok.bs,ok.sM,ok.AF,ok.AG,ok.oH,ok.wk⟩
section
variable{X:Cx}{Y:List (J×Obj)}{σ:St}{H:Hp}{s:aF}{E:aj->aF->Prop}
def Inv.qZ (I:Inv X Y σ H s)(E:aj->aF->Prop):Inv (X.qZ E) Y σ H s:=⟨I.ok.qZ E,I.os,I.bare,I.ak,I.loc,I.cell,I.free,I.nJ,I.pin,I.aV,I.len⟩
def Inv.uE (I:Inv (X.qZ E) Y σ H s):Inv X Y σ H s:=⟨I.ok.uE,I.os,I.bare,I.ak,I.loc,I.cell,I.free,I.nJ,I.pin,I.aV,I.len⟩
def SP.uE {D:Ends}{f:Flow}(h:SP (X.qZ E) Y D f s'):SP X Y D f s':=by
 cases f with
 |next=>obtain⟨σ',H',I,q⟩:=h;exact⟨σ',H',I.uE,q⟩
 |brk=>obtain⟨σ',H',I,q⟩:=h;exact⟨σ',H',I.uE,q⟩
 |cont=>obtain⟨σ',H',I,q⟩:=h;exact⟨σ',H',I.uE,q⟩
 |ret u=>obtain⟨v,σ',H',I,r,q⟩:=h;exact⟨v,σ',H',I.uE,r,q⟩
def nM.D6 {st:List hX}{t:TS}(h:nM X.D6 st t):nM X st t:=λY s σ H D I hw=>
 wpAny_mono (h Y s σ H D (I.qZ _) hw) (λ_ _ q=>q.uE) λ_ _ z=>lM z
end
section
variable{X:Cx}{st:hX}{rest:List hX}{t u:TS}{e:bK}{te:TE}{pos:Pos}
def acq:TS:=λD σ H=>D.nx σ H
def acr (t u:TS):TS:=λD σ H=>t (D.th (u D)) σ H
def bC:nM X [] acq:=λ_ _ σ H _ I h=>D7 ⟨σ,H,I,h⟩
def az (h1:PS X st t)(h2:nM X rest u):nM X (st::rest) (acr t u):=by
 intro Y s σ H D I h;refine QD (ba (h1 Y s σ H (D.th (u D)) I h) λf s1 q=>?_);cases f with
 |next=>obtain⟨σ',H',I',q⟩:=q;exact h2 Y s1 σ' H' D I' q
 |ret v=>exact q
 |brk=>exact q
 |cont=>exact q
def aE (h1:PS X st t):nM X [st] t:=by
 intro Y s σ H D I h;refine QD (ba (h1 Y s σ H D I h) λf s1 q=>?_);cases f with
 |next=>exact D7 q
 |ret v=>exact q
 |brk=>exact q
 |cont=>exact q
def Inv.quiet {Y:List (J×Obj)}(I:Inv X Y σ H s):interactive X.env=false:=by simp[interactive,I.ok.kind]
def acs (te:TE):TS:=λD σ H=>te σ H λ_ H1=>D.nx σ H1
def dF (he:PE X e te)(hs:sO e N pos.line X.env=pure false:=by rfl):PS X (.Expr e pos) (acs te):=by intro Y s σ H D I h;exact wpAny_Expr_any (ba (he Y s σ H _ I h) λv s1 ⟨x,H1,I1,r1,q1⟩=>⟨σ,H1,I1,q1⟩) I.quiet hs
def acu (te:TE):TS:=λD σ H=>te σ H D.rt
def aW (he:PE X e te):PS X (.Return (B e) pos) (acu te):=by intro Y s σ H D I h;exact wpAny_Return_some (ba (he Y s σ H _ I h) λv s1 ⟨x,H1,I1,r1,q1⟩=>⟨x,σ,H1,I1,r1,q1⟩)
def acv:TS:=λD _ H=>D.rt .bB H
def QE:PS X (.Return N pos) acv:=λ_ _ σ H _ I h=>wpAny_Return_none ⟨.bB,σ,H,I,O,h⟩
def acw (c:TT)(t u:TS):TS:=λD σ H=>c σ H λb H1=>if b=L then t D σ H1 else u D σ H1
def bc {a b:List hX}{tc:TT}(hc:PT X c tc)(ha:nM X a t)(hb:nM X b u):PS X (.If c a b pos) (acw tc t u):=by
 intro Y s σ H D I h;refine wpAny_If (ba (hc Y s σ H _ I h) λd s1 ⟨H1,I1,q1⟩=>?_);cases d with
 |true=>exact ha Y s1 σ H1 D I1 q1
 |false=>exact hb Y s1 σ H1 D I1 q1
end
abbrev TG:=V->St->Hp->(St->Hp->Prop)->Prop
abbrev wu:=List V->St->Hp->(St->Hp->Prop)->Prop
def PG (X:Cx)(target:bK)(t:TG):Prop:=
 ∀(Y:List (J×Obj))(s:aF)(σ:St)(H:Hp)(v:V)(u:aj)(Q:St->Hp->Prop),Inv X Y σ H s->RelV v u->t v σ H Q->
  wpAny (model X.prog X.w) X.A (assign target X.env u) (λ_ s'=>∃σ' H',Inv X Y σ' H' s'/\Q σ' H') X.xe s
def AK (X:Cx)(ts:List bK)(t:wu):Prop:=
 ∀(Y:List (J×Obj))(s:aF)(σ:St)(H:Hp)(vs:List V)(us:List aj)(Q:St->Hp->Prop),Inv X Y σ H s->Vals vs us->t vs σ H Q->
  wpAny (model X.prog X.w) X.A (assignInOrder ((assignEach ts X.env).map (·.2)) us) (λ_ s'=>∃σ' H',Inv X Y σ' H' s'/\Q σ' H') X.xe s
abbrev Iq:=V->V->V->Hp->(Hp->Prop)->Prop
def QF (X:Cx)(t:Iq):Prop:=
 ∀(Y:List (J×Obj))(s:aF)(σ:St)(H:Hp)(o i v:V)(ov iv u:aj)(Q:Hp->Prop),Inv X Y σ H s->RelV o ov->RelV i iv->RelV v u->t o i v H Q->
  wpAny (model X.prog X.w) X.A (setItem ov iv u) (λ_ s'=>∃H',Inv X Y σ H' s'/\Q H') X.xe s
section
variable{X:Cx}{pos:Pos}
def oJ (i:Nat):TG:=λv σ H Q=>Q (σ.set i (B v)) H
def bX {i:Nat}(hN:X.aR.Nodup)(hi:X.aR[i]?=B x)(hx:Loc X.env.scope x)(hf:X.fn x=L\/X.env.scope.names.lookup x=B .local:=by ac_nf):PG X (.Name x pos) (oJ i):=by intro Y s σ H v u Q I r h;exact QG (Qu I hN hi hx r (λs' I'=>⟨_,H,I',h⟩) hf)
def acx:wu:=λvs σ H Q=>vs=[]/\Q σ H
inductive cyI (vs:List V)(R:V->List V->Prop):Prop|mk v r:vs=v::r->R v r->cyI vs R
def acy (t:TG)(u:wu):wu:=λvs σ H Q=>cyI vs λv r=>t v σ H λσ' H'=>u r σ' H' Q
def jx:AK X [] acx:=by
 intro Y s σ H vs us Q I r h;obtain⟨e,h⟩:=h;subst e;cases r
 exact assignInOrder_nil ⟨σ,H,I,h⟩
def df {es:List bK}{t:TG}{u:wu}(h1:PG X e t)(h2:AK X es u)
  (hs:(assignEach (e::es) X.env).map (·.2)=assign e X.env::(assignEach es X.env).map (·.2):=by rfl):AK X (e::es) (acy t u):=by
 intro Y s σ H vs us Q I r h;obtain⟨v,vr,e1,h⟩:=h;subst e1;cases r with
 |cons r rr=>rw[hs];refine assignInOrder_cons (ba (h1 Y s σ H _ _ _ I r h) λ_ s1 ⟨σ1,H1,I1,q1⟩=>?_);exact h2 Y s1 σ1 H1 _ _ Q I1 rr q1
inductive QHI (K:aM)(n:Nat)(v:V)(H:Hp)(R:List V->Prop):Prop|mk a xs:v=.ref a->cW K H a xs->xs.length=n->R xs->QHI K n v H R
def QH (K:aM)(n:Nat)(t:wu):TG:=λv σ H Q=>QHI K n v H λxs=>t xs σ H Q
def jP {es:List bK}{k:Nat}{t:wu}{n:Nat}(hc:X.calm=L)(h:AK X es t)
  (hn:(assignEach es X.env).length=n:=by rfl) (eY:(assignEach es X.env).findIdx? (·.1)=none:=by rfl):PG X (.Tuple es k pos) (QH X.K n t):=by
 intro Y s σ H v u Q I r hw;obtain⟨a,xs,e1,hq,hl,hw⟩:=hw;subst e1;cases r
 obtain⟨aI,rv,ht,hz⟩:=I.tuple hq;refine assign_Tuple_tuple (I.ok.hd hc) ht (by simp[hn,<-hl,rv.length]) eY λh' hx=>?_;have I1:Inv X Y σ H {s with heap:=h'}:=I.kept (t':=s.toks) λb o e=>hx b o (fZ (cU e)) e;exact h Y _ σ H xs _ Q I1 (by lia) hw
def acz (to ti:TE)(t:Iq):TG:=λv σ H Q=>to σ H λo H1=>ti σ H1 λi H2=>t o i v H2 λH3=>Q σ H3
def Ir {to ti:TE}{t:Iq}(ho:PE X o to)(hi:PE X i ti)(hs:QF X t)
  (ha:∀v,assign (.Subscript o i pos) X.env v=(do
   let ov<-holding [v] (eval o X.env)
   let iv<-holding [v,ov] (eval i X.env)
   standAt pos;holding [v,ov,iv] (setItem ov iv v)
   release [v,ov,iv] []):=by intro _;rfl):PG X (.Subscript o i pos) (acz to ti t):=by intro Y s σ H v u Q I r h;rw[ha];refine aJ (wpAny_holding (ba (ho Y s σ H _ I h) λov s1 ⟨x,H1,I1,r1,q1⟩=>?_));refine aJ (wpAny_holding (ba (hi Y s1 σ H1 _ I1 q1) λiv s2 ⟨y,H2,I2,r2,q2⟩=>?_));refine aJ (wpAny_standAt (aJ (wpAny_holding (ba (hs Y s2 σ H2 x y v ov iv u _ I2 r1 r2 r q2) λ_ s3 ⟨H3,I3,q3⟩=>?_))));exact wpAny_release ⟨σ,H3,I3,q3⟩
def AL (te:TE)(g:TG):TS:=λD σ H=>te σ H λx H1=>g x σ H1 D.nx
def Iu {te:TE}{g:TG}(he:PE X e te)(hg:PG X tg g)(hs:swapsWithSole [tg] e pos.line X.env=pure false:=by rfl)(hw:swappedStores [tg] e X.env=pure none:=by rfl)
  (h1:(assignEach [tg] X.env).map (·.2)=[assign tg X.env]:=by rfl):PS X (.Assign [tg] e pos) (AL te g):=by intro Y s σ H D I h;refine wpAny_Assign_stores (ba (he Y s σ H _ I h) λv s1 ⟨x,H1,I1,r1,q1⟩=>?_) hs hw;rw[h1];exact ba (hg Y s1 σ H1 x v _ I1 r1 q1) λ_ s2 q=>q
def QI {i:Nat}{te:TE}{pos':Pos}(hN:X.aR.Nodup)(hi:X.aR[i]?=B x)(hx:Loc X.env.scope x)(he:PE X e te)(hs:sO e (B (.Name x pos')) pos.line X.env=pure false:=by rfl)(hf:X.fn x=L\/X.env.scope.names.lookup x=B .local:=by ac_nf):
  PS X (.Assign [.Name x pos'] e pos) (AL te (oJ i)):=by intro Y s σ H D I h;refine wpAny_Assign_Name (ba (he Y s σ H _ I h) λv s1 ⟨y,H1,I1,r1,q1⟩=>?_) hs;exact Qu I1 hN hi hx r1 (λs2 I2=>⟨_,H1,I2,q1⟩) hf
end
section
variable{X:Cx}{pos:Pos}
def acA (c:TT)(tb:TS):TS:=λD σ H=>∃W:Nat->St->Hp->Prop,(∃m,W m σ H)/\∀m σ H,W m σ H->
 c σ H λb H1=>if b=L then∃aR:St->Hp->Prop,(∀σ' H',aR σ' H'->∃m',m'<m/\W m' σ' H')/\tb (D.lp aR) σ H1 else D.nx σ H1
def uF {body:List hX}{tc:TT}{tb:TS}(hp:PassesOwn (model X.prog X.w) X.A X.env X.xe)(hc:PT X c tc)(hb:nM X body tb):PS X (.While c body [] pos) (acA tc tb):=by
 funext X pos c body tc tb
 intro Y s σ H D I h;obtain⟨W,⟨m0,w0⟩,turn⟩:=h;refine wpAny_While (codeAny_whileLoop (λn s'=>∃σ' H',Inv X Y σ' H' s'/\W n σ' H') ?_ m0 ⟨σ,H,I,w0⟩);rintro n s1 ⟨σ1,H1,I1,w1⟩;refine wx hp (ba (hc Y s1 σ1 H1 _ I1 (turn n σ1 H1 w1)) λb s2 ⟨H2,I2,q2⟩=>?_);cases b with
 |true=>
  obtain⟨aR,hN,q2⟩:=q2;rw[aD rfl];refine wx hp (ba (hb Y s2 σ1 H2 _ I2 q2) λf s3 q3=>?_);cases f with
  |next=>obtain⟨σ3,H3,I3,n3⟩:=q3;grind
  |cont=>obtain⟨σ3,H3,I3,n3⟩:=q3;grind
  |brk=>exact q3
  |ret v=>exact q3
 |false=>rw[au eN];exact D7 ⟨σ1,H2,I2,q2⟩
end
structure It where
 go:Nat->Hp->Prop
 sP:Nat->Hp->V->Hp->Prop
 stop:Nat->Hp->Prop
def qb (X:Cx)(Y:List (J×Obj))(H:Hp)(b:J):Prop:=
 H b=N/\b≠X.env.locals/\b∉X.fs/\(b∈X.ex\/X.jv.heap.objs.size<=b)/\(∀x c,X.env.cells.lookup x=B c->c≠b)/\∀p∈X.pn++Y,p.1≠b
def Inv.uG {Y:List (J×Obj)}(I:Inv X Y σ H s)(hb:s.heap.objs.size<=b)(hn:H' b=N):qb X Y H' b:=by
 refine⟨hn,rf (jh I.lt hb),I.ab3 hb,.inr (fJ I.sz hb),λx c e z=>?_,λp hp z=>?_⟩
 .obtain⟨v,q⟩:=I.cell x c e;exact bT (jh q.lt (by grind)) (sj _)
 .exact bT (jh (cU (I.pin p hp).1) (by grind)) (sj _)
structure Turn (P:bx)(w:World)(K:aM)(tg:bK)(cT:It)(fp:List J)(it:J)(tn:Nat->a9->Prop):Prop where
 mem:it∈fp
 obj:∀i h,tn i h->∀b∈fp,∃o,h.get? b=B o/\∀v,o.data≠.cell v
 keep:∀i h h',tn i h->(∀b∈fp,∀o,h.get? b=B o->h'.get? b=B o)->tn i h'
 item:∀(X:Cx),X.prog=P->X.w=w->X.K=K->X.calm=L->∀(i:Nat)(Y:List (J×Obj))(s:aF)(σ:St)(H:Hp)(E:aj->aF->Prop),Inv X Y σ H s->(∀b∈fp,qb X Y H b)->tn i s.heap->cT.go i H->
  wpAny (model P w) X.A (pyNext (.ref it)) (λr s1=>∃u,r=B u/\wpAny (model P w) X.A (letOwnedTupleGo tg (.ref it) u) (λ_ s2=>∃x H',Inv X Y σ H' s2/\RelV x u/\cT.sP i H x H'/\tn (i+1) s2.heap/\∀b∈fp,H' b=N) E s1) E s
 done:∀(X:Cx),X.prog=P->X.w=w->X.K=K->X.calm=L->∀(i:Nat)(Y:List (J×Obj))(s:aF)(σ:St)(H:Hp)(E:aj->aF->Prop),Inv X Y σ H s->(∀b∈fp,qb X Y H b)->tn i s.heap->cT.stop i H->
  wpAny (model P w) X.A (pyNext (.ref it)) (λr s1=>r=N/\Inv X Y σ H s1) E s
 self:∀(A:dO)(i:Nat)(s:aF)(Q:aj->aF->Prop)(E:aj->aF->Prop),tn i s.heap->Q (.ref it) s->wpAny (model P w) A (pyIter (.ref it)) Q E s
abbrev TI:=St->Hp->(It->Hp->Prop)->Prop
def D8 (X:Cx)(Y:List (J×Obj))(σ:St)(tg:bK)(R:It->Hp->Prop)(Iv:aj)(s2:aF):Prop:=
 ∃(it:J)(fp:List J)(tn:Nat->a9->Prop)(cT:It)(H':Hp),Iv=.ref it/\Inv X Y σ H' s2/\Turn X.prog X.w X.K tg cT fp it tn/\tn 0 s2.heap/\(∀b∈fp,qb X Y H' b)/\R cT H'
def PI (X:Cx)(tg iter:bK)(wi:TI):Prop:=
 ∀(Y:List (J×Obj))(s:aF)(σ:St)(H:Hp)(R:It->Hp->Prop),Inv X Y σ H s->wi σ H R->
  wpAny (model X.prog X.w) X.A (eval iter X.env) (λv s1=>wpAny (model X.prog X.w) X.A (pyIter v) (D8 X Y σ tg R) X.xe s1) X.xe s
def AM {aY:Model}{E:aj->aF->Prop}{n:String}{vs:Array aj}{Q:Unit->aF->Prop}(ho:s.heap.get? it=B o)(hc:o.cls=.type n)(hd:o.data=.fields vs)
  (hn:["enumerate","zip","dict_itemiterator","dict_reverseitemiterator","odict_iterator","itertools.zip_longest","itertools.pairwise"].contains n=aH) (hQ:Q () s):wpAny aY A (letOwnedTupleGo tg (.ref it) u) Q E s:=by
 unfold letOwnedTupleGo
 cases tg<;>first
  |exact bj hQ
  |(cases u<;>first|exact bj hQ|(refine aJ (wpAny_load ho ?_);rw[hc,hd];show wpAny aY A (if(["enumerate","zip","dict_itemiterator","dict_reverseitemiterator","odict_iterator","itertools.zip_longest","itertools.pairwise"].contains n&&vs[0]?==B (rawInt _))=L then _ else _) Q E s;rw[au (by intro h;rw[hn,ye]at h;cases h)];exact bj hQ))
def uH (K:aM)(a:J):It:=
 ⟨λi H=>∃xs x,aC K H a xs/\xs[i]?=B x,λi H x H'=>H'=H/\∀xs,aC K H a xs->xs[i]?=B x,λi H=>∃xs,aC K H a xs/\xs.length<=i⟩
def Iw (lo:Int)(n:Nat):It:=⟨λi _=>i<n,λi H x H'=>H'=H/\x=.int (lo+i),λi _=>n<=i⟩
def acB {P:bx}{w:World}{K:aM}{tg:bK}(a it:J):Turn P w K tg (uH K a) [it] it (λi h=>h.IsListIter it a i)where
 mem:=by simp
 obj:=λi h st b hb=>by
  have e:b=it:=by grobner
  subst e;obtain⟨o,e,c,d⟩:=st;grobner
 keep:=λi h h' st k=>st.at λo e=>k it (by simp) o e
 item:=by intro X hP hw hK hc i Y s σ H E I hf st hg;subst hP hw hK;obtain⟨xs,x,hq,hx⟩:=hg;obtain⟨aI,rv,p,hz⟩:=I.list hq;obtain⟨u,hu,ru⟩:=rv.get hx;obtain⟨f0,f1,f2,f3,f4,f5⟩:=hf it (by simp);refine wpAny_pyNext_list_item st p.isList (x:=u) (by simpa using hu) λh' fT sb=>?_;have I1:Inv X Y σ H {s with heap:=h'}:=I.turned (t':=s.toks) (λb o hb e=>(sb.2 b hb).trans e) f0 f1 f3 f4 f5;obtain⟨o,e,c,d⟩:=id fT;exact⟨u,O,AM (s:={s with heap:=h'}) e c d (by decide) ⟨x,H,I1,ru,⟨O,λys hy=>by rw[I.D5 hy hq];exact hx⟩,fT,λb hb=>(hf b hb).1⟩⟩
 done:=by intro X hP hw hK hc i Y s σ H E I hf st hg;subst hP hw hK;obtain⟨xs,hq,hx⟩:=hg;obtain⟨aI,rv,p,hz⟩:=I.list hq;obtain⟨f0,f1,f2,f3,f4,f5⟩:=hf it (by simp);have hl:=rv.length;exact wpAny_pyNext_list_end (I.ok.hd hc) st p.isList (by simp;cutsat) λh' eb=>⟨O,I.turned (t':=s.toks) (λb o hb e=>eb b o hb e) f0 f1 f3 f4 f5⟩
 self:=λ_ _ _ _ _ st h=>wpAny_pyIter_listiter st h
def acC {P:bx}{w:World}{K:aM}{tg:bK}(it:J)(lo:Int)(n:Nat):Turn P w K tg (Iw lo n) [it] it (λi h=>IsRangeIter h it (lo+(i:Nat)*1) ((n:Int)-(i:Nat)) 1)where
 mem:=by simp
 obj:=λi h st b hb=>by grind
 keep:=λi h h' st k=>k it (by simp) _ st
 item:=by intro X hP hw hK hc i Y s σ H E I hf st hg;subst hP hw hK;obtain⟨f0,f1,f2,f3,f4,f5⟩:=hf it (by simp);have W:=Walks.range (prog:=X.prog) (w:=X.w) (I.ok.hd hc) it lo 1 n;refine W.item i s _ _ hg st λv h' tk hv fT kk=>?_;obtain⟨t,rfl⟩:=hv;have I1:Inv X Y σ H {s with heap:=h',toks:=tk}:=I.turned (λb o hb e=>kk b o (by simpa using hb) e) f0 f1 f3 f4 f5;refine⟨_,O,AM (s:={s with heap:=h',toks:=tk}) (n:="range_iterator") fT O O (by decide) ⟨.int (lo+i),H,I1,⟨t,?_⟩,⟨O,O⟩,fT,λb hb=>(hf b hb).1⟩⟩;simp
 done:=by intro X hP hw hK hc i Y s σ H E I hf st hg;subst hP hw hK;obtain⟨f0,f1,f2,f3,f4,f5⟩:=hf it (by simp);exact wpAny_pyNext_range_end (I.ok.hd hc) st (by have:n<=i:=hg;lia) λh' eb=>⟨O,I.turned (t':=s.toks) (λb o hb e=>eb b o hb e) f0 f1 f3 f4 f5⟩
 self:=λ_ _ _ _ _ st h=>wpAny_pyIter_rangeiter st h
section
variable{X:Cx}{tg:bK}
def acD (K:aM)(tl:TE):TI:=λσ H R=>tl σ H λx H1=>∃a,x=.ref a/\(∃xs,aC K H1 a xs)/\R (uH K a) H1
def iY {l:bK}{tl:TE}(hl:PE X l tl):PI X tg l (acD X.K tl):=by
 intro Y s σ H R I h;refine ba (hl Y s σ H _ I h) λv s1 ⟨x,H1,I1,r1,q1⟩=>?_;obtain⟨a,e,⟨xs,hq⟩,q⟩:=q1;subst e;cases r1
 obtain⟨aI,rv,p,hz⟩:=I1.list hq;refine wpAny_pyIter_list p.isList ?_;refine⟨s1.heap.objs.size,[s1.heap.objs.size],_,_,H1,O,I1.kept (t':=s1.toks) λb o e=>dP _ e,acB a _,⟨_,fK _ O,O,O⟩,λb hb=>?_,q⟩;have e:b=s1.heap.objs.size:=by grind
 subst e;exact I1.uG (aX _) (I1.aV.fresh (aX _))
def acE {Y:List (J×Obj)}{R:It->Hp->Prop}{E:aj->aF->Prop}{lo hi:Int}{t u v:Tok}{tk:Nat}(I:Inv X Y σ H s)(h1:-(2^62)<=lo)(h2:lo<2^62)(h3:-(2^62)<=hi)(h4:hi<2^62)
  (q:R (Iw lo (hi-lo).toNat) H):wpAny (model X.prog X.w) X.A (pyIter (.ref s.heap.objs.size)) (D8 X Y σ tg R) E {s with heap:=s.heap.push {cls:=.type "range",data:=.fields #[.int lo t,.int hi u,.int 1 v]},toks:=tk}:=by
 refine wpAny_pyIter_range (IsRange.new ..) (small_one h1 h2 h3 h4) ?_
 have I1:Inv X Y σ H {s with heap:=s.heap.push {cls:=.type "range",data:=.fields #[.int lo t,.int hi u,.int 1 v]},toks:=tk}:=I.kept λb o e=>dP _ e
 refine⟨(s.heap.push {cls:=.type "range",data:=.fields #[.int lo t,.int hi u,.int 1 v]}).objs.size,[(s.heap.push {cls:=.type "range",data:=.fields #[.int lo t,.int hi u,.int 1 v]}).objs.size],_,_,H,O,I1.kept (t':=tk) λb o e=>dP _ e,acC _ lo (hi-lo).toNat,?_,λb hb=>?_,q⟩
 .have e1:lo+((0:Nat):Int)*1=lo:=by simp
  have e2:(((hi-lo).toNat:Nat):Int)-((0:Nat):Int)=acF lo hi 1:=by rw[rangeSize_one];lia
  show IsRangeIter _ _ (lo+((0:Nat):Int)*1) ((((hi-lo).toNat:Nat):Int)-((0:Nat):Int)) 1;rw[e1,e2];exact fK _ rfl
 .have e:b=(s.heap.push {cls:=.type "range",data:=.fields #[.int lo t,.int hi u,.int 1 v]}).objs.size:=by grind
  subst e;exact I1.uG (aX _) (I1.aV.fresh (aX _))
def acG (ta:TA):TI:=λσ H R=>ta σ H λvs H1=>∃j:Int,vs=[.int j]/\-(2^62)<=j/\j<2^62/\R (Iw 0 j.toNat) H1
def rh {ta:TA}{p pos:Pos}(hg:Gl X "range")(hm:X.mg "range"=N)(ha:PA X [a] ta)(hs:starEach [a] X.env=[(aH,eval a X.env)]:=by rfl):PI X tg (.Call (.Name "range" p) [a] [] pos) (acG ta):=by
 intro Y s σ H R I h;refine Call_ (p0 I hg hm boot_range (uI (ba (ha pos Y s σ H _ I h) λus s1 ⟨vs,H1,I1,r1,q1⟩=>?_) hs O));obtain⟨j,e,q1,q2,q⟩:=q1;subst e;cases r1 with
 |cons r rr=>
  cases rr
  obtain⟨t,rfl⟩:=r;exact call_range_1 (acE I1 (by lia) (by lia) q1 q2 (by simpa using q))
def acH (wi:TI)(g:TG)(tb:TS):TS:=λD σ H=>wi σ H λcT H1=>∃W:Nat->Nat->St->Hp->Prop,(∃m,W 0 m σ H1)/\∀i m σ H,W i m σ H->
 (cT.stop i H/\D.nx σ H)\/(cT.go i H/\∃aR:St->Hp->Prop,(∀σ' H',aR σ' H'->∃m',m'<m/\W (i+1) m' σ' H')/\∀x H',cT.sP i H x H'->g x σ H' λσ2 H2=>tb (D.lp aR) σ2 H2)
def AN (fp:List J)(h:a9):List (J×Obj):=fp.filterMap λb=>(h.get? b).map λo=>(b,o)
def Iy {fp:List J}(hb:b∈fp)(e:h.get? b=B o):(b,o)∈AN fp h:=AO.mpr ⟨b,hb,by rw[e];rfl⟩
def acI {fp:List J}{p:J×Obj}(hp:p∈AN fp h):p.1∈fp/\h.get? p.1=B p.2:=by
 obtain⟨b,hb,e⟩:=AO.mp hp;cases q:h.get? b with
 |none=>rw[q]at e;cases e
 |some o=>grind
def Inv.pinned {Y:List (J×Obj)}{fp:List J}(I:Inv X Y σ H s)(hf:∀b∈fp,qb X Y H b)(ho:∀b∈fp,∃o,s.heap.get? b=B o/\∀v,o.data≠.cell v):Inv X (Y++AN fp s.heap) σ H s:=
 I.Qp λp hp=>(eX.mp hp).elim (λz=>I.pin p (sQ _ z)) λz=>by obtain⟨hb,e⟩:=acI z;obtain⟨f0,f1,f2,_⟩:=hf p.1 hb;rfl'
def Inv.D9 {Y pl:List (J×Obj)}(I:Inv X (Y++pl) σ H s):Inv X Y σ H s:=I.Qp λp hp=>I.pin p (sQ _ (yi _ hp))
def eZ {body:List hX}{wi:TI}{g:TG}{tb:TS}{pos:Pos}(hp:PassesOwn (model X.prog X.w) X.A X.env X.xe)(hc:X.calm=L)(hi:PI X tg iter wi)(hg:PG X tg g)(hb:nM X body tb)
  (hs:∀x,foldedSetIterable iter X.env x=pure x:=by intro _;rfl):PS X (.For tg iter body [] pos) (acH wi g tb):=by
 funext X tg iter body wi g tb pos
 intro Y s σ H D I h;refine wpAny_For (ba (hi Y s σ H _ I h) λv s1 h1=>ba h1 λIv s2 h2=>?_) hs;obtain⟨it,fp,tn,cT,H2,e,I2,T,hJ,f2,W,⟨m0,w0⟩,turn⟩:=h2;subst e;have wy:∀{H':Hp},(∀b∈fp,H' b=N)->∀b∈fp,qb X Y H' b:=λhn b hb=>⟨hn b hb,(f2 b hb).2⟩;refine codeAny_forLoop_any (λn s'=>∃i σ' H',Inv X Y σ' H' s'/\tn i s'.heap/\(∀b∈fp,H' b=N)/\W i n σ' H') ?_ m0 ⟨0,σ,H2,I2,hJ,λb hb=>(f2 b hb).1,w0⟩;rintro n s3 ⟨i,σ3,H3,I3,um,QJ,w3⟩;rcases turn i n σ3 H3 w3 with⟨stop,qn⟩|⟨go,aR,hN,step⟩
 .refine wx hp (ba (T.done X O O O hc i Y s3 σ3 H3 X.xe I3 (wy QJ) um stop) λr s4 ⟨hr,I4⟩=>?_);subst hr;exact D7 ⟨σ3,H3,I4,qn⟩
 .refine wx hp (ba (T.item X O O O hc i Y s3 σ3 H3 X.xe I3 (wy QJ) um go) λr s4 ⟨u,hr,h4⟩=>?_);subst hr;refine wx hp (ba h4 λ_ s5 ⟨x,H5,I5,r5,y5,sR,fr5⟩=>?_);have I5':=I5.pinned (wy fr5) (T.obj _ _ sR);refine wx hp (ba (hg _ s5 σ3 H5 x u _ I5' r5 (step x H5 y5)) λ_ s6 ⟨σ6,H6,I6,q6⟩=>?_);refine wx hp (ba (hb _ s6 σ6 H6 _ I6 q6) λf s7 q7=>?_)
  have again:∀{σ7:St}{H7:Hp},Inv X (Y++AN fp s5.heap) σ7 H7 s7->aR σ7 H7->∃m,m<n/\∃i σ' H',Inv X Y σ' H' s7/\tn i s7.heap/\(∀b∈fp,H' b=N)/\W i m σ' H':=λ{σ7 H7} I7 n7=>by obtain⟨m',hm,w7⟩:=hN σ7 H7 n7;refine⟨m',hm,i+1,σ7,H7,I7.D9,T.keep _ _ _ sR λb hb o e=>(I7.pin (b,o) (sQ _ (sQ _ (Iy hb e)))).1,λb hb=>?_,w7⟩;obtain⟨o,e,d⟩:=T.obj _ _ sR b hb;exact(I7.pin (b,o) (sQ _ (sQ _ (Iy hb e)))).2.1
  cases f with
  |next=>obtain⟨σ7,H7,I7,n7⟩:=q7;exact again I7 n7
  |cont=>obtain⟨σ7,H7,I7,n7⟩:=q7;exact again I7 n7
  |brk=>obtain⟨σ7,H7,I7,q7⟩:=q7;exact⟨σ7,H7,I7.D9,q7⟩
  |ret v=>obtain⟨x7,σ7,H7,I7,r7,q7⟩:=q7;exact⟨x7,σ7,H7,I7.D9,r7,q7⟩
end
def mE {K:aM}{a:J}{xs:List V}{g:TG}{tb:TS}{D:Ends}{σ:St}{H:Hp}(Pv:Nat->St->Hp->Prop)(h0:Pv 0 σ H)(hl:∀i σ H,i<=xs.length->Pv i σ H->aC K H a xs)
  (hs:∀i x σ H,xs[i]?=B x->Pv i σ H->g x σ H λσ2 H2=>tb (D.lp (Pv (i+1))) σ2 H2) (hd:∀σ H,Pv xs.length σ H->D.nx σ H):
  ∃W:Nat->Nat->St->Hp->Prop,(∃m,W 0 m σ H)/\∀i m σ H,W i m σ H->
   ((uH K a).stop i H/\D.nx σ H)\/((uH K a).go i H/\∃aR:St->Hp->Prop,(∀σ' H',aR σ' H'->∃m',m'<m/\W (i+1) m' σ' H')/\∀x H',(uH K a).sP i H x H'->g x σ H' λσ2 H2=>tb (D.lp aR) σ2 H2):=by
 refine⟨λi m σ H=>m=xs.length-i/\i<=xs.length/\Pv i σ H,⟨xs.length,by simp,iP _,h0⟩,?_⟩;rintro i m σ H ⟨rfl,hi,p⟩;have q:=hl i σ H hi p;by_cases fM:i<xs.length
 .refine .inr ⟨⟨xs,xs[i],q,by simp[fM]⟩,Pv (i+1),λσ' H' p'=>⟨xs.length-(i+1),by lia,O,fM,p'⟩,λx H' y=>?_⟩;obtain⟨e,y⟩:=y;grind
 .have e:i=xs.length:=by lia
  subst e;exact .inl ⟨⟨xs,q,aX _⟩,hd σ H p⟩
abbrev R2:=V->V->Hp->VK->Prop
def gi (X:Cx)(f:aj->aj->Sem aj)(r:R2):Prop:=
 ∀(Y:List (J×Obj))(s:aF)(σ:St)(H:Hp)(x y:V)(v u:aj)(Q:VK),Inv X Y σ H s->RelV x v->RelV y u->r x y H Q->
  wpAny (model X.prog X.w) X.A (f v u) (EP X Y σ Q) X.xe s
def D' (X:Cx)(f:aj->Sem aj)(r:V->Hp->VK->Prop):Prop:=
 ∀(Y:List (J×Obj))(s:aF)(σ:St)(H:Hp)(x:V)(v:aj)(Q:VK),Inv X Y σ H s->RelV x v->r x H Q->
  wpAny (model X.prog X.w) X.A (f v) (EP X Y σ Q) X.xe s
def kR (X:Cx)(f:aj)(r:List V->Hp->VK->Prop):Prop:=
 ∀(Y:List (J×Obj))(s:aF)(σ:St)(H:Hp)(xs:List V)(us:List aj)(Q:VK),Inv X Y σ H s->Vals xs us->r xs H Q->
  wpAny (model X.prog X.w) X.A (call f us) (EP X Y σ Q) X.xe s
def acL (X:Cx)(r:V->Hp->(Bool->Hp->Prop)->Prop):Prop:=
 ∀(Y:List (J×Obj))(s:aF)(σ:St)(H:Hp)(x:V)(v:aj)(Q:Bool->Hp->Prop),Inv X Y σ H s->RelV x v->r x H Q->
  wpAny (model X.prog X.w) X.A (truthy v) (TP X Y σ Q) X.xe s
def Ea (r:R2)(ta tb:TE):TE:=λσ H Q=>ta σ H λx H1=>tb σ H1 λy H2=>r x y H2 Q
def tUn (r:V->Hp->VK->Prop)(ta:TE):TE:=λσ H Q=>ta σ H λx H1=>r x H1 Q
inductive rI (C:Int->Int->Prop)(g:Int->Int->V)(x y:V)(H:Hp)(Q:VK):Prop|mk i j:x=.int i->y=.int j->C i j->Q (g i j) H->rI C g x y H Q
inductive qc (g:Int->Int->V)(x y:V)(H:Hp)(Q:VK):Prop|mk i j:x=.int i->y=.int j->Q (g i j) H->qc g x y H Q
inductive rU (g:Int->V)(x:V)(H:Hp)(Q:VK):Prop|mk i:x=.int i->Q (g i) H->rU g x H Q
section
variable{X:Cx}{a b c:bK}{ta tb tc:TE}{pos:Pos}
def Iz (ha:PE X a ta)(hb:PE X b tb){Y:List (J×Obj)}{R:V->V->Hp->Prop}(I:Inv X Y σ H s)
  (h:ta σ H λx H1=>tb σ H1 λy H2=>R x y H2) {Q:aj->aF->Prop} {f:aj->aj->Sem aj}
  (hf:∀v u s2 x y H2,Inv X Y σ H2 s2->RelV x v->RelV y u->R x y H2->wpAny (model X.prog X.w) X.A (f v u) Q X.xe s2):
  wpAny (model X.prog X.w) X.A (eval a X.env) (λv s₁=>wpAny (model X.prog X.w) X.A (eval b X.env) (λu s₂=>wpAny (model X.prog X.w) X.A (f v u) Q X.xe s₂) X.xe s₁) X.xe s:=by refine ba (ha Y s σ H _ I h) λv s1 ⟨x,H1,I1,r1,q1⟩=>?_;refine ba (hb Y s1 σ H1 _ I1 q1) λu s2 ⟨y,H2,I2,r2,q2⟩=>?_;grind
def b5 {op:Operator}{r:R2}(ho:gi X (binaryOp op) r)(ha:PE X a ta)(hb:PE X b tb):PE X (.BinOp a op b pos) (Ea r ta tb):=by intro Y s σ H Q I h;exact wpAny_BinOp (Iz ha hb I h λv u s2 x y H2 I2 rx ry q=>ho Y s2 σ H2 x y v u Q I2 rx ry q)
def uJ {op:UnaryOp}{r:V->Hp->VK->Prop}(ho:D' X (unaryOp op) r)(ha:PE X a ta):PE X (.UnaryOp op a pos) (tUn r ta):=by intro Y s σ H Q I h;exact UnaryOp_ (ba (ha Y s σ H _ I h) λv s1 ⟨x,H1,I1,r1,q1⟩=>ho Y s1 σ H1 x v Q I1 r1 q1)
def IA {f:aj->aj->Sem aj}{C:Int->Int->Prop}{g:Int->Int->Int}
  (rule:∀(i j:Int)(t u:Tok)(s:aF)(Q:aj->aF->Prop)(E:aj->aF->Prop),C i j->Q (.int (g i j) s.toks) {s with toks:=s.toks+1}->wpAny (model X.prog X.w) X.A (f (.int i t) (.int j u)) Q E s):
  gi X f (rI C λi j=>.int (g i j)):=by intro Y s σ H x y v u Q I rx ry h;obtain⟨i,j,rfl,rfl,hc,q⟩:=h;obtain⟨t,rfl⟩:=rx;obtain⟨t',rfl⟩:=ry;exact rule i j t t' s _ _ hc ⟨.int (g i j),H,I.tok _,⟨_,O⟩,q⟩
def AQ {f:aj->aj->Sem aj}{g:Int->Int->Int}
  (rule:∀(i j:Int)(t u:Tok)(s:aF)(Q:aj->aF->Prop)(E:aj->aF->Prop),Q (.int (g i j) s.toks) {s with toks:=s.toks+1}->wpAny (model X.prog X.w) X.A (f (.int i t) (.int j u)) Q E s):
  gi X f (qc λi j=>.int (g i j)):=by intro Y s σ H x y v u Q I rx ry h;obtain⟨i,j,rfl,rfl,q⟩:=h;obtain⟨t,rfl⟩:=rx;obtain⟨t',rfl⟩:=ry;exact rule i j t t' s _ _ ⟨.int (g i j),H,I.tok _,⟨_,O⟩,q⟩
def Eb {f:aj->aj->Sem aj}{g:Int->Int->Bool}
  (rule:∀(i j:Int)(t u:Tok)(s:aF)(Q:aj->aF->Prop)(E:aj->aF->Prop),Q (.bool (g i j)) s->wpAny (model X.prog X.w) X.A (f (.int i t) (.int j u)) Q E s):
  gi X f (qc λi j=>.bl (g i j)):=by intro Y s σ H x y v u Q I rx ry h;obtain⟨i,j,rfl,rfl,q⟩:=h;obtain⟨t,rfl⟩:=rx;obtain⟨t',rfl⟩:=ry;exact rule i j t t' s _ _ ⟨.bl (g i j),H,I,O,q⟩
def QK (i j:Int):Prop:=0<=j/\j<=1000000/\i.natAbs<2^64
def apm (k:Nat):(0:Int)<=2^k:=by grind
def ji:gi X (binaryOp .Add) (qc λi j=>.int (i+j)):=AQ λ_ _ _ _ _ _ _ q=>add_int q
def AR:gi X (binaryOp .Sub) (qc λi j=>.int (i-j)):=AQ λ_ _ _ _ _ _ _ q=>sub_int q
def yo:gi X (binaryOp .LShift) (rI QK λi j=>.int (i*2^j.toNat)):=IA λ_ _ _ _ _ _ _ hc q=>lshift_int_small hc.1 hc.2.1 hc.2.2 q
def AS:gi X (binaryOp .RShift) (rI (λ_ j=>0<=j) λi j=>.int (i/2^j.toNat)):=IA λi j _ _ _ _ _ hc q=>
 rshift_int hc (by grind)
def mF:gi X (binaryOp .BitAnd) (qc λi j=>.int (sS i j)):=AQ λ_ _ _ _ _ _ _ q=>and_int q
def sT:gi X (binaryOp .BitOr) (qc λi j=>.int (sU i j)):=AQ λ_ _ _ _ _ _ _ q=>or_int q
def acN:gi X (binaryOp .BitXor) (qc λi j=>.int (IB i j)):=AQ λ_ _ _ _ _ _ _ q=>xor_int q
def QL {f:aj->Sem aj}{g:Int->Int}
  (rule:∀(i:Int)(t:Tok)(s:aF)(Q:aj->aF->Prop)(E:aj->aF->Prop),Q (.int (g i) s.toks) {s with toks:=s.toks+1}->wpAny (model X.prog X.w) X.A (f (.int i t)) Q E s):
  D' X f (rU λi=>.int (g i)):=by intro Y s σ H x v Q I rx h;obtain⟨i,rfl,q⟩:=h;obtain⟨t,rfl⟩:=rx;exact rule i t s _ _ ⟨.int (g i),H,I.tok _,⟨_,O⟩,q⟩
def AU:D' X (unaryOp .USub) (rU λi=>.int (-i)):=QL λ_ _ _ _ _ q=>neg_int q
def IC:D' X (unaryOp .Invert) (rU λi=>.int (AV i)):=QL λ_ _ _ _ _ q=>invert_int q
end
noncomputable def QM:V->V->Bool
 |.bB,.bB=>L|.bB,.int _=>L|.int _,.bB=>L|.bB,.bl _=>L|.bl _,.bB=>L|.bB,.str _=>L|.str _,.bB=>L
 |.int _,.int _=>L|.bl _,.bl _=>L|.str _,.str _=>L|.jM _,.jM _=>L
 |.int _,.str _=>L|.str _,.int _=>L|.bl _,.str _=>L|.str _,.bl _=>L
 |_,_=>aH
def rEq:R2:=λx y H Q=>QM x y=L/\Q (.bl (decide (x=y))) H
def rNe:R2:=λx y H Q=>QM x y=L/\Q (.bl (!decide (x=y))) H
def QN {i j:Int}:decide (V.int i=V.int j)=(i==j):=by grind
def QO {i j:Bool}:decide (V.bl i=V.bl j)=(i==j):=by grind
def QP:decide (V.str i=V.str j)=(i==j):=by grind
def QQ {i j:Array UInt8}:decide (V.jM i=V.jM j)=(i.toList==j.toList):=by
 rw[mq];cases i
 cases j
 simp
section
variable{X:Cx}{a b c:bK}{ta tb tc:TE}{pos:Pos}
def gj {Y:List (J×Obj)}{k k':Bool}(I:Inv X Y σ H s)(q:Q (.bl k) H)(e:k=k'):EP X Y σ Q (.bool k') s:=by subst e;exact⟨.bl k,H,I,O,q⟩
def cy:gi X (compareOp .Eq) rEq:=by
 intro Y s σ H x y v u Q I rx ry h;obtain⟨hs,q⟩:=h;cases x with
 |bB=>
  cases rx
  cases y with
  |bB=>cases ry;exact acQ (gj I q (by simp))
  |bl j=>cases ry;exact acR (gj I q (by simp))
  |int j=>obtain⟨t',rfl⟩:=ry;exact acS (gj I q (by simp))
  |str j=>obtain⟨t',rfl⟩:=ry;exact acT (gj I q (by simp))
  |_=>exact bT (show aH=L from hs) eN
 |bl i=>
  cases rx
  cases y with
  |bB=>cases ry;exact acU (gj I q (by simp))
  |bl j=>cases ry;exact eq_bool (gj I q QO)
  |str j=>obtain⟨t',rfl⟩:=ry;exact acV (gj I q (by simp))
  |_=>exact bT (show aH=L from hs) eN
 |int i=>
  obtain⟨t,rfl⟩:=rx;cases y with
  |bB=>cases ry;exact acW (gj I q (by simp))
  |int j=>obtain⟨t',rfl⟩:=ry;exact eq_int (gj I q QN)
  |str j=>obtain⟨t',rfl⟩:=ry;exact acX (gj I q (by simp))
  |_=>exact bT (show aH=L from hs) eN
 |str i=>
  obtain⟨t,rfl⟩:=rx;cases y with
  |bB=>cases ry;exact acY (gj I q (by simp))
  |bl j=>cases ry;exact acZ (gj I q (by simp))
  |int j=>obtain⟨t',rfl⟩:=ry;exact ac0 (gj I q (by simp))
  |str j=>obtain⟨t',rfl⟩:=ry;exact eq_str (gj I q QP)
  |_=>exact bT (show aH=L from hs) eN
 |jM i=>
  obtain⟨t,rfl⟩:=rx;cases y with
  |jM j=>obtain⟨t',rfl⟩:=ry;exact PySem.W.eq_bytes (gj I q QQ)
  |_=>exact bT (show aH=L from hs) eN
 |_=>cases y<;>exact bT (show aH=L from hs) eN
def AW:gi X (compareOp .NotEq) rNe:=by
 intro Y s σ H x y v u Q I rx ry h;obtain⟨hs,q⟩:=h;cases x with
 |bB=>
  cases rx
  cases y with
  |bB=>cases ry;exact ac1 (gj I q (by simp))
  |bl j=>cases ry;exact ac2 (gj I q (by simp))
  |int j=>obtain⟨t',rfl⟩:=ry;exact ac3 (gj I q (by simp))
  |str j=>obtain⟨t',rfl⟩:=ry;exact ac4 (gj I q (by simp))
  |_=>exact bT (show aH=L from hs) eN
 |bl i=>
  cases rx
  cases y with
  |bB=>cases ry;exact ac5 (gj I q (by simp))
  |bl j=>cases ry;exact ne_bool (gj I q (cb not QO))
  |str j=>obtain⟨t',rfl⟩:=ry;exact ac6 (gj I q (by simp))
  |_=>exact bT (show aH=L from hs) eN
 |int i=>
  obtain⟨t,rfl⟩:=rx;cases y with
  |bB=>cases ry;exact ac7 (gj I q (by simp))
  |int j=>obtain⟨t',rfl⟩:=ry;exact ne_int (gj I q (cb not QN))
  |str j=>obtain⟨t',rfl⟩:=ry;exact ac8 (gj I q (by simp))
  |_=>exact bT (show aH=L from hs) eN
 |str i=>
  obtain⟨t,rfl⟩:=rx;cases y with
  |bB=>cases ry;exact ac9 (gj I q (by simp))
  |bl j=>cases ry;exact ac' (gj I q (by simp))
  |int j=>obtain⟨t',rfl⟩:=ry;exact ada (gj I q (by simp))
  |str j=>obtain⟨t',rfl⟩:=ry;exact ne_str (gj I q (cb not QP))
  |_=>exact bT (show aH=L from hs) eN
 |jM i=>
  obtain⟨t,rfl⟩:=rx;cases y with
  |jM j=>obtain⟨t',rfl⟩:=ry;exact PySem.W.ne_bytes (gj I q (cb not QQ))
  |_=>exact bT (show aH=L from hs) eN
 |_=>cases y<;>exact bT (show aH=L from hs) eN
def AX:gi X (compareOp .Lt) (qc λi j=>.bl (decide (i<j))):=Eb λ_ _ _ _ _ _ _ q=>lt_int q
def wz:gi X (compareOp .LtE) (qc λi j=>.bl (decide (i<=j))):=Eb λ_ _ _ _ _ _ _ q=>le_int q
def wA:gi X (compareOp .Gt) (qc λi j=>.bl (decide (j<i))):=Eb λ_ _ _ _ _ _ _ q=>gt_int q
def QR:gi X (compareOp .GtE) (qc λi j=>.bl (decide (j<=i))):=Eb λ_ _ _ _ _ _ _ q=>ge_int q
def bY (b:bK){op:CmpOp}(h:op≠.In:=by decide)(h2:op≠.NotIn:=by decide):wo op b=false:=by
 have e1:(op==CmpOp.In)=false:=by grind
 have e2:(op==Qz)=false:=by grind
 cases b<;>simp[wo,e1,e2]
def sV {op:CmpOp}{r:R2}(ho:gi X (compareOp op) r)(ha:PE X a ta)(hb:PE X b tb)(hm:wo op b=aH):PE X (.Compare a [op] [b] pos) (Ea r ta tb):=by intro Y s σ H Q I h;exact wpAny_Compare1 (Iz ha hb I h λv u s2 x y H2 I2 rx ry q=>ho Y s2 σ H2 x y v u Q I2 rx ry q) hm
def QS (t:TE):TT:=λσ H Q=>t σ H λx H'=>bIn x H' Q
def bA {op:CmpOp}{r:R2}(ho:gi X (compareOp op) r)(ha:PE X a ta)(hb:PE X b tb)(hm:wo op b=aH):PT X (.Compare a [op] [b] pos) (QS (Ea r ta tb)):=by
 intro Y s σ H Q I h;refine QB (ba (ha Y s σ H _ I h) λv s1 ⟨x,H1,I1,r1,q1⟩=>ba (hb Y s1 σ H1 _ I1 q1) λu s2 ⟨y,H2,I2,r2,q2⟩=>ba (ho Y s2 σ H2 x y v u _ I2 r1 r2 q2) λc s3 ⟨z,H3,I3,r3,k,e,q3⟩=>?_) hm;subst e;cases r3
 exact qY ⟨H3,I3,q3⟩
def QT (r r':R2)(ta tb tc:TE):TE:=λσ H Q=>ta σ H λx H1=>tb σ H1 λy H2=>r x y H2 λz H3=>∃k,z=.bl k/\
 (if k=L then tc σ H3 λw' H4=>r' y w' H4 Q else Q (.bl aH) H3)
def ID {op wB:CmpOp}{r r':R2}(ho:gi X (compareOp op) r)(lI:gi X (compareOp wB) r')(ha:PE X a ta)(hb:PE X b tb)(hc:PE X c tc)
  (hm:lastMarks [op,wB] [b,c]=false:=by with_unfolding_all rfl):PE X (.Compare a [op,wB] [b,c] pos) (QT r r' ta tb tc):=by
 intro Y s σ H Q I h;refine Compare_chain (ba (ha Y s σ H _ I h) λv s1 ⟨x,H1,I1,r1,q1⟩=>chain_link (ba (hb Y s1 σ H1 _ I1 q1) λu s2 ⟨y,H2,I2,r2,q2⟩=>ba (ho Y s2 σ H2 x y v u _ I2 r1 r2 q2) λd s3 ⟨z,H3,I3,r3,k,e,q3⟩=>?_)) hm;subst e;cases r3
 refine qY ?_;cases k with
 |false=>exact ite_ff ⟨.bl aH,H3,I3,O,q3⟩
 |true=>exact ite_tt (chain_last (ba (hc Y s3 σ H3 _ I3 q3) λw' s4 ⟨z',H4,I4,r4,q4⟩=>lI Y s4 σ H4 y z' u w' Q I4 r2 r4 q4))
def adb {op wB:CmpOp}{r r':R2}(ho:gi X (compareOp op) r)(lI:gi X (compareOp wB) r')(ha:PE X a ta)(hb:PE X b tb)(hc:PE X c tc)
  (hm:lastMarks [op,wB] [b,c]=false:=by with_unfolding_all rfl):PT X (.Compare a [op,wB] [b,c] pos) (QS (QT r r' ta tb tc)):=by
 funext X a b c ta tb tc pos op wB r r'
 intro Y s σ H Q I h;funext Y s σ H Q;refine isTrue_chain (ba (ha Y s σ H _ I h) λv s1 ⟨x,H1,I1,r1,q1⟩=>test_link (ba (hb Y s1 σ H1 _ I1 q1) λu s2 ⟨y,H2,I2,r2,q2⟩=>ba (ho Y s2 σ H2 x y v u _ I2 r1 r2 q2) λd s3 ⟨z,H3,I3,r3,k,e,q3⟩=>?_)) hm;subst e;cases r3
 refine qY ?_;cases k with
 |false=>
  obtain⟨k',e',q'⟩:=q3;cases e'
  exact ite_ff ⟨H3,I3,q'⟩
 |true=>
  refine ite_tt (test_last (ba (hc Y s3 σ H3 _ I3 q3) λw' s4 ⟨z',H4,I4,r4,q4⟩=>ba (lI Y s4 σ H4 y z' u w' _ I4 r2 r4 q4) λd' s5 ⟨z2,H5,I5,r5,k2,e2,q5⟩=>?_));subst e2;cases r5
  exact qY ⟨H5,I5,q5⟩
def IE (K:aM)(x:V)(H:Hp)(k:Bool):Prop:=
 match x with
 |.bB=>k=aH
 |.bl b=>k=b
 |.int i=>k=(i !=0)
 |.str y=>y.length<=aL/\k=((y.length:Int)!=0)
 |.jM y=>y.size<=aL/\k=((y.size:Int)!=0)
 |.ref p=>(∃xs,aC K H p xs/\k=!xs.isEmpty)\/(∃xs,cW K H p xs/\k=!xs.isEmpty)\/∃kvs,H p=B (.dK kvs)/\k=!kvs.isEmpty
 |_=>False
def ade {κ:Type}{kvs:List (κ×V)}{vs:List (κ×aj)}(r:KV kvs vs):(!vs.isEmpty)=!kvs.isEmpty:=by cases r<;>rfl
def QU {xs:List V}{aI:List aj}(r:Vals xs aI):(!aI.toArray.isEmpty)=!xs.isEmpty:=by cases r<;>simp
def AY:(aL:Nat)<2^63:=by rw[wC];decide
def QV:acL X (λx H Q=>∃k,IE X.K x H k/\Q k H):=by
 intro Y s σ H x v Q I rx h;obtain⟨k,e,q⟩:=h;have hl:=AY;have hs:aL=16777216:=wC;cases x with
 |bB=>
  cases rx
  have e':k=false:=e;subst e';exact truthy_none ⟨H,I,q⟩
 |bl b=>
  cases rx
  have e':k=b:=e;subst e';exact qY ⟨H,I,q⟩
 |int i=>obtain⟨t,rfl⟩:=rx;have e':k=(i !=0):=e;subst e';exact PySem.P.truthy_int ⟨H,I,q⟩
 |str y=>obtain⟨t,rfl⟩:=rx;obtain⟨hy,e'⟩:y.length<=aL/\k=((y.length:Int)!=0):=e;subst e';exact PySem.P.truthy_str (by lia) ⟨H,I.tok _,q⟩
 |jM y=>obtain⟨t,rfl⟩:=rx;obtain⟨hy,e'⟩:y.size<=aL/\k=((y.size:Int)!=0):=e;subst e';exact PySem.W.truthy_bytes (by lia) ⟨H,I.tok _,q⟩
 |ref p=>
  cases rx
  have e':(∃xs,aC X.K H p xs/\k=!xs.isEmpty)\/(∃xs,cW X.K H p xs/\k=!xs.isEmpty)\/∃kvs,H p=B (.dK kvs)/\k=!kvs.isEmpty:=e;rcases e' with⟨xs,hx,e'⟩|⟨xs,hx,e'⟩|⟨kvs,hx,e'⟩
  .subst e';obtain⟨aI,r,pl,hz⟩:=I.list hx;have hlen:=r.length;exact wpAny_truthy_list pl.isList (by grind) ⟨H,I.tok _,by rw[QU r];exact q⟩
  .subst e';obtain⟨aI,r,pl,hz⟩:=I.tuple hx;have hlen:=r.length;exact truthy_tuple pl (by grind) ⟨H,I.tok _,by rw[QU r];exact q⟩
  .subst e';obtain⟨hz,hS,vs,r,m⟩:kvs.length<=aL/\(p==ju)=aH/\∃vs,KV kvs vs/\s.heap.DictOf (dN X.prog X.w) p vs:=I.aV p _ hx;have hlen:kvs.length=vs.length:=km r;exact wpAny_truthy_dict hS m (by lia) ⟨H,I.tok _,by rw[ade r];exact q⟩
 |_=>exact(show False from e).elim
def yp (ha:PE X a ta)(he:∀whole,isTrue a X.env whole=(do let v<-whole;standAt a.pos;holding [v] (truthy v))):
  PT X a (λσ H Q=>ta σ H λx H'=>∃k,IE X.K x H' k/\Q k H'):=by intro Y s σ H Q I h;exact isTrue_plain (ba (ha Y s σ H _ I h) λv s1 ⟨x,H1,I1,r1,q1⟩=>QV Y s1 σ H1 x v Q I1 r1 q1) (he _)
def vals1 {us:List aj}(r:Vals [x] us):∃u,us=[u]/\RelV x u:=by
 cases r with
 |cons r1 r2=>cases r2;grind
def vals2 {us:List aj}(r:Vals [x,y] us):∃u w',us=[u,w']/\RelV x u/\RelV y w':=by
 cases r with
 |cons r1 r2=>
  cases r2 with
  |cons r3 r4=>cases r4;grind
def adf (hc:X.calm=L):kR X (.builtin "max") (λxs H Q=>∃i j,xs=[.int i,.int j]/\Q (.int (if j>i then j else i)) H):=by
 intro Y s σ H xs us Q I r h;obtain⟨i,j,rfl,q⟩:=h;obtain⟨u,w',rfl,⟨t,rfl⟩,⟨t',rfl⟩⟩:=vals2 r;refine max_two_ints (I.ok.hd hc) λh' tk k=>⟨_,H,I.kept k,?_,q⟩;by_cases hj:j>i
 .rw[aD hj,aD hj];exact⟨_,O⟩
 .rw[au hj,au hj];exact⟨_,O⟩
end
structure wD (h:a9)(x dx C:J)(mA:ao->Option aj):Prop where
 obj:h.get? x=B (uA C dx)
 ns:h.Ns1 dx mA
 ne:dx≠x
def adg {h:a9}{dx:J}{mA:ao->Option aj}(n:h.Ns1 dx mA):∃od,h.get? dx=B od/\∀name,Ec name od=B (mA name):=by
 obtain⟨o,es,ep,ho,hd,hk,_,hm⟩:=n;refine⟨o,ho,λname=>?_⟩;have e:=hm name;unfold nsFind findBy at e;rw[<-Array.find?_toList]at e;unfold Ec;rw[hd];dsimp only;split
 .grind
 .rename_i q;rw[q]at e
  have a:es.toList.any (·.refKey)=false:=by rw[List.any_eq_false];intro y hy;obtain⟨z,t,oK⟩:=hk y (Array.mem_toList_iff.mp hy);simp[DictEntry.refKey,oK]
  grind
def wD.look {mA:ao->Option aj}(I:wD h x dx C mA):∃od,PySem.W.InstAt h x (uA C dx) C (B od)/\∀name,Ec name od=B (mA name):=
 let⟨od,ho,hl⟩:=adg I.ns
 ⟨od,⟨I.obj,O,O,ho⟩,hl⟩
section
variable{prog:bx}{w:World}{A:dO}{E:aj->aF->Prop}{s:aF}{K:aM}{x dx C f:J}{mA:ao->Option aj}{name:ao}{v:aj}
def get_map {expr:Bool}{Q:aj->aF->Prop}(X:K.In s.heap)(I:wD s.heap x dx C mA)(hg:AZ K C name=L)(hh:Ed K C=L)
  (ha:oM K (.ref C) name=B N) (hv:mA name=B v) (yq:QW v=L) (h:Q v {s with toks:=s.toks+1}):
  wpAny (model prog w) A (getAttr (.ref x) name expr) Q E s:=by obtain⟨od,cT,hl⟩:=I.look;exact PySem.W.get_value X cT (IF hg).1 (PySem.W.findObj_own hh ha O (by rw[hl,hv])) yq h
def adh {pl:Sem Bool}{Q:aj×List aj->aF->Prop}(X:K.In s.heap)(I:wD s.heap x dx C mA)(hg:AZ K C name=L)
  (hf:oM K (.ref C) name=B (B (.ref f))) (ht:Ee K (.ref f)=L) (hv:mA name=N) (h:Q (.ref f,[.ref x]) s):
  wpAny (model prog w) A (getMethod (.ref x) name pl) Q E s:=by obtain⟨od,cT,hl⟩:=I.look;exact PySem.W.method_fn X cT (IF hg).1 (IF hg).2 hf (beq_iff_eq.mp ht) (by show(Ec name od).map (·.isSome)=B aH;grind) h
def adi {ns:List ao}{Q:Unit->aF->Prop}(X:K.In s.heap)(I:wD s.heap x dx C mA)
  (hs:oM K (.ref C) "__setattr__"=B (B (.builtin "object.__setattr__"))) (hp:IG K C=L) (ht:IH K C name=B N) (hh:Ed K C=L)
  (hw:Ic mA ns) (hsz:ns.length<=aL)
  (h:∀h',wD h' x dx C (λy=>if y=name then B v else mA y)->jw dx s.heap h'->Q () {s with heap:=h',toks:=s.toks+2}):
  wpAny (model prog w) A (setAttr (.ref x) name v) Q E s:=by
 funext prog w A E s K x dx C mA name v ns Q
 obtain⟨od,cT,hl⟩:=I.look;refine PySem.W.set_plain X cT hs (PySem.W.osa_open (s:={s with toks:=s.toks+1}) (r:=N) X cT hp ht λb=>?_);obtain⟨cd,hc,qX⟩:=PySem.W.any_some hh
 have hx:s.heap.get? x=B ⟨.ref C,B dx,.plain,#[]⟩:=I.obj
 refine aJ (bj (aJ (aJ (wpAny_loadPart hx (aJ (adj (s:={s with toks:=s.toks+1}) (PySem.W.looks_clsIn X hc) ?_))))));rw[qX];refine bj (a:=B dx) (aJ (bj (aJ ?_)));refine wpAny_nsSet1 (s:={s with toks:=s.toks+1}) I.ns λh' yr yt=>?_;obtain⟨oD,esD,epD,hoD,hdD,hcD⟩:=yr.count (adn name v hw);refine aJ (wpAny_lookBehind hoD (by rw[hdD];exact pastItsLine_dict (fJ hcD (by grind))) ?_);exact bj (h _ ⟨(yt.2 _ (aP I.ne)).trans I.obj,yr,I.ne⟩ yt)
def ado {R:Result->aF->Prop}{vs:List aj}{kw:List (ao×aj)}(X:K.In s.heap)(hm:A1 K C=L)
  (hi:oM K (.ref C) "__init__"=B (B (.ref f))) (hf:PySem.W.typeIn K (.ref f)=B (.type "function"))
  (h:codeAny (model prog w) (A.under (.builtin "type.__call__" ⟨.ref C::vs,kw⟩)) (.call (.ref f) ⟨.ref (s.heap.objs.size+1)::vs,kw⟩) (PySem.W.InitBack (s.heap.objs.size+1) R) {s with heap:=(s.heap.push sW).push (uA C s.heap.objs.size)}):
  codeAny (model prog w) A (.call (.ref C) ⟨vs,kw⟩) R s:=by obtain⟨hh,g,d,t,os⟩:=s;exact PySem.W.make_core (PySem.W.makes_of X hm) (PySem.W.looks_findIn X hi) (λself=>PySem.W.bind_fn X self hf) (.inl O) h
end
noncomputable def fN (f:ao)(v:V):List (ao×V)->List (ao×V)
 |[]=>[(f,v)]
 |(g,x)::r=>if g=f then(g,v)::r else(g,x)::fN f v r
theorem QX (f g:ao)(v:V):∀fs:List (ao×V),(fN f v fs).lookup g=if g=f then B v else fs.lookup g
 |[]=>by show List.lookup g [(f,v)]=_;rfl'
 |(k,x)::r=>by have ih:=QX f g v r;rw[show fN f v ((k,x)::r)=(if k=f then(k,v)::r else(k,x)::fN f v r)from rfl];rfl'
theorem II (f:ao)(v:V):∀fs:List (ao×V),f∈(fN f v fs).map (·.1)/\∀g,g∈fs.map (·.1)->g∈(fN f v fs).map (·.1)
 |[]=>⟨by simp[fN],λg h=>by simp at h⟩
 |(k,x)::r=>by obtain⟨i1,i2⟩:=II f v r;rw[show fN f v ((k,x)::r)=(if k=f then(k,v)::r else(k,x)::fN f v r)from rfl];rfl'
theorem QY (f:ao)(v:V):∀fs:List (ao×V),(fN f v fs).length<=fs.length+1
 |[]=>by simp[fN]
 |(k,x)::r=>by have ih:=QY f v r;rw[show fN f v ((k,x)::r)=(if k=f then(k,v)::r else(k,x)::fN f v r)from rfl];rfl'
def jN.some_of {o:Option aj}(r:jN (B v) o):∃u,o=B u/\RelV v u:=by
 cases o with
 |none=>exact(show False from r).elim
 |some u=>exact⟨u,O,r⟩
def jN.none_of {o:Option aj}(r:jN N o):o=none:=by
 cases o with
 |none=>rfl
 |some u=>exact(show False from r).elim
def adp (r:RelV v u):QW u=true:=by
 cases v with
 |bB=>cases(show u=lF from r);rfl
 |bl b=>cases(show u=sF b from r);rfl
 |int i=>obtain⟨t,e⟩:=(show∃t,u=yh i t from r);cases e;rfl
 |str x=>obtain⟨t,e⟩:=(show∃t,u=AA x t from r);cases e;rfl
 |jM b=>obtain⟨t,e⟩:=(show∃t,u=Ql b t from r);cases e;rfl
 |uz b=>obtain⟨t,e⟩:=(show∃t,u=Ia b t from r);cases e;rfl
 |ref a=>cases(show u=cv a from r);rfl
 |ty n=>cases(show u=nI n from r);rfl
section
variable{P:bx}{w:World}{H H':Hp}{h h':a9}{a C dx:J}{fs fA:List (ao×V)}
def Ef (aV:eV P w H h)(e:H a=B (.ins C dx fs)):∃mA,wD h a dx C mA/\(∀f,jN (fs.lookup f) (mA f))/\Ic mA (fs.map (·.1))/\fs.length<=1000/\H dx=B (.own a):=by obtain⟨d,z,ne,ob,mA,n,r,q⟩:=(show d9 P w H h a (.ins C dx fs)from aV a _ e);exact⟨mA,⟨ob,n,ne⟩,r,q,z,d⟩
end
structure jj (K:aM)(C:J):Prop where
 pg:AZ K C Str.empty=L
 hd:Ed K C=L
 po:IG K C=L
 sa:oM K (.ref C) "__setattr__"=B (B (.builtin "object.__setattr__"))
def jj.get {K:aM}{C:J}(c:jj K C)(f:ao):AZ K C f=true:=c.pg
def e8 (K:aM)(C:J)(f:ao):Prop:=oM K (.ref C) f=B N
def e8.adq {K:aM}{C:J}{f:ao}(n:e8 K C f):IH K C f=B none:=by unfold IH;rw[show oM K (.ref C) f=B N from n];rfl
structure Meth (K:aM)(C:J)(m:ao)(f:J):Prop where
 at_:oM K (.ref C) m=B (B (.ref f))
 fn:Ee K (.ref f)=L
 kp:nO K (.ref f)=L
section
variable{X:Cx}{Y:List (J×Obj)}{σ:St}{H:Hp}{s:aF}{a C dx:J}{fs:List (ao×V)}{f:ao}{v:V}{A:dO}{E:aj->aF->Prop}
def ads {b:Bool}{Q:aj->aF->Prop}(I:Inv X Y σ H s)(e:H a=B (.ins C dx fs))(c:jj X.K C)(n:e8 X.K C f)(l:fs.lookup f=B v)
  (h:∀u s',Inv X Y σ H s'->RelV v u->Q u s'):wpAny (model X.prog X.w) A (getAttr (.ref a) f b) Q E s:=by obtain⟨mA,uj,r,_,_,_⟩:=Ef I.aV e;obtain⟨u,hu,ru⟩:=jN.some_of (v:=v) (o:=mA f) (by grind);exact get_map I.gW uj (c.get f) c.hd n hu (adp ru) (h u _ (I.tok _) ru)
def QZ {pl:Sem Bool}{Q:aj×List aj->aF->Prop}(I:Inv X Y σ H s)(e:H a=B (.ins C dx fs))(c:jj X.K C)(k:Meth X.K C m g)(l:fs.lookup m=N)
  (h:Q (.ref g,[.ref a]) s):wpAny (model X.prog X.w) A (getMethod (.ref a) m pl) Q E s:=by obtain⟨mA,uj,r,_,_,_⟩:=Ef I.aV e;have hn:mA m=none:=jN.none_of (by grind);exact adh I.gW uj (c.get m) k.at_ k.fn hn h
def adt {Q:Unit->aF->Prop}(I:Inv X Y σ H s)(e:H a=B (.ins C dx fs))(c:jj X.K C)(n:e8 X.K C f)(hl:fs.length<1000)(ry:RelV y u)
  (h:∀s',Inv X Y σ (M H a (.ins C dx (fN f y fs))) s'->Q () s'):wpAny (model X.prog X.w) A (setAttr (.ref a) f u) Q E s:=by
 obtain⟨mA,uj,r,wi,_,ho⟩:=Ef I.aV e;have hz:(fs.map (·.1)).length<=aL:=by rw[dj,wC];lia
 refine adi I.gW uj c.sa c.po n.adq c.hd wi hz λh' O' sb=>h _ ?_;have hd:∃o,h'.get? dx=B o:=let⟨o,_,_,e',_⟩:=O'.ns;⟨o,e'⟩;refine I.write (x:=a) (e:=dx) (by rw[e];exact mH) (.inr ho) (λb q hb z=>(sb.2 b hb).trans z) hd ?_;refine⟨by rw[aa uj.ne];exact ho,?_,uj.ne,O'.obj,_,O'.ns,λg=>?_,λg hg=>?_⟩
 .have:=QY f y fs;lia
 .show jN ((fN f y fs).lookup g) (if g=f then B u else mA g);rw[QX];by_cases q:g=f
  .rw[aD q,aD q];exact ry
  rfl'
 .by_cases q:g=f
  .rw[q];exact(II f y fs).1
  .refine(II f y fs).2 g (wi g λz=>hg ?_);grind
def Inv.made (I:Inv X Y σ H s):Inv X Y σ (M (M H s.heap.objs.size (.own (s.heap.objs.size+1))) (s.heap.objs.size+1) (.ins C s.heap.objs.size []))
  {s with heap:=(s.heap.push sW).push (uA C s.heap.objs.size)}:=by
 have e1:(s.heap.push sW).get? s.heap.objs.size=B sW:=fK s.heap rfl
 have e2:((s.heap.push sW).push (uA C s.heap.objs.size)).get? (s.heap.objs.size+1)=B (uA C s.heap.objs.size):=by have:=fK (s.heap.push sW) (o:=uA C s.heap.objs.size) rfl;simp_all
 have e3:(s.heap.push sW).Ns s.heap.objs.size (λ_=>N):=⟨sW,#[],_,e1,O,(λe he=>bT he (by simp)),λ_=>rfl⟩
 have I1:=I.laid (a:=s.heap.objs.size) (o:=.own (s.heap.objs.size+1)) (h':=s.heap.push sW) (t':=s.toks) (λb u q=>dP _ q) (aX _) ⟨_,e1⟩;refine I1.laid (a:=s.heap.objs.size+1) (o:=.ins C s.heap.objs.size []) (t':=s.toks) (λb u q=>dP _ q) (Eg (mI _ _)) ?_;have ne:s.heap.objs.size≠s.heap.objs.size+1:=fZ (rY _);refine⟨by rw[aa ne,ah],iP _,ne,e2,λ_=>N,(Heap.Ns1.of_empty e3).at λo q=>dP _ q,λ_=>mH,λy hy=>bT O hy⟩
def adu {env:Env}{pos:Pos}{Q:aj->aF->Prop}(hb:qe e f env (eval e env)=eval e env)
  (h:wpAny (model prog w) A (eval e env) (λo s₁=>wpAny (model prog w) A (getAttr o f L) Q E s₁) E s):wpAny (model prog w) A (eval (.Attribute e f pos) env) Q E s:=
 Attribute_any_ h (by rw[arm_eval_Attribute,hb])
end
inductive Q0I (K:aM)(f:ao)(x:V)(H:Hp)(Q:VK):Prop|mk a C dx fs v:x=.ref a->H a=B (.ins C dx fs)->jj K C->e8 K C f->fs.lookup f=B v->Q v H->Q0I K f x H Q
def Q0 (K:aM)(ta:TE)(f:ao):TE:=λσ H Q=>ta σ H λx H1=>Q0I K f x H1 Q
inductive advI (K:aM)(f:ao)(y x:V)(H:Hp)(Q:Hp->Prop):Prop|mk a C dx fs:x=.ref a->H a=B (.ins C dx fs)->jj K C->e8 K C f->fs.length<1000->Q (M H a (.ins C dx (fN f y fs)))->advI K f y x H Q
def adv (K:aM)(ta tv:TE)(f:ao):TS:=λD σ H=>tv σ H λy H1=>ta σ H1 λx H2=>advI K f y x H2 (D.nx σ)
section
variable{X:Cx}{o e value:bK}{f:ao}{pos pos' kq:Pos}{ta tv:TE}
def aQ (he:PE X e ta)(hb:qe e f X.env (eval e X.env)=eval e X.env):PE X (.Attribute e f pos) (Q0 X.K ta f):=by intro Y s σ H Q I h;refine adu hb (ba (he Y s σ H _ I h) λu s1 ⟨x,H1,I1,rx,a,C,dx,fs,v,ex,ea,c,n,l,q⟩=>?_);subst ex;obtain rfl:u=cv a:=rx;exact ads I1 ea c n l λu' s2 I2 ru=>⟨v,H1,I2,ru,q⟩
def dk (ha:PE X o ta)(hv:PE X value tv)(hs:sO value (B (.Attribute o f pos')) pos.line X.env=pure aH):PS X (.Assign [.Attribute o f pos'] value pos) (adv X.K ta tv f):=by intro Y s σ H D I h;refine plainObj_wpAny_Assign_Attribute (ba (hv Y s σ H _ I h) λu s1 ⟨y,H1,I1,ry,q⟩=>ba (ha Y s1 σ H1 _ I1 q) λov s2 ⟨x,H2,I2,rx,a,C,dx,fs,ex,ea,c,n,l,q2⟩=>?_) hs;subst ex;obtain rfl:ov=cv a:=rx;exact adt I2 ea c n l ry λs3 I3=>⟨σ,_,I3,q2⟩
end
section
variable{X:Cx}{Y:List (J×Obj)}{σ:St}{H:Hp}{s:aF}{A:dO}{E:aj->aF->Prop}{Q:aj->aF->Prop}{c:aj}{b:Bool}
inductive oN (K:aM)(H:Hp):V->aj->Prop where
 |bB:oN K H .bB (.type "NoneType")
 |bl (x:Bool):oN K H (.bl x) (.type "bool")
 |int (i:Int):oN K H (.int i) (.type "int")
 |str (x:ao):oN K H (.str x) (.type "str")
 |uz (x:UInt64):oN K H (.uz x) (.type "float")
 |Z {a:J} {xs:List V} (e:H a=B (.Z xs)):oN K H (.ref a) (.type "list")
 |bF {a:J} {o:Obj} {xs:List V} (e:H a=B (.bF o (.Z xs))):oN K H (.ref a) (.type "list")
 |tup {a:J} {xs:List V} (e:H a=B (.tup xs)):oN K H (.ref a) (.type "tuple")
 |dK {a:J} {kvs:List (Key×V)} (e:H a=B (.dK kvs)):oN K H (.ref a) (.type "dict")
 |dT {a:J} {kvs:List (List Key×V)} (e:H a=B (.dT kvs)):oN K H (.ref a) (.type "dict")
 |ins {a C dx:J} {fs:List (ao×V)} (e:H a=B (.ins C dx fs)) (cl:jj K C) (ha:oM K (.ref C) "__class__"=B (B (.builtin "object.__class__")))
   (hn:PySem.W.specialIn K (.builtin "object.__class__") "__get__"=B (B (.builtin "getset_descriptor.__get__"))) (uK:PySem.W.takesIn K (.builtin "object.__class__")=B L)
   (hm:PySem.W.mroIn K C (.type "object")=B L):oN K H (.ref a) (.ref C)
def Q1 (I:Inv X Y σ H s)(rx:RelV x u)(ty:oN X.K H x t)(e:IJ X.K t c=B b)(h:∀tk,Q (.bool b) {s with toks:=tk}):
  wpAny (model X.prog X.w) A (call (.builtin "isinstance") [u,c]) Q E s:=by
 funext X Y σ H s A E Q c b x u t
 cases ty with
 |bB=>cases(show u=lF from rx);exact qf PySem.W.kitx_none I.gW mH e (λz=>nomatch z) h
 |bl y=>cases(show u=sF y from rx);exact qf PySem.W.kitx_bool I.gW mH e (λz=>nomatch z) h
 |int i=>obtain⟨t,q⟩:=(show∃t,u=yh i t from rx);cases q;exact qf PySem.W.kitx_int I.gW mH e (λz=>nomatch z) h
 |str y=>obtain⟨t,q⟩:=(show∃t,u=AA y t from rx);cases q;exact qf PySem.W.kitx_str I.gW mH e (λz=>nomatch z) h
 |uz y=>obtain⟨t,q⟩:=(show∃t,u=Ia y t from rx);cases q;exact qf PySem.W.kitx_float I.gW mH e (λz=>nomatch z) h
 |@Z a xs ea=>
  cases(show u=cv a from rx)
  obtain⟨_,_,n,_,h1⟩:=(show d9 X.prog X.w H s.heap a (.Z xs)from I.aV a _ ea);exact qf Q2 I.gW ⟨_,h1,O⟩ e (λz=>nomatch z) h
 |@bF a ob xs ea=>
  cases(show u=cv a from rx)
  obtain⟨_,_,_,n,_,h1⟩:=(show d9 X.prog X.w H s.heap a (.bF ob (.Z xs))from I.aV a _ ea);exact qf Q2 I.gW ⟨_,h1,O⟩ e (λz=>nomatch z) h
 |@tup a xs ea=>
  cases(show u=cv a from rx)
  obtain⟨_,_,_,p⟩:=(show d9 X.prog X.w H s.heap a (.tup xs)from I.aV a _ ea);obtain⟨o,h1,h2,_⟩:=p;exact qf PySem.W.kitx_tuple I.gW ⟨o,h1,h2⟩ e (λz=>nomatch z) h
 |@dK a kvs ea=>
  cases(show u=cv a from rx)
  obtain⟨_,_,vs,_,p⟩:=(show d9 X.prog X.w H s.heap a (.dK kvs)from I.aV a _ ea);obtain⟨o,es,ep,h1,h2,_⟩:=p;exact qf Q3 I.gW ⟨o,h1,h2.1⟩ e (λz=>nomatch z) h
 |@dT a kvs ea=>
  cases(show u=cv a from rx)
  obtain⟨_,_,xs,_,o,es,ep,h1,h2,_⟩:=(show d9 X.prog X.w H s.heap a (.dT kvs)from I.aV a _ ea);exact qf Q3 I.gW ⟨o,h1,h2.1⟩ e (λz=>nomatch z) h
 |@ins a C dx fs ea cl ha hn uK hm=>
  cases(show u=cv a from rx)
  obtain⟨mA,uj,_⟩:=Ef I.aV ea;obtain⟨od,cT,_⟩:=uj.look;exact qf (PySem.W.kitx_own (cl.get _) cl.hd ha hn uK hm) I.gW cT e (λz=>nomatch z) h
end
structure fU (k:Nat)(A:dO):Prop where
 hd:A.handled=N
 dp:A.depth+3*k+5<recursionLimit
 un:A.units+16*k+200<cLine
def fU.mono {j k:Nat}(r:fU k A)(h:j<=k):fU j A:=⟨r.hd,by have:=r.dp;lia,by have:=r.un;lia⟩
def fU.deeper {k:Nat}(r:fU (k+1) A)(env:Env):fU k (A.deeper env):=
 ⟨r.hd,by have:=r.dp;show A.depth+1+3*k+5<_;lia,by have:=r.un;show A.units+3+16*k+200<_;lia⟩
def adw {A:dO}{C:J}{us:List aj}{kw:List (ao×aj)}:(A.under (.builtin "type.__call__" ⟨.ref C::us,kw⟩)).depth=A.depth+1:=by first|rfl|simp[IK,Code.weight,Code.isCreation,Code.isGuard,Code.isCaller,Q4,IL,guardIds]
def adx {A:dO}{C:J}{us:List aj}{kw:List (ao×aj)}:(A.under (.builtin "type.__call__" ⟨.ref C::us,kw⟩)).units=A.units+1:=by first|rfl|simp[IK,Code.cUnits,Q4,IL]
def fU.make {k:Nat}(r:fU (k+1) A)(C:J)(us:List aj)(kw:List (ao×aj)):fU k (A.under (.builtin "type.__call__" ⟨.ref C::us,kw⟩)):=
 ⟨r.hd,by have:=r.dp;rw[adw];lia,by have:=r.un;rw[adx];lia⟩
def fU.depth {k:Nat}(r:fU k A):A.depth<recursionLimit:=by have:=r.dp;lia
def fU.units {k:Nat}(r:fU k A):A.units+64<cLine:=by have:=r.un;lia
def A2:TA:=λ_ H Q=>Q [] H
def ady (ta:TE)(tr:TA):TA:=λσ H Q=>ta σ H λx H1=>tr σ H1 λxs H2=>Q (x::xs) H2
section
variable{X:Cx}{e:bK}{es:List bK}{te:TE}{t:TA}{pos:Pos}
def aq:PA X [] A2:=λ_ _ _ _ H Q I h=>uL ⟨[],H,I,.nil,h⟩
def af (ha:PE X e te)(hr:PA X es t)(hs:starEach (e::es) X.env=(aH,eval e X.env)::starEach es X.env:=by rfl):PA X (e::es) (ady te t):=by intro pos Y s σ H Q I h;rw[hs];show wpAny _ _ (spliced ((aH,eval e X.env)::backTo pos (starEach es X.env))) _ _ s;refine sX (ba (ha Y s σ H _ I h) λu s1 ⟨x,H1,I1,r1,q1⟩=>?_);exact ba (hr pos Y s1 σ H1 _ I1 q1) λus s2 ⟨xs,H2,I2,r2,q2⟩=>⟨x::xs,H2,I2,.cons r1 r2,q2⟩
def adz (t:TA):TE:=λσ H Q=>t σ H λxs H1=>xs.length<=aL/\∀p,H1 p=N->Q (.ref p) (M H1 p (.tup xs))
def adA (t:TA):TE:=λσ H Q=>t σ H λxs H1=>xs.length<=aL/\∀p,H1 p=N->Q (.ref p) (M H1 p (.Z xs))
def iZ {x1}(h:PA X es t):PE X (.Tuple es x1 pos) (adz t):=by intro Y s σ H Q I hq;refine wpAny_Tuple_spliced (ba (h pos Y s σ H _ I hq) λus s1 ⟨xs,H1,I1,r,z,q⟩=>⟨by rw[<-r.length];exact z,?_⟩);have hf:H1 s1.heap.objs.size=none:=I1.aV.fresh (aX _);refine⟨.ref s1.heap.objs.size,M H1 s1.heap.objs.size (.tup xs),I1.laid (t':=s1.toks) (λb u e=>dP _ e) (aX _) ?_,O,q _ hf⟩;exact⟨z,us,r,⟨_,fK _ O,O,_,O⟩⟩
def bU (h:PA X es t):PE X (.List es pos) (adA t):=by intro Y s σ H Q I hq;refine wpAny_List_spliced (ba (h pos Y s σ H _ I hq) λus s1 ⟨xs,H1,I1,r,z,q⟩=>⟨by rw[<-r.length];exact z,?_⟩);have hf:H1 s1.heap.objs.size=none:=I1.aV.fresh (aX _);refine⟨.ref s1.heap.objs.size,M H1 s1.heap.objs.size (.Z xs),I1.laid (t':=s1.toks) (λb u e=>dP _ e) (aX _) ?_,O,q _ hf⟩;exact⟨z,us,0,r,fK _ O⟩
end
abbrev Sp:=List V->Hp->VK->XK->Prop
abbrev oO:=List Env->Hp->aF->XK->aj->aF->Prop
structure wF (P:bx)(w:World)(K:aM)(mg:ao->Option aj)(ak:a9)(A:dO)(outer:List Env)(s:aF)(H:Hp):Prop where
 frames:A.frames=B outer
 mod:Mod K mg ak
 bs:∀b o,ak.get? b=B o->s.heap.get? b=B o/\H b=N
 sM:ak.objs.size<=s.heap.objs.size
 oH:s.heap.FunFrames ak outer
 wk:∀b∈pZ outer,H b=N
 aV:eV P w H s.heap
 bare:AllBare s.gens
def CE (outer:List Env)(P:bx)(w:World)(H:Hp)(s:aF)(Q:VK)(u:aj)(s':aF):Prop:=
 ∃v H',s'.os=s.os/\AllBare s'.gens/\Un (pZ outer) [] H H' s.heap s'.heap/\eV P w H' s'.heap/\RelV v u/\Q v H'
def CR (CX:oO)(outer:List Env)(P:bx)(w:World)(H:Hp)(s:aF)(Q:VK)(E:XK)(r:Result)(s':aF):Prop:=
 match r with
 |.ok (.ret u)=>CE outer P w H s Q u s'
 |.ok _=>False
 |.error e=>CX outer H s E e s'
structure bu (P:bx)(w:World)(K:aM)(mg:ao->Option aj)(ak:a9)(CX:oO)(k:Nat)(f:J)(fd:jk)(ps:List ao)(sp:Sp):Prop where
 len:∀vs H Q E,sp vs H Q E->vs.length=ps.length
 run:∀(A:dO)(outer:List Env)(s:aF)(H:Hp)(args:Args)(us:List aj)(vs:List V)(Q:VK)(E:XK),fU k A->wF P w K mg ak A outer s H->BindsTo s fd args (ps.zip us)->Vals vs us->sp vs H Q E->
  codeAny (model P w) A (.call (.ref f) args) (CR CX outer P w H s Q E) s
def wF.make {P:bx}{w:World}{K:aM}{mg:ao->Option aj}{ak:a9}{A:dO}{outer:List Env}{s:aF}{H:Hp}(e:wF P w K mg ak A outer s H)(C:J)(us:List aj)(kw:List (ao×aj)):
  wF P w K mg ak (A.under (.builtin "type.__call__" ⟨.ref C::us,kw⟩)) outer s H:=⟨by first|exact e.frames|(simpa[IK,Code.envs,IL,pushEnvs]using e.frames),e.mod,e.bs,e.sM,e.oH,e.wk,e.aV,e.bare⟩
section
variable{X:Cx}{Y:List (J×Obj)}{σ:St}{H:Hp}{s s':aF}
def Inv.Q5 (I:Inv X Y σ H s):wF X.prog X.w X.K X.mg X.ak X.A X.stack s H:=
 ⟨I.ok.frames,I.ok.mod,I.bs,fJ I.ok.sM I.sz,I.stack,I.Qm,I.aV,I.bare⟩
def Inv.after (I:Inv X Y σ H s)(h:CE X.stack X.prog X.w H s Q u s'):EP X Y σ Q u s':=by obtain⟨v,H',os,bare,un,aV,r,q⟩:=h;obtain⟨hh,g,d,t,os'⟩:=s';obtain rfl:os'=s.os:=os;exact⟨v,H',I.call (h':=hh) (g':=g) (d':=d) (t':=t) (ch:=[]) un aV bare (λb z=>bT z (by simp)),r,q⟩
end
def Q6 (sp:Sp)(iQ:List V)(E:XK)(t:TA):TE:=λσ H Q=>t σ H λvs H1=>sp (vs++iQ) H1 Q E
inductive EhI (C:J)(m:ao)(x:V)(H:Hp)(R:Prop):Prop|mk a dx fs:x=.ref a->H a=B (.ins C dx fs)->fs.lookup m=N->R->EhI C m x H R
def Eh (C:J)(m:ao)(sp:Sp)(iQ:List V)(E:XK)(ta:TE)(t:TA):TE:=λσ H Q=>ta σ H λx H1=>EhI C m x H1 (t σ H1 λvs H2=>sp (x::(vs++iQ)) H2 Q E)
def Ei (C:J)(sp:Sp)(iQ:List V)(E:XK)(t:TA):TE:=λσ H Q=>t σ H λvs H1=>∀x dx,H1 x=N->H1 dx=N->dx≠x->
 sp (.ref x::(vs++iQ)) (M (M H1 dx (.own x)) x (.ins C dx [])) (λv H2=>v=.bB/\Q (.ref x) H2) E
def Binds (K:aM)(fd:jk)(ps:List ao)(ds:List aj):Prop:=
 ∀(s:aF)(us:List aj),K.In s.heap->(us++ds).length=ps.length->BindsTo s fd ⟨us,[]⟩ (ps.zip (us++ds))
def Binds.all {K:aM}{fd:jk}{ps:List ao}(h:∀us:List aj,us.length=ps.length->Ej fd ⟨us,[]⟩=pure (ps.zip us)):Binds K fd ps []:=λs us _ hl=>by rw[fV]at hl ⊢;exact .of_eq (h us hl)
def Passes (CX:oO)(X:Cx)(E:XK):Prop:=∀(Y:List (J×Obj))(σ:St)(H:Hp)(s:aF)(e:aj)(s':aF),Inv X Y σ H s->CX X.stack H s E e s'->X.xe e s'
section
variable{X:Cx}{CX:oO}{k:Nat}{f C:J}{fd:jk}{ps:List ao}{sp:Sp}{iQ:List V}{ds:List aj}{E:XK}{x m:ao}{p pos apos:Pos}{e o:bK}{es:List bK}{ta:TE}{t:TA}
def IM {Y:List (J×Obj)}{us:List aj}{vs:List V}(F:bu X.prog X.w X.K X.mg X.ak CX k f fd ps sp)(hr:fU k X.A)(hb:Binds X.K fd ps ds)(hd:Vals iQ ds)(hx:Passes CX X E)
  (I:Inv X Y σ H s) (r:Vals vs us) (h:sp (vs++iQ) H Q E):wpAny (model X.prog X.w) X.A (call (.ref f) us) (EP X Y σ Q) X.xe s:=by
 have r2:Vals (vs++iQ) (us++ds):=r.append hd;have hl:(us++ds).length=ps.length:=by rw[<-r2.length];exact F.len _ _ _ _ h
 refine IP (codeAny_mono (F.run X.A X.stack s H ⟨us,[]⟩ (us++ds) (vs++iQ) Q E hr I.Q5 (hb s us I.gW hl) r2 h) λr s' hq=>?_);cases r with
 |error e=>exact hx Y σ H s e s' I hq
 |ok fl=>
  cases fl with
  |ret u=>exact I.after hq
  |next=>exact lM hq
  |brk=>exact lM hq
  |cont=>exact lM hq
def adC (F:bu X.prog X.w X.K X.mg X.ak CX k f fd ps sp)(hr:fU k X.A)(hg:Gl X x)(hm:X.mg x=B (.ref f))(hk:nO X.K (.ref f)=L)(hb:Binds X.K fd ps ds)(hd:Vals iQ ds)(hx:Passes CX X E)
  (ha:PA X (e::es) t) (lN:(x==("__debug__":ao))=false:=by decide) (he:starEach (e::es) X.env=(aH,eval e X.env)::starEach es X.env:=by rfl) (gX:(backTo pos (starEach es X.env)).any (·.1)=false:=by rfl):
  PE X (.Call (.Name x p) (e::es) [] pos) (Q6 sp iQ E t):=by intro Y s σ H Q I h;refine sY (D3 I hg hm ?_ lN);refine IQ (h₀:=X.ak) I.ok.mod.pX hk (ba (ha pos Y s σ H _ I h) λus s1 ⟨vs,H1,I1,r,q⟩=>⟨I1.gW,?_⟩) he gX;exact IM F hr hb hd hx I1 r q
def adD {pl:Sem Bool}(he:PE X o ta)(c:jj X.K C)(hm:Meth X.K C m f)(F:bu X.prog X.w X.K X.mg X.ak CX k f fd ps sp)(hr:fU k X.A)(hb:Binds X.K fd ps ds)(hd:Vals iQ ds)(hx:Passes CX X E)(ha:PA X (e::es) t)
  (eY:starEach (e::es) X.env=(aH,eval e X.env)::starEach es X.env:=by rfl) (gX:(backTo pos (starEach es X.env)).any (·.1)=false:=by rfl)
  (ht:eval (.Call (.Attribute o m apos) (e::es) [] pos) X.env=(do
   let ov<-eval o X.env
   standAt apos.atName;let(f,first)<-holding [ov] (getMethod ov m pl)
   callWith pos f first (backTo pos (starEach (e::es) X.env)) (backToKw pos (keywordEach [] X.env))):=by rfl):
  PE X (.Call (.Attribute o m apos) (e::es) [] pos) (Eh C m sp iQ E ta t):=by intro Y s σ H Q I h;refine Q7 (pl:=pl) (ba (he Y s σ H _ I h) λu s1 ⟨x,H1,I1,rx,a,dx,fs,ex,ea,l,q⟩=>?_) ht;subst ex;obtain rfl:u=cv a:=rx;refine QZ I1 ea c hm l ?_;refine IQ (first:=[.ref a]) (h₀:=X.ak) I.ok.mod.pX hm.kp (ba (ha pos Y s1 σ H1 _ I1 q) λus s2 ⟨vs,H2,I2,r,q2⟩=>⟨I2.gW,?_⟩) eY gX;exact IM (us:=.ref a::us) (vs:=.ref a::vs) F hr hb hd hx I2 (.cons O r) q2
def adE {pl:Sem Bool}(he:PE X o ta)(c:jj X.K C)(hm:Meth X.K C m f)(F:bu X.prog X.w X.K X.mg X.ak CX k f fd ps sp)(hr:fU k X.A)(hb:Binds X.K fd ps ds)(hd:Vals iQ ds)(hx:Passes CX X E)
  (ht:eval (.Call (.Attribute o m apos) [] [] pos) X.env=(do
   let ov<-eval o X.env
   standAt apos.atName;let(f,first)<-holding [ov] (getMethod ov m pl)
   callWith pos f first (backTo pos (starEach [] X.env)) (backToKw pos (keywordEach [] X.env))):=by rfl):
  PE X (.Call (.Attribute o m apos) [] [] pos) (Eh C m sp iQ E ta A2):=by intro Y s σ H Q I h;refine Q7 (pl:=pl) (ba (he Y s σ H _ I h) λu s1 ⟨x,H1,I1,rx,a,dx,fs,ex,ea,l,q⟩=>?_) ht;subst ex;obtain rfl:u=cv a:=rx;refine QZ I1 ea c hm l ?_;exact Q8 (first:=[.ref a]) I1.gW hm.kp (IM (us:=[.ref a]) (vs:=[.ref a]) F hr hb hd hx I1 (.cons rfl .nil) q)
structure Mk (K:aM)(C f:J):Prop where
 makes:A1 K C=L
 init:oM K (.ref C) "__init__"=B (B (.ref f))
 fn:Ee K (.ref f)=L
 kp:nO K (.ref C)=L
def Q9 {Y:List (J×Obj)}{us:List aj}{vs:List V}(aY:Mk X.K C f)(F:bu X.prog X.w X.K X.mg X.ak CX k f fd ps sp)(hr:fU (k+1) X.A)(hb:Binds X.K fd ps ds)(hd:Vals iQ ds)
  (hx:Passes CX X E) (I:Inv X Y σ H s) (r:Vals vs us)
  (h:∀x dx,H x=N->H dx=N->dx≠x->sp (.ref x::(vs++iQ)) (M (M H dx (.own x)) x (.ins C dx [])) (λv H2=>v=.bB/\Q (.ref x) H2) E):
  wpAny (model X.prog X.w) X.A (call (.ref C) us) (EP X Y σ Q) X.xe s:=by
 have hq:=h (s.heap.objs.size+1) s.heap.objs.size (I.aV.fresh (A3 _)) (I.aV.fresh (aX _)) (fZ (rY _));have I2:=Inv.made (C:=C) I;have r2:Vals (V.ref (s.heap.objs.size+1)::(vs++iQ)) (cv (s.heap.objs.size+1)::(us++ds)):=.cons O (r.append hd)
 have hl:(cv (s.heap.objs.size+1)::us++ds).length=ps.length:=by have e:=r2.length;rw[F.len _ _ _ _ hq]at e;exact e.symm
 refine IP (ado (f:=f) I.gW aY.makes aY.init (beq_iff_eq.mp aY.fn) (codeAny_mono (F.run _ X.stack _ _ ⟨cv (s.heap.objs.size+1)::us,[]⟩ (cv (s.heap.objs.size+1)::(us++ds)) _ _ E (hr.make C us []) (I2.Q5.make C us []) (hb _ (cv (s.heap.objs.size+1)::us) I2.gW hl) r2 hq) λr s' uM=>?_));cases r with
 |error e=>exact hx Y σ _ _ e s' I2 uM
 |ok fl=>
  cases fl with
  |ret u=>obtain⟨v,H',I3,rv,ev,q3⟩:=I2.after uM;subst ev;exact⟨rv,⟨V.ref (s.heap.objs.size+1),H',I3,O,q3⟩⟩
  |next=>exact lM uM
  |brk=>exact lM uM
  |cont=>exact lM uM
def adF (aY:Mk X.K C f)(F:bu X.prog X.w X.K X.mg X.ak CX k f fd ps sp)(hr:fU (k+1) X.A)(hg:Gl X x)(hm:X.mg x=B (.ref C))(hb:Binds X.K fd ps ds)(hd:Vals iQ ds)(hx:Passes CX X E)
  (ha:PA X (e::es) t) (lN:(x==("__debug__":ao))=false:=by decide) (he:starEach (e::es) X.env=(aH,eval e X.env)::starEach es X.env:=by rfl) (gX:(backTo pos (starEach es X.env)).any (·.1)=false:=by rfl):
  PE X (.Call (.Name x p) (e::es) [] pos) (Ei C sp iQ E t):=by intro Y s σ H Q I h;refine sY (D3 I hg hm ?_ lN);refine IQ (h₀:=X.ak) I.ok.mod.pX aY.kp (ba (ha pos Y s σ H _ I h) λus s1 ⟨vs,H1,I1,r,q⟩=>⟨I1.gW,?_⟩) he gX;exact Q9 aY F hr hb hd hx I1 r q
def adG (aY:Mk X.K C f)(F:bu X.prog X.w X.K X.mg X.ak CX k f fd ps sp)(hr:fU (k+1) X.A)(hg:Gl X x)(hm:X.mg x=B (.ref C))(hb:Binds X.K fd ps ds)(hd:Vals iQ ds)(hx:Passes CX X E)
  (lN:(x==("__debug__":ao))=false:=by decide):PE X (.Call (.Name x p) [] [] pos) (Ei C sp iQ E A2):=by intro Y s σ H Q I h;refine sY (D3 I hg hm ?_ lN);exact Q8 I.gW aY.kp (Q9 (us:=[]) aY F hr hb hd hx I .nil h)
end
section
variable{X:Cx}{CX:oO}{k:Nat}{f C:J}{fd:jk}{ps ks:List ao}{sp:Sp}{E:XK}{x m:ao}{p pos apos adH:Pos}{e o:bK}{es:List bK}{IS:List Keyword}{te ta:TE}{t tk:TA}{nm:Option ao}
variable{g:List aj->List aj->List aj}{gV:List V->List V->List V}
end
structure bZ (aR P:List ao)(sc:Scope):Prop where
 kind:sc.kind=.function
 co:sc.isCoroutine=aH
 gen:sc.isGenerator=aH
 nd:aR.Nodup
 pre:aR.take P.length=P
 par:∀x∈P,sc.names.lookup x=B .local\/sc.names.lookup x=B .cell
 adI:∀y∈sc.names,y.2≠.free
theorem Ra {kindOf:ao->Option kS}:∀{binds:List (ao×aj)}{m:ao->Option aj},(∀v,(x,v)∉binds)->bindL kindOf binds m x=m x
 |[],_,_=>rfl
 |(n,v)::r,m,h=>by unfold bindL;rw[Ra λw hw=>h w (eD _ hw)];split<;>grind
theorem Rb {kindOf:ao->Option kS}:∀{binds:List (ao×aj)}{m:ao->Option aj},(∀v,(x,v)∉binds)->bindC kindOf binds m x=m x
 |[],_,_=>rfl
 |(n,v)::r,m,h=>by unfold bindC;rw[Rb λw hw=>h w (eD _ hw)];split<;>grind
theorem Rc {kindOf:ao->Option kS}:∀{P:List ao}{vs:List aj}{i:Nat}{m:ao->Option aj},P.Nodup->P[i]?=B x->vs[i]?=B v->kindOf x=B .local->
  bindL kindOf (P.zip vs) m x=B v
 |[],_,_,_,_,h,_,_=>by simp at h
 |_::_,[],_,_,_,_,h,_=>by simp at h
 |p::P,w::vs,0,m,nd,h1,h2,hk=>by simp at h1 h2;subst h1;subst h2;show bindL kindOf ((p,w)::P.zip vs) m p=_;unfold bindL;rw[Ra λv hv=>(fW.mp nd).1 (Ek hv).1,aD hk];simp
 |p::P,w::vs,i+1,m,nd,h1,h2,hk=>by show bindL kindOf ((p,w)::P.zip vs) m x=_;unfold bindL;exact Rc (i:=i) (fW.mp nd).2 (by simpa using h1) (by simpa using h2) hk
theorem Rf {kindOf:ao->Option kS}:∀{P:List ao}{vs:List aj}{i:Nat}{m:ao->Option aj},P.Nodup->P[i]?=B x->vs[i]?=B v->kindOf x≠B .local->
  bindC kindOf (P.zip vs) m x=B v
 |[],_,_,_,_,h,_,_=>by simp at h
 |_::_,[],_,_,_,_,h,_=>by simp at h
 |p::P,w::vs,0,m,nd,h1,h2,hk=>by simp at h1 h2;subst h1;subst h2;show bindC kindOf ((p,w)::P.zip vs) m p=_;unfold bindC;rw[Rb λv hv=>(fW.mp nd).1 (Ek hv).1,au hk];simp
 |p::P,w::vs,i+1,m,nd,h1,h2,hk=>by show bindC kindOf ((p,w)::P.zip vs) m x=_;unfold bindC;exact Rf (i:=i) (fW.mp nd).2 (by simpa using h1) (by simpa using h2) hk
noncomputable def start (aR:List ao)(vs:List V):St:=vs.map B++iR (aR.length-vs.length) N
noncomputable def yu (CX:oO)(P:bx)(w:World)(K:aM)(mg:ao->Option aj)(ak:a9)(aR:List ao)(qual:ao)(scope:Scope)(f:J)(cd:aj)(A:dO)(outer:List Env)(s:aF)(H:Hp)(E:XK):Cx where
 prog:=P
 w:=w
 K:=K
 mg:=mg
 ak:=ak
 A:=A.deeper (envOfC qual scope s.heap.objs.size f cd)
 aR:=aR
 jv:=s
 wj:=H
 env:=envOfC qual scope s.heap.objs.size f cd
 outer:=outer
 stack:=envOfC qual scope s.heap.objs.size f cd::outer
 ex:=[]
 calm:=L
 fn:=λ_=>L
 pn:=[]
 xe:=λe s'=>wpAny (model P w) (A.deeper (envOfC qual scope s.heap.objs.size f cd)) (leaving (envOfC qual scope s.heap.objs.size f cd) e) (λ_ IT=>CX outer H s E e IT) (λe' IT=>CX outer H s E e' IT) s'
def Rg {sc:Scope}{n:Nat}(h:sc.names.lookup x=B .cell):∃c,(cellsFrom n sc.names []).lookup x=B c:=by have q:=Rh sc.names n [] (.inl h);exact El.mp q
def adJ {CX:oO}{P:bx}{w:World}{K:aM}{mg:ao->Option aj}{ak:a9}{aR ps:List ao}{qual:ao}{scope:Scope}{f:J}{cd:aj}{A:dO}{outer:List Env}{s s1:aF}{H:Hp}{E:XK}{us:List aj}{vs:List V}
  (S:bZ aR ps scope) (hd:A.handled=N) (e0:wF P w K mg ak A outer s H) (hl:vs.length=ps.length) (r:Vals vs us)
  (x:InCallC s s.heap.objs.size (bindL (envOfC qual scope s.heap.objs.size f cd).kindOf (ps.zip us) λ_=>N) (cellsFrom (s.heap.objs.size+1) scope.names []) (bindC (envOfC qual scope s.heap.objs.size f cd).kindOf (ps.zip us) λ_=>N) s1):
  Inv (yu CX P w K mg ak aR qual scope f cd A outer s H E) [] (start aR vs) H s1:=by
 have gX:ps.length<=aR.length:=by have:=cb lO S.pre;grobner
 obtain⟨h1,tk,rfl,hk⟩:=x.done;have yw:∀b:J,b∉(yu CX P w K mg ak aR qual scope f cd A outer s H E).ex:=λb z=>bT (show b∈([]:List J)from z) (by simp);refine⟨⟨e0.mod,S.kind,O,O,aX _,λy z c h1 h2=>?_,λy hy=>?_,λy c _ h=>?_,λ_=>hd,Around.frames_deeper e0.frames,.inr ⟨O,O⟩,λb z=>bT z (yw b),e0.bs,e0.sM,λb _ _=>yw b,λb z=>bT z (yw b),e0.oH,e0.wk⟩,O,e0.bare,Un.kept hk,⟨_,x.toInCall.ns,λi y v h1 h2 h3=>?_⟩,λy c h=>⟨_,x.cell y c h⟩,e0.aV.fresh (aX _),λy c h=>?_,λp hp=>bT (show p∈([]:List (J×Obj))from hp) (by simp),e0.aV.kept hk,?_⟩
 .exact name_of_addr x.apart (lP h1) (lP h2)
 .have hy:scope.names.lookup y=B .cell\/scope.names.lookup y=B .free:=hy;rcases hy with hy|hy
  .exact Rg hy
  .exact bT O (S.adI _ (lP hy))
 .exact DW (x.above y c (lP h))
 .have hi:i<vs.length:=by unfold start at h2;all_goals grobner
  have ha:vs[i]?=B v:=by unfold start at h2;all_goals grobner
  obtain⟨u,hu,rv⟩:=r.get ha
  have hp:ps[i]?=B y:=by rw[<-S.pre,List.getElem?_take_of_lt (by cutsat)];exact h1
  have Ri:ps.Nodup:=by rw[<-S.pre];exact S.nd.sublist (List.take_sublist _ _)
  refine⟨u,rv,?_⟩;rcases S.par y (gG hp)with k|k
  .exact .inl ⟨k,Rc Ri hp hu k⟩
  .obtain⟨c,e⟩:=Rg (n:=s.heap.objs.size+1) k;refine .inr ⟨.inl k,c,e,?_⟩;have q:=x.cell y c e;rw[Rf Ri hp hu (by show scope.names.lookup y≠_;grobner)]at q;exact q
 .exact e0.aV.fresh (DW (x.above y c (lP h)))
 .unfold start;show _=aR.length;grobner
def adK {CX:oO}{P:bx}{w:World}{K:aM}{mg:ao->Option aj}{ak:a9}{k:Nat}{f:J}{name qual:ao}{params:Arguments}{body:List hX}{scope:Scope}{dV kV doc pm a6 ct oc:aj}{an od:Option J}
  {nQ:Array (Option aj)} {aR ps:List ao} {sp:Sp} (lk:K.lookup f=B ⟨oc,od,.func (rj name qual params body scope dV kV doc pm an a6 ct),nQ⟩) (lK:A5 K a6 qual=L) (S:bZ aR ps scope)
  (len:∀vs H Q E,sp vs H Q E->vs.length=ps.length)
  (IU:∀(A:dO)(outer:List Env)(s:aF)(H:Hp)(vs:List V)(Q:VK)(E:XK),fU k (A.deeper (envOfC qual scope s.heap.objs.size f a6))->sp vs H Q E->∃t,nM (yu CX P w K mg ak aR qual scope f a6 A outer s H E) body t/\t {nx:=λ_ H'=>Q .bB H',rt:=Q} (start aR vs) H):
  bu P w K mg ak CX (k+1) f (rj name qual params body scope dV kV doc pm an a6 ct) ps sp:=by
 refine⟨len,λA outer s H args us vs Q E hr e0 hb r rm=>?_⟩;have hl:=len _ _ _ _ rm;have KX:K.In s.heap:=e0.mod.pX.keeps λb o e=>(e0.bs b o e).1;have lim:s.heap.NoLimit:=e0.mod.nolimit.keeps λb o e=>(e0.bs b o e).1
 have adL:∀y∈ps.zip us,scope.names.lookup y.1=B .local\/(scope.names.lookup y.1=B .cell/\((cellsFrom (s.heap.objs.size+1) scope.names []).lookup y.1).isSome=L):=λ⟨n,v⟩ hy=>by
  rcases S.par n (Ek hy).1 with q|q
  .exact .inl q
  .exact .inr ⟨q,Rh _ _ _ (.inl q)⟩
 refine codeAny_call_function hr.depth (KX _ _ lk) O S.co S.gen O (PySem.W.codeRec_of KX lK) (hb _ _ _ _ ?_);refine wpAny_newFunctionEnv_cells S.kind adL λenv he s1 x=>?_;subst he;refine⟨lim.keeps x.toInCall.keep,codeAny_func ?_⟩;obtain⟨t,ht,hq⟩:=IU A outer s H vs Q E (hr.deeper _) rm;have I:Inv (yu CX P w K mg ak aR qual scope f a6 A outer s H E) [] (start aR vs) H s1:=adJ S hr.hd e0 hl r x;refine wpAny_mono (ht [] s1 (start aR vs) H _ I hq) (λfl s' hs=>?_) λe s' hs=>hs
 have fin:∀{σ':St}{H':Hp}{v:V}{u:aj},Inv (yu CX P w K mg ak aR qual scope f a6 A outer s H E) [] σ' H' s'->RelV v u->Q v H'->CE outer P w H s Q u s':=
  λ{σ' H' v u} cT rv q=>⟨v,H',cT.os,cT.bare,cT.ak,cT.aV,rv,q⟩
 cases fl with
 |ret u=>obtain⟨v,σ',H',cT,rv,q⟩:=hs;exact fin cT rv q
 |next=>obtain⟨σ',H',cT,q⟩:=hs;exact fin (v:=V.bB) (u:=lF) cT O q
 |brk=>obtain⟨_,_,_,q⟩:=hs;grind
 |cont=>obtain⟨_,_,_,q⟩:=hs;grind
section
variable{X:Cx}{x:ao}{p pos:Pos}{e:bK}{es:List bK}{t:TA}{id T:String}{r:List V->Hp->VK->Prop}
def Rj (r:List V->Hp->VK->Prop)(t:TA):TE:=λσ H Q=>t σ H λvs H1=>r vs H1 Q
def eJ (hc:kR X (.builtin id) r)(hg:Gl X x)(hm:X.mg x=N)(hv:ko x=B (.builtin id))(ha:PA X (e::es) t)(hn:x≠"__name__":=by decide)(lN:(x==("__debug__":ao))=false:=by decide)
  (he:starEach (e::es) X.env=(aH,eval e X.env)::starEach es X.env:=by rfl) (gX:(backTo pos (starEach es X.env)).any (·.1)=false:=by rfl):PE X (.Call (.Name x p) (e::es) [] pos) (Rj r t):=by intro Y s σ H Q I h;refine sY (p0 I hg hm hv ?_ hn lN);exact adM (ba (ha pos Y s σ H _ I h) λus s1 ⟨vs,H1,I1,r1,q1⟩=>hc Y s1 σ H1 vs us Q I1 r1 q1) he gX
def En (hc:kR X (.type T) r)(hg:Gl X x)(hm:X.mg x=N)(hv:ko x=B (.type T))(ha:PA X (e::es) t)(hn:x≠"__name__":=by decide)(lN:(x==("__debug__":ao))=false:=by decide)
  (he:starEach (e::es) X.env=(aH,eval e X.env)::starEach es X.env:=by rfl) (gX:(backTo pos (starEach es X.env)).any (·.1)=false:=by rfl):PE X (.Call (.Name x p) (e::es) [] pos) (Rj r t):=by intro Y s σ H Q I h;refine sY (p0 I hg hm hv ?_ hn lN);exact uI (ba (ha pos Y s σ H _ I h) λus s1 ⟨vs,H1,I1,r1,q1⟩=>hc Y s1 σ H1 vs us Q I1 r1 q1) he gX
end
end L2
namespace HT
open PySem PyProof.Rows
section
open PySem.SeqAt
open PySem.AutoSeq1 (wpAny_loadPart')
open PySem.MeetsSeq PySem.MeetsSeq2 PySem.MeetsSeq3
end
section
variable{prog:bx}{w:World}{A:dO}{E:aj->aF->Prop}{s:aF}
noncomputable def jQ (n d:Nat):Option Int->Nat
 |none=>d
 |some v=>if v<0 then(v+(n:Int)).toNat else min v.toNat n
def adN (n d:Nat):jQ n d N=d:=rfl
def Rk (n d k:Nat):jQ n d (B (k:Int))=min k n:=by show(if(k:Int)<0 then((k:Int)+(n:Int)).toNat else min (k:Int).toNat n)=min k n;grind
end
end HT
namespace L2
open PySem PySem.Spec PyProof.Rows
abbrev TO:=St->Hp->(Option Int->Hp->Prop)->Prop
def PO (X:Cx)(e:Option bK)(t:TO):Prop:=
 ∀(Y:List (J×Obj))(s:aF)(σ:St)(H:Hp)(Q:Option Int->Hp->Prop),Inv X Y σ H s->t σ H Q->
  wpAny (model X.prog X.w) X.A (evalPart e X.env) (λu s'=>∃o H',Inv X Y σ H' s'/\IsPart u o/\Q o H') X.xe s
def adO:TO:=λ_ H Q=>Q N H
def adP (t:TE):TO:=λσ H Q=>t σ H λx H1=>∃i,x=.int i/\Q (B i) H1
def intsAre_of {ns:List Int}:∀{us:List aj},Vals (ns.map V.int) us->IntsAre us ns:=by
 induction ns with
 |nil=>intro us r;rw[wG]at r;cases r;exact .nil
 |cons n ns ih=>
  intro us r;rw[dX]at r;cases r with
  |cons r1 r2=>obtain⟨t,e⟩:=r1;subst e;exact .cons n t (ih r2)
section
variable{X:Cx}{e:bK}{te:TE}{lo hi:Option bK}{tl th:TO}{pos p2:Pos}
def adQ:PO X N adO:=by intro Y s σ H Q I h;rw[evalPart_none];exact bj ⟨N,H,I,.none,h⟩
def A6 (h:PE X e te):PO X (B e) (adP te):=by intro Y s σ H Q I hw;rw[evalPart_some];refine ba (h Y s σ H _ I hw) λu s1 ⟨x,H1,I1,r1,q1⟩=>?_;obtain⟨i,rfl,q⟩:=q1;obtain⟨t,rfl⟩:=r1;exact⟨B i,H1,I1,.int i t,q⟩
def Rl (X:Cx)(r:V->Option Int->Option Int->Hp->VK->Prop):Prop:=
 ∀(Y:List (J×Obj))(s:aF)(σ:St)(H:Hp)(x:V)(v vl vu:aj)(lo hi:Option Int)(sl:J)(Q:VK),Inv X Y σ H s->RelV x v->s.heap.IsSliceOf sl vl vu .none->IsPart vl lo->IsPart vu hi->r x lo hi H Q->
  ∃T id,typeLookup (.type T) "__getitem__"=pure (B (.builtin id))/\s.TypeIs v T/\wpAny (model X.prog X.w) X.A (getItem v (.ref sl)) (EP X Y σ Q) X.xe s
def tSl (r:V->Option Int->Option Int->Hp->VK->Prop)(te:TE)(tl th:TO):TE:=λσ H Q=>te σ H λx H1=>tl σ H1 λl H2=>th σ H2 λu H3=>r x l u H3 Q
def IV {r:V->Option Int->Option Int->Hp->VK->Prop}(hr:Rl X r)(he:PE X e te)(hl:PO X lo tl)(hu:PO X hi th):PE X (.Subscript e (.Slice lo hi N p2) pos) (tSl r te tl th):=by
 intro Y s σ H Q I h;refine IW (ba (he Y s σ H _ I h) λv s1 ⟨x,H1,I1,r1,q1⟩=>?_);refine wpAny_Slice (ba (hl Y s1 σ H1 _ I1 q1) λvl s2 ⟨l,H2,I2,pl,q2⟩=>ba (hu Y s2 σ H2 _ I2 q2) λvu s3 ⟨u,H3,I3,pu,q3⟩=>?_);rw[evalPart_none];refine bj ?_
 have I4:Inv X Y σ H3 {s3 with heap:=s3.heap.push {cls:=.type "slice",data:=.fields #[vl,vu,.none]}}:=I3.kept (t':=s3.toks) λb ob q=>dP _ q
 obtain⟨T,id,hT,ht,hg⟩:=hr Y {s3 with heap:=s3.heap.push {cls:=.type "slice",data:=.fields #[vl,vu,.none]}} σ H3 x v vl vu l u s3.heap.objs.size Q I4 r1 (adS ..) pl pu q3
 show wpAny (model X.prog X.w) X.A (subscriptTail e (.Slice lo hi N p2) v (.ref s3.heap.objs.size)) (EP X Y σ Q) X.xe {s3 with heap:=s3.heap.push {cls:=.type "slice",data:=.fields #[vl,vu,.none]}}
 exact tail_any (ops:=[.ref s3.heap.objs.size,v]) ht hT hg (by with_unfolding_all rfl)
noncomputable def oP (xs:List V)(lo hi:Option Int):List V:=(xs.drop (HT.jQ xs.length 0 lo)).take (HT.jQ xs.length xs.length hi-HT.jQ xs.length 0 lo)
def adT (xs:List V)(lo hi:Option Int):(oP xs lo hi).length<=xs.length:=by unfold oP;grobner
end
noncomputable def qg (n:Nat)(i:Int):Option Nat:=if 0<=i then(if i<n then B i.toNat else N)else if-(n:Int)<=i then B (i+n).toNat else N
noncomputable def j4 {α:Type}(xs:List α)(i:Int):Option α:=(qg xs.length i).bind λj=>xs[j]?
def Rn {n:Nat}{i:Int}{j:Nat}(h:qg n i=B j):seqIndex? i n=B j/\j<n/\-(n:Int)<=i/\i<n:=by
 unfold qg at h;by_cases h0:0<=i
 .rw[aD h0]at h;by_cases h1:i<n
  .rw[aD h1]at h;have e:i.toNat=j:=iO h;exact⟨by rw[IX h0 h1,e],by lia,by lia,h1⟩
  rfl'
 .rw[au h0]at h;by_cases h1:-(n:Int)<=i
  .rw[aD h1]at h;have e:(i+n).toNat=j:=iO h;exact⟨by rw[IY (by lia) h1,e],by lia,h1,by lia⟩
  rfl'
def Ro {α:Type}{xs:List α}{i:Int}{v:α}(h:j4 xs i=B v):∃j,seqIndex? i xs.length=B j/\xs[j]?=B v/\j<xs.length/\-(xs.length:Int)<=i/\i<xs.length:=by
 unfold j4 at h;cases e:qg xs.length i with
 |none=>rw[e]at h;cases h
 |some j=>rw[e]at h;obtain⟨h1,h2,h3,h4⟩:=Rn e;grind
def eP {α:Type}{xs:List α}{j:Nat}{v:α}(h:xs[j]?=B v):j4 xs (j:Int)=B v:=by
 have hj:j<xs.length:=(AI.mp h).1
 have e:qg xs.length (j:Int)=B j:=by unfold qg;grind
 unfold j4;grind
def Eo {α:Type}(xs:List α)(v:α):j4 (xs++[v]) (-1)=B v:=by
 have hl:(xs++[v]).length=xs.length+1:=by simp
 have e:qg (xs++[v]).length (-1)=B xs.length:=by unfold qg;grind
 unfold j4;grind
def adU (b:bK):Prop:=∀o i,subscripted b aH o i=operate [o,i] (getItem o i)
def IZ (X:Cx)(r:R2):Prop:=
 ∀(value slice:bK)(Y:List (J×Obj))(s:aF)(σ:St)(H:Hp)(x y:V)(v u:aj)(Q:VK),Inv X Y σ H s->RelV x v->RelV y u->r x y H Q->
  subscripted slice aH v u=operate [v,u] (getItem v u)->wpAny (model X.prog X.w) X.A (subscriptTail value slice v u) (EP X Y σ Q) X.xe s
def A7 (X:Cx)(id:String)(r:V->List V->Hp->VK->Prop):Prop:=
 ∀(Y:List (J×Obj))(s:aF)(σ:St)(H:Hp)(x:V)(xs:List V)(v:aj)(us:List aj)(Q:VK),Inv X Y σ H s->RelV x v->Vals xs us->r x xs H Q->
  wpAny (model X.prog X.w) X.A (call (.builtin id) (v::us)) (EP X Y σ Q) X.xe s
section
variable{X:Cx}{a b:bK}{ta tb:TE}{pos:Pos}
def cG {r:R2}(hr:IZ X r)(ha:PE X a ta)(hb:PE X b tb)(hs:adU b):PE X (.Subscript a b pos) (Ea r ta tb):=by intro Y s σ H Q I h;exact IW (Iz ha hb I h λv u s2 x y H2 I2 rx ry q=>hr a b Y s2 σ H2 x y v u Q I2 rx ry q (hs _ _))
inductive adV (K:aM)(x y:V)(H:Hp)(Q:VK):Prop|mk p xs i v:x=.ref p->y=.int i->aC K H p xs->j4 xs i=B v->Q v H->adV K x y H Q
inductive adW (K:aM)(x y:V)(H:Hp)(Q:VK):Prop|mk p xs i v:x=.ref p->y=.int i->cW K H p xs->j4 xs i=B v->Q v H->adW K x y H Q
def cP:IZ X (adV X.K):=by
 intro value slice Y s σ H x y v u Q I rx ry h hs;obtain⟨p,xs,i,z,rfl,rfl,hq,he,q⟩:=h;cases rx
 obtain⟨t,rfl⟩:=ry;obtain⟨aI,r,pl,hz⟩:=I.list hq;obtain⟨j,h1,h2,h3,h4,h5⟩:=Ro he;obtain⟨w,ew,mJ⟩:=r.get h2;have hl:=r.length;have hn:=AY;have fin:EP X Y σ Q w s:=⟨z,H,I,mJ,q⟩;by_cases h0:0<=i
 .have hj:i.toNat=j:=by rw[IX h0 h5]at h1;grind
  exact item_listR pl.isList h0 (by lia) (by grind) fin hs
 .have hj:(i+(aI.toArray.size:Int)).toNat=j:=by rw[IY (by lia) h4]at h1;grind
  exact Rp (x:=w) pl.isList.typeIs slot_list_getitem.lookup
   (wpAny_getItem_list_neg (Q:=λr s'=>r=w/\EP X Y σ Q r s') pl.isList (by lia) (by grind) (by lia) (by grind) ⟨O,fin⟩) hs
def yx:IZ X (adW X.K):=by
 intro value slice Y s σ H x y v u Q I rx ry h hs;obtain⟨p,xs,i,z,rfl,rfl,hq,he,q⟩:=h;cases rx
 obtain⟨t,rfl⟩:=ry;obtain⟨aI,r,pl,hz⟩:=I.tuple hq;obtain⟨j,h1,h2,h3,h4,h5⟩:=Ro he;obtain⟨w,ew,mJ⟩:=r.get h2;have hl:=r.length;have hn:=AY;have fin:EP X Y σ Q w s:=⟨z,H,I,mJ,q⟩
 exact Rp (x:=w) pl.typeIs slot_tuple_getitem.lookup
  (getItem_tuple (j:=j) (Q:=λr s'=>r=w/\EP X Y σ Q r s') pl (by cutsat) (by cutsat) (by grobner) (by grobner) ⟨O,fin⟩) hs
def adX (aI:List aj)(n j:Nat)(u:aj):wH (·.setIfInBounds j u) {cls:=.type "list",data:=.seq aI.toArray n}={cls:=.type "list",data:=.seq (aI.set j u).toArray n}:=by simp[wH]
def Inv.Z {Y:List (J×Obj)}{xs:List V}(I:Inv X Y σ H s)(h:H p=B (.Z xs)):
  ∃(aI:List aj)(n:Nat),Vals xs aI/\s.heap.get? p=B {cls:=.type "list",data:=.seq aI.toArray n}/\xs.length<=aL:=by obtain⟨z,aI,n,r,e⟩:=I.aV p _ h;grind
def Inv.adY {Y:List (J×Obj)}{xs ys:List V}{aI its':List aj}{n n':Nat}{f:Obj->Obj}(I:Inv X Y σ H s)(h:H p=B (.Z xs))
  (ho:s.heap.get? p=B {cls:=.type "list",data:=.seq aI.toArray n}) (hf:f {cls:=.type "list",data:=.seq aI.toArray n}={cls:=.type "list",data:=.seq its'.toArray n'}) (r:Vals ys its') (hz:ys.length<=aL) (t:Nat):
  Inv X Y σ (M H p (.Z ys)) {s with heap:=s.heap.update p f,toks:=t}:=by
 have e:(s.heap.update p f).get? p=B {cls:=.type "list",data:=.seq its'.toArray n'}:=by rw[yy f ho (by rw[hf]<;>rfl),hf]
 refine I.write (x:=p) (e:=p) (by rw[h];trivial) (.inl O) (λb u hb q=>(I0 _ _ (aP hb)).trans q) ⟨_,e⟩ ?_;exact⟨hz,its',n',r,e⟩
def adZ:V->V->V->Hp->(Hp->Prop)->Prop:=λo i v H Q=>e_4 λp xs k j=>o=.ref p/\i=.int k/\H p=B (.Z xs)/\qg xs.length k=B j/\Q (M H p (.Z (xs.set j v)))
def set_list:QF X adZ:=by
 intro Y s σ H o i v ov iv u Q I ro ri rv h;obtain⟨p,xs,k,j,rfl,rfl,hp,hj,q⟩:=h;cases ro
 obtain⟨t,rfl⟩:=ri;obtain⟨aI,n,r,ho,hz⟩:=I.Z hp;obtain⟨h1,h2,h3,h4⟩:=Rn hj;have hl:=r.length;have hn:=AY
 have I':Inv X Y σ (M H p (.Z (xs.set j v))) {s with heap:=s.heap.update p (wH (·.setIfInBounds j u))}:=
  I.adY hp ho (adX aI n j u) (r.set rv j) (by grobner) s.toks
 by_cases h0:0<=k
 .have hk:k.toNat=j:=by rw[IX h0 h4]at h1;grobner
  exact PySem.W.ki_setAt ho h0 (by cutsat) (by grobner) (by grobner)
 .have hk:(k+(aI.toArray.size:Int)).toNat=j:=by rw[IY (by cutsat) h3]at h1;grobner
  exact PySem.W.ki_setBack ho (by cutsat) (by grobner) (by cutsat) (by grobner)
def ad0 (lo hi:Option Int)(n:Nat):(sliceBounds lo hi N n).1=((HT.jQ n 0 lo:Nat):Int)/\(sliceBounds lo hi N n).2.1=((HT.jQ n n hi:Nat):Int)/\(sliceBounds lo hi N n).2.2=1:=by
 refine⟨?_,?_,O⟩
 .cases lo with
  |none=>simp[sliceBounds,HT.jQ]
  |some i=>simp only[sliceBounds,HT.jQ,Rr,show(1:Int)>0 by decide,if_true];rfl'
 .cases hi with
  |none=>simp[sliceBounds,HT.jQ]
  |some i=>simp only[sliceBounds,HT.jQ,Rr,show(1:Int)>0 by decide,if_true];rfl'
def ad1 (aI:List aj)(lo hi:Option Int):slicePick aI.toArray lo hi N=((aI.drop (HT.jQ aI.length 0 lo)).take (HT.jQ aI.length aI.length hi-HT.jQ aI.length 0 lo)).toArray:=by obtain⟨h1,h2,h3⟩:=ad0 lo hi aI.toArray.size;unfold slicePick;rw[h1,h2,h3];simp only[sliceRange_one,pick_run,A8]<;>rfl
def ad2 (K:aM):V->Option Int->Option Int->Hp->VK->Prop:=λx lo hi H Q=>e_2 λa xs=>x=.ref a/\aC K H a xs/\∀p,H p=N->Q (.ref p) (M H p (.Z (oP xs lo hi)))
def Ja:Rl X (ad2 X.K):=by
 intro Y s σ H x v vl vu lo hi sl Q I rx hs pl pu h;obtain⟨a,xs,rfl,hx,q⟩:=h;cases rx
 obtain⟨aI,r,ht,hz⟩:=I.list hx;have hlen:=r.length;refine⟨"list",_,slot_list_getitem.lookup,ht.isList.typeIs,?_⟩;refine wpAny_getItem_list_slice ht.isList hs pl pu .none (by simp) ?_ (by grind);rw[ad1,<-hlen];refine⟨.ref s.heap.objs.size,_,I.laid (t':=s.toks) (o:=.Z (oP xs lo hi)) (λb ob q=>dP _ q) (aX _) ?_,O,q _ (I.aV.fresh (aX _))⟩;exact⟨fJ (adT xs lo hi) hz,_,0,(r.drop (HT.jQ xs.length 0 lo)).take (HT.jQ xs.length xs.length hi-HT.jQ xs.length 0 lo),fK _ O⟩
def mK:V->Bool
 |.bB=>L
 |.bl _=>L
 |.int _=>L
 |.str _=>L
 |_=>aH
noncomputable def nS:V->V->Bool
 |.bB,.bB=>L
 |.bl a,.bl b=>a==b
 |.bl a,.int b=>(if a then 1 else 0)==b
 |.int a,.bl b=>a==(if b then 1 else 0)
 |.int a,.int b=>a==b
 |.str a,.str b=>a==b
 |_,_=>aH
def ad3 (ry:RelV y u)(rx:RelV x v)(fy:mK y=L)(fx:mK x=L):Rt A s u v (nS y x):=by
 cases y with
 |bB=>
  cases ry
  cases x with
  |bB=>cases rx;exact SeqAt.EqAt.same _
  |bl b=>cases rx;exact SeqAt.EqAt.none_bool b
  |int b=>obtain⟨t,rfl⟩:=rx;exact SeqAt.EqAt.none_int b t
  |str b=>obtain⟨t,rfl⟩:=rx;exact SeqAt.EqAt.none_str b t
  |_=>exact bT (show aH=L from fx) eN
 |bl a=>
  cases ry
  cases x with
  |bB=>cases rx;exact SeqAt.EqAt.bool_none a
  |bl b=>cases rx;exact SeqAt.EqAt.bool_bool a b
  |int b=>obtain⟨t,rfl⟩:=rx;exact SeqAt.EqAt.bool_int a b t
  |str b=>obtain⟨t,rfl⟩:=rx;exact SeqAt.EqAt.bool_str a b t
  |_=>exact bT (show aH=L from fx) eN
 |int a=>
  obtain⟨t',rfl⟩:=ry;cases x with
  |bB=>cases rx;exact SeqAt.EqAt.int_none a t'
  |bl b=>cases rx;exact SeqAt.EqAt.int_bool a t' b
  |int b=>obtain⟨t,rfl⟩:=rx;exact SeqAt.EqAt.int_int a t' b t
  |str b=>obtain⟨t,rfl⟩:=rx;exact Qj a t' b t
  |_=>exact bT (show aH=L from fx) eN
 |str a=>
  obtain⟨t',rfl⟩:=ry;cases x with
  |bB=>cases rx;exact SeqAt.EqAt.str_none a t'
  |bl b=>cases rx;exact SeqAt.EqAt.str_bool a t' b
  |int b=>obtain⟨t,rfl⟩:=rx;exact Qk a t' b t
  |str b=>obtain⟨t,rfl⟩:=rx;exact SeqAt.EqAt.str_str a t' b t
  |_=>exact bT (show aH=L from fx) eN
 |_=>exact bT (show aH=L from fy) eN
noncomputable def kT (x:V)(u:aj):Bool:=match u with
 |.none=>nS .bB x
 |.bool b=>nS (.bl b) x
 |.int i _=>nS (.int i) x
 |.str z _=>nS (.str z) x
 |_=>aH
def Ep (r:RelV y u)(f:mK y=L):kT x u=nS y x:=by
 cases y with
 |bB=>cases r;rfl
 |bl b=>cases r;rfl
 |int i=>obtain⟨t,rfl⟩:=r;rfl
 |str z=>obtain⟨t,rfl⟩:=r;rfl
 |_=>exact bT (show aH=L from f) eN
theorem A9:∀{xs:List V}{us:List aj},Vals xs us->xs.all mK=L->us.any (kT x)=xs.any λy=>nS y x
 |_,_,.nil,_=>rfl
 |y::xs,u::us,.cons r t,f=>by rw[yz,fQ]at f;rw[rq,rq,Ep r f.1,A9 t f.2]
theorem yA (rx:RelV x v)(fx:mK x=L):∀{xs:List V}{us:List aj},Vals xs us->xs.all mK=L->∀u∈us,Rt A s u v (kT x u)
 |_,_,.nil,_=>λu hu=>by cases hu
 |y::xs,u::us,.cons r t,f=>λu' hu=>by
  rw[yz,fQ]at f;rcases dz.mp hu with rfl|hu
  .rw[Ep r f.1];exact ad3 r rx f.1 fx
  .exact yA rx fx t f.2 u' hu
def ib (x:V)(xs:List V):Bool:=xs.any λy=>nS y x
def Jb (K:aM)(neg:Bool):R2:=λx y H Q=>e_2 λp xs=>y=.ref p/\(aC K H p xs\/cW K H p xs)/\mK x=L/\xs.all mK=L/\Q (.bl (if neg then !ib x xs else ib x xs)) H
def oQ:gi X (compareOp .In) (Jb X.K aH):=by
 intro Y s σ H x y v u Q I rx ry h;obtain⟨p,xs,rfl,hq,fx,fs,q⟩:=h;cases ry
 rcases hq with hq|hq
 .obtain⟨aI,r,pl,hz⟩:=I.list hq;refine SeqAt.in_listAt (kT x) pl.isList (λw hw=>yA rx fx r fs w (by grind)) ⟨.bl _,H,I,O,?_⟩;rw[show aI.toArray.any (kT x)=aI.any (kT x)by simp,A9 r fs];exact q
 .obtain⟨aI,r,pl,hz⟩:=I.tuple hq;refine SeqAt.in_tupleAt (kT x) pl (λw hw=>yA rx fx r fs w (by grind)) ⟨.bl _,H,I,O,?_⟩;rw[show aI.toArray.any (kT x)=aI.any (kT x)by simp,A9 r fs];exact q
def Ba:gi X (compareOp .NotIn) (Jb X.K L):=by
 intro Y s σ H x y v u Q I rx ry h;obtain⟨p,xs,rfl,hq,fx,fs,q⟩:=h;cases ry
 rcases hq with hq|hq
 .obtain⟨aI,r,pl,hz⟩:=I.list hq;refine SeqAt.notIn_listAt (kT x) pl.isList (λw hw=>yA rx fx r fs w (by grind)) ⟨.bl _,H,I,O,?_⟩;rw[show aI.toArray.any (kT x)=aI.any (kT x)by simp,A9 r fs];exact q
 .obtain⟨aI,r,pl,hz⟩:=I.tuple hq;refine SeqAt.notIn_tupleAt (kT x) pl (λw hw=>yA rx fx r fs w (by grind)) ⟨.bl _,H,I,O,?_⟩;rw[show aI.toArray.any (kT x)=aI.any (kT x)by simp,A9 r fs];exact q
def nT:kR X (.builtin "len") (λxs H Q=>∃p ys,xs=[.ref p]/\(aC X.K H p ys\/cW X.K H p ys)/\Q (.int ys.length) H):=by
 intro Y s σ H xs us Q I r h;obtain⟨p,ys,rfl,hq,q⟩:=h;obtain⟨u,rfl,rx⟩:=vals1 r;cases rx
 have hn:=AY;rcases hq with hq|hq
 .obtain⟨aI,r',pl,hz⟩:=I.list hq;have hlen:=r'.length;exact Calls.call_len_list pl.isList (by grind) ⟨.int ys.length,H,I.tok _,⟨s.toks+1,by grind⟩,q⟩
 .obtain⟨aI,r',pl,hz⟩:=I.tuple hq;have hlen:=r'.length;exact len_tuple pl (by grind) ⟨.int ys.length,H,I.tok _,⟨s.toks+1,by grind⟩,q⟩
def ad4:kR X (.type "tuple") (λxs H Q=>∃p ys,xs=[.ref p]/\((aC X.K H p ys/\∀l,H l=N->Q (.ref l) (M H l (.tup ys)))\/(cW X.K H p ys/\Q (.ref p) H))):=by
 intro Y s σ H xs us Q I r h;obtain⟨p,ys,rfl,h⟩:=h;obtain⟨u,rfl,rx⟩:=vals1 r;cases rx
 rcases h with⟨hq,q⟩|⟨hq,q⟩
 .obtain⟨aI,r',pl,hz⟩:=I.list hq;have hlen:=r'.length;refine call_tuple_list pl.isList (λh' kp=>?_) (by grind);have I1:Inv X Y σ H {s with heap:=h'}:=I.kept (t':=s.toks) kp
  have I2:Inv X Y σ (M H h'.objs.size (.tup ys)) {s with heap:=h'.push {cls:=.type "tuple",data:=.seq aI.toArray}}:=
   I1.laid (t':=s.toks) (λb o e=>dP _ e) (aX _) (show d9 X.prog X.w _ _ _ (.tup ys)from⟨hz,aI,r',IsTup.new _ _⟩)
  exact⟨.ref h'.objs.size,_,I2,O,q _ (I1.aV.fresh (aX _))⟩
 .obtain⟨aI,r',pl,hz⟩:=I.tuple hq;exact call_tuple_same pl ⟨.ref p,H,I,O,q⟩
def Er (K:aM)(T:String)(x:V)(H:Hp):Prop:=match x with
 |.str _=>T="str"
 |.int _=>T="int"
 |.ref p=>(T="list"/\∃xs,aC K H p xs)\/(T="tuple"/\∃o,K.lookup p=B o/\o.cls=.type "tuple"/\o.dict=N)\/
   (T="dict"/\((∃kvs,H p=B (.dK kvs))\/∃kvs,H p=B (.dT kvs)))\/(T="set"/\∃S n,H p=B (.set S n))
 |_=>False
def Ru {Y:List (J×Obj)}{T:String}(I:Inv X Y σ H s)(r:RelV x v)(ty:Er X.K T x H):
  s.TypeIs v T/\∀a,v=.ref a->∃ob,s.heap.get? a=B ob/\ob.dict=none:=by
 funext X σ H s x v Y T
 cases x with
 |str z=>
  obtain⟨t,rfl⟩:=r;cases(show T="str"from ty)
  exact⟨typeIs_str s z t,λ_ e=>nomatch e⟩
 |int i=>
  obtain⟨t,rfl⟩:=r;cases(show T="int"from ty)
  exact⟨typeIs_int s i t,λ_ e=>nomatch e⟩
 |ref p=>
  cases r
  rcases ty with⟨rfl,xs,hq⟩|⟨rfl,o,hk,hc,hd⟩|⟨rfl,hk⟩|⟨rfl,S,n,hk⟩
  .obtain⟨aI,_,pl,_⟩:=I.list hq;refine⟨pl.isList.typeIs,λa e=>?_⟩;cases e
   obtain⟨o,n,e,c,hd,_⟩:=pl;grind
  .refine⟨⟨o,I.gW p o hk,hc⟩,λa e=>?_⟩;cases e
   exact⟨o,I.gW _ o hk,hd⟩
  .have z:∃o,s.heap.get? p=B o/\o.ExactDict:=by
    rcases hk with⟨kvs,hk⟩|⟨kvs,hk⟩
    .obtain⟨_,_,_,_,o,_,_,e,ex,_⟩:=I.aV p _ hk;grind
    .obtain⟨_,_,_,_,o,_,_,e,ex,_⟩:=I.aV p _ hk;grind
   obtain⟨o,e,ex⟩:=z;refine⟨⟨o,e,ex.1⟩,λa e2=>?_⟩;cases e2
   exact⟨o,e,ex.2.1⟩
  .obtain⟨o,_,_,_,e,ex,_⟩:=I.aV p _ hk;refine⟨⟨o,e,ex.1⟩,λa e2=>?_⟩;cases e2
   exact⟨o,e,ex.2.1⟩
 |_=>exact lM ty
def Rv (K:aM)(T:String)(r:V->List V->Hp->VK->Prop)(to:TE):TE:=λσ H Q=>to σ H λx H1=>Er K T x H1/\r x [] H1 Q
def tBM (K:aM)(T:String)(r:V->List V->Hp->VK->Prop)(to:TE)(t:TA):TE:=λσ H Q=>to σ H λx H1=>Er K T x H1/\t σ H1 λxs H2=>r x xs H2 Q
variable{o e:bK}{es:List bK}{to:TE}{t:TA}{name:ao}{apos dI:Pos}{T id:String}{r:V->List V->Hp->VK->Prop}
def rA (pa:Jc T)(slot:Slot T name id)(Bb:typeOf (.builtin id)=pure (.type "method_descriptor"))(hm:A7 X id r)(ho:PE X o to)
  (qh:qe o name X.env (eval o X.env)=eval o X.env:=by rfl) (qi:(apos.endLine==dI.line)=true:=by rfl):PE X (.Call (.Attribute o name apos) [] [] dI) (Rv X.K T r to):=by intro Y s σ H Q I h;refine wpAny_Call_method0_late qh qi (ba (ho Y s σ H _ I h) λv s1 ⟨x,H1,I1,r1,ty,q1⟩=>?_);obtain⟨h1,h2⟩:=Ru I1 r1 ty;exact⟨T,id,pa,slot,Bb,h1,h2,Es O (Et (hm Y s1 σ H1 x [] v [] Q I1 r1 .nil q1))⟩
def e9 (pa:Jc T)(slot:Slot T name id)(Bb:typeOf (.builtin id)=pure (.type "method_descriptor"))(hm:A7 X id r)(ho:PE X o to)(ha:PA X (e::es) t)
  (qh:qe o name X.env (eval o X.env)=eval o X.env:=by rfl)
  (Rx:((backTo dI (starEach (e::es) X.env)).all (λx=>!x.1)&&(backToKw dI (keywordEach [] X.env)).all (λx=>x.1.isSome)&&decide ((e::es).length+([]:List Keyword).length+(if([]:List Keyword).isEmpty then 0 else 1)<30))=true:=by rfl)
  (qi:(apos.endLine==dI.line)=true:=by rfl) (hs:starEach (e::es) X.env=(aH,eval e X.env)::starEach es X.env:=by rfl) (Ry:(backTo dI (starEach es X.env)).any (·.1)=false:=by rfl):
  PE X (.Call (.Attribute o name apos) (e::es) [] dI) (tBM X.K T r to t):=by intro Y s σ H Q I h;refine wpAny_Call_method_late qh Rx qi O (ba (ho Y s σ H _ I h) λv s1 ⟨x,H1,I1,r1,ty,q1⟩=>?_);obtain⟨h1,h2⟩:=Ru I1 r1 ty;refine⟨T,id,pa,slot,Bb,h1,h2,?_⟩;have hA:=ha dI Y s1 σ H1 _ I1 q1;rw[hs]at hA ⊢;refine Es (by grind) (Jd ?_);exact ba hA λus s2 ⟨vs,H2,I2,r2,q2⟩=>hm Y s2 σ H2 x vs v us Q I2 r1 r2 q2
end
def Je (X:Cx)(id:String)(r:V->List V->Hp->VK->Prop):Prop:=
 ∀(Y:List (J×Obj))(s:aF)(σ:St)(H:Hp)(x:V)(xs:List V)(v:aj)(us:List aj)(Q:VK),Inv X Y σ H s->RelV x v->Vals xs us->r x xs H Q->
  wpAny (model X.prog X.w) X.A (call (.builtin id) (v::us)) (EP X Y σ Q) X.xe s
def Vals.one:∀{x:V}{us:List aj},Vals [x] us->∃u,us=[u]/\RelV x u
 |_,_,.cons r .nil=>⟨_,O,r⟩
def Vals.zero:∀{us:List aj},Vals [] us->us=[]
 |_,.nil=>rfl
def Vals.dropLast {xs:List V}{us:List aj}(h:Vals xs us):Vals xs.dropLast us.dropLast:=by
 induction h with
 |nil=>exact .nil
 |cons r t ih=>
  cases t with
  |nil=>exact .nil
  |cons q t'=>exact .cons r ih
theorem Vals.rep {xs:List V}{us:List aj}(h:Vals xs us):∀k:Nat,Vals (iR k xs).flatten (iR k us).flatten
 |0=>.nil
 |k+1=>by rw[Jf,Jf,Rz,Rz];exact Vals.append h (Vals.rep h k)
def apq {α:Type}(l:List α):l.eraseIdx (l.length-1)=l.dropLast:=by simp
theorem foldl_rep (aI:List aj):∀(k:Nat)(acc:List aj),
  qT (λx1 x2=>x1++x2) acc.toArray (iR k aI.toArray)=(acc++(iR k aI).flatten).toArray
 |0,acc=>by simp
 |k+1,acc=>by
  have e:acc.toArray++aI.toArray=(acc++aI).toArray:=by simp
  have e2:(acc++aI)++(iR k aI).flatten=acc++(iR (k+1) aI).flatten:=by grind
  rw[<-e2,<-foldl_rep aI k (acc++aI),<-e,Jf,Bc]
section
variable{X:Cx}{Y:List (J×Obj)}{σ:St}{H:Hp}{s:aF}{l b:J}{xs ys zs:List V}
def Inv.Jg {aI its':List aj}{n:Nat}{f:Array aj->Array aj}{t':Nat}(I:Inv X Y σ H s)(hH:H l=B (.Z xs))
  (e:s.heap.get? l=B {cls:=.type "list",data:=.seq aI.toArray n}) (hf:f aI.toArray=its'.toArray) (hv:Vals ys its') (hz:ys.length<=aL):
  Inv X Y σ (M H l (.Z ys)) {s with heap:=s.heap.update l (wH f),toks:=t'}:=by have q:=PySem.IsL.update e f;rw[hf]at q;refine I.write (x:=l) (e:=l) (by rw[hH];exact trivial) (.inl O) (λb' u hb hu=>(I0 s.heap (wH f) (aP hb)).trans hu) ⟨_,q⟩ ?_;exact⟨hz,its',_,hv,q⟩
def Inv.RA {aI:List aj}{t':Nat}(I:Inv X Y σ H s)(hv:Vals ys aI)(hz:ys.length<=aL):
  Inv X Y σ (M H s.heap.objs.size (.Z ys)) {s with heap:=s.heap.push {cls:=.type "list",data:=.seq aI.toArray},toks:=t'}:=
 I.laid (λ_ _ q=>dP _ q) (aX _) ⟨hz,aI,0,hv,fK _ O⟩
def Inv.fresh (I:Inv X Y σ H s):H s.heap.objs.size=none:=I.aV.fresh (aX _)
def Inv.wI (I:Inv X Y σ H s)(hH:H l=B (.Z xs)):xs.length<=aL/\∃(aI:List aj)(n:Nat),Vals xs aI/\xs.length=aI.length/\s.heap.get? l=B {cls:=.type "list",data:=.seq aI.toArray n}:=by obtain⟨z,aI,n,r,e⟩:=I.aV l _ hH;exact⟨z,aI,n,r,r.length,e⟩
def RB {n:Nat}(h:n<=aL):Eu n=false:=by unfold Eu;grind
end
section
variable{X:Cx}
inductive RC (x:V)(vs:List V)(H:Hp)(Q:VK):Prop|mk l xs y:x=.ref l->vs=[y]->H l=B (.Z xs)->xs.length<aL->Q .bB (M H l (.Z (xs++[y])))->RC x vs H Q
def iE:Je X "list.append" RC:=by
 intro Y s σ H x vs v us Q I rx rv h;obtain⟨l,xs,y,rfl,rfl,hH,hz,q⟩:=h;cases rx
 obtain⟨u,rfl,ru⟩:=rv.one;obtain⟨z,aI,n,r,hl,e⟩:=I.wI hH;refine call_meets ic ⟨_,e,O⟩ F.entry_list_append (F.args_list_append_2 _ _) (PySem.list_append l aI.toArray n u (by grind)) ⟨e,?_⟩;refine⟨.bB,_,I.Jg (its':=aI++[u]) hH e (by simp) (r.append (.cons ru .nil)) ?_,O,q⟩;grind
def ad6:V->List V->Hp->VK->Prop:=λx vs H Q=>e_4 λl b xs zs=>x=.ref l/\vs=[.ref b]/\H l=B (.Z xs)/\H b=B (.Z zs)/\xs.length+zs.length<=aL/\Q .bB (M H l (.Z (xs++zs)))
def sZ:Je X "list.extend" ad6:=by
 intro Y s σ H x vs v us Q I rx rv h;obtain⟨l,b,xs,zs,rfl,rfl,hH,hB,hz,q⟩:=h;cases rx
 obtain⟨u,rfl,ru⟩:=rv.one;cases ru
 obtain⟨z,aI,n,r,hl,e⟩:=I.wI hH;obtain⟨z2,wJ,n2,r2,jc,e2⟩:=I.wI hB;have hsz:aI.toArray.size+wJ.toArray.size<=aL:=by grind
 have Bd:¬(!aI.toArray.isEmpty&&Eu (aI.toArray.size+wJ.toArray.size))=true:=by rw[RB hsz,Bool.and_false];simp
 refine call_meets rB ⟨_,e,O⟩ F.entry_list_extend (F.args_list_extend_2 _ _)
  (AutoSeq1.list_extend_list_list_0 l aI.toArray n b wJ.toArray n2 Bd (by lia) (by lia)) ⟨e,e2,?_⟩
 refine⟨.bB,_,I.Jg (its':=aI++wJ) hH e (by simp) (r.append r2) ?_,O,q⟩;grind
def ad7:V->List V->Hp->VK->Prop:=λx vs H Q=>e_3 λl xs y=>x=.ref l/\vs=[]/\H l=B (.Z xs)/\xs[xs.length-1]?=B y/\Q y (M H l (.Z xs.dropLast))
def rC:Je X "list.pop" ad7:=by
 intro Y s σ H x vs v us Q I rx rv h;obtain⟨l,xs,y,rfl,rfl,hH,hy,q⟩:=h;cases rx
 have hus:=rv.zero;subst hus;obtain⟨z,aI,n,r,hl,e⟩:=I.wI hH;obtain⟨u,hu,ru⟩:=r.get hy
 have uN:aI.toArray[aI.toArray.size-1]?=B u:=by grind
 refine call_meets qj ⟨_,e,O⟩ F.entry_list_pop (F.args_list_pop_1 _) (MeetsSeq.list_pop_last l aI.toArray n u uN (by grind)) ⟨e,?_⟩;refine⟨y,_,I.Jg (its':=aI.dropLast) hH e ?_ r.dropLast ?_,ru,q⟩<;>grind
def ad9:R2:=λx y H Q=>e_4 λl b xs zs=>x=.ref l/\y=.ref b/\H l=B (.Z xs)/\H b=B (.Z zs)/\xs.length+zs.length<=aL/\∀p,H p=N->Q (.ref p) (M H p (.Z (xs++zs)))
def rD:gi X (binaryOp .Add) ad9:=by
 intro Y s σ H x y v u Q I rx ry h;obtain⟨l,b,xs,zs,rfl,rfl,hH,hB,hz,q⟩:=h;cases rx
 cases ry
 obtain⟨z,aI,n,r,hl,e⟩:=I.wI hH;obtain⟨z2,wJ,n2,r2,jc,e2⟩:=I.wI hB;refine PySem.P.add_list e e2 ?_ (by grind);have ea:aI.toArray++wJ.toArray=(aI++wJ).toArray:=by simp
 rw[ea];exact⟨.ref _,_,I.RA (t':=s.toks) (r.append r2) (by grind),O,q _ I.fresh⟩
def ad':R2:=λx y H Q=>e_3 λl k xs=>x=.ref l/\y=.int k/\H l=B (.Z xs)/\-(2^63)<=k/\k<2^63/\xs.length*k.toNat<=aL/\
 ∀p,H p=N->Q (.ref p) (M H p (.Z (iR k.toNat xs).flatten))
def len_rep {α:Type}(xs:List α)(k:Nat):(iR k xs).flatten.length=k*xs.length:=by simp
def RD:gi X (binaryOp .Mult) ad':=by
 intro Y s σ H x y v u Q I rx ry h;obtain⟨l,k,xs,rfl,rfl,hH,h1,h2,hz,q⟩:=h;cases rx
 obtain⟨t,rfl⟩:=ry;obtain⟨z,aI,n,r,hl,e⟩:=I.wI hH;have hlen:aI.toArray.size*k.toNat<=aL:=by grind
 have aea:¬aI.toArray.size*k.toNat>(2^63-1)/8:=by
  have:(aL:Nat)<=(2^63-1)/8:=by decide
  lia
 have RE:¬(!aeb k)=true:=by rw[fitsIndex_both h1 h2];simp
 have Bd:¬Eu (aI.toArray.size*k.toNat)=true:=by rw[RB hlen];simp
 have uO:qT (λx1 x2=>x1++x2) #[] (iR (if aI.toArray.isEmpty=L then 0 else k.toNat) aI.toArray)=(iR k.toNat aI).flatten.toArray:=by
  have f0:∀m:Nat,qT (λx1 x2=>x1++x2) #[] (iR m aI.toArray)=(iR m aI).flatten.toArray:=λm=>by have:=foldl_rep aI m [];grind
  rw[f0];cases aI with
  |nil=>simp
  |cons a r'=>simp
 refine wpAny_binaryOp_repeat_ref (T:="list") (U:="int") (by decide) ⟨_,e,O⟩ (λs'=>typeIs_int s' k t) noFill_list_mul F.fills_int_mul RF repeat_list F.slot_int_index.lookup
  (call_meets RF (typeIs_int s k t) F.entry_int_rmul (F.args_int_rmul_2 _ _) (int___rmul___int_list k t l aI.toArray n) ⟨e,O,⟨_,e,O⟩,call_meets F.slot_list_mul ⟨_,e,O⟩ F.entry_list_mul (F.args_list_mul_2 _ _) (AutoListH.list___mul___list_int_3 l aI.toArray n k t RE aea Bd) ⟨e,?_⟩⟩)
 rw[uO];exact⟨.ref _,_,I.RA (t':=s.toks) (r.rep k.toNat) (by rw[len_rep,Nat.mul_comm];exact hz),O,q _ I.fresh⟩
end
section
variable{prog:bx}{w:World}{A:dO}{E:aj->aF->Prop}{s:aF}
set_option maxRecDepth 100000 in
end
section
variable{X:Cx}
end
theorem Vals.ints:∀{ns:List Int}{us:List aj},Vals (ns.map V.int) us->IntsAre us ns
 |[],us,h=>by
  rw[wG]at h;cases h
  exact IntsAre.nil
 |n::ns,us,h=>by
  rw[dX]at h;cases h with
  |cons r t=>obtain⟨k,rfl⟩:=r;exact IntsAre.cons n k (Vals.ints t)
def RH:∀{us:List aj}{ns:List Int},IntsAre us ns->Vals (ns.map V.int) us
 |_,_,.nil=>by rw[wG];exact Paired.nil
 |_,_,.cons n t h=>by rw[dX];exact Paired.cons (show RelV (V.int n) (yh n t)from⟨t,O⟩) (RH h)
theorem Vals.i6:∀{bs:List Bool}{us:List aj},Vals (bs.map V.bl) us->us=bs.map sF
 |[],us,h=>by
  rw[wG]at h;cases h
  rfl
 |b::bs,us,h=>by
  rw[dX]at h;cases h with
  |cons r t=>
   cases r
   rw[Vals.i6 t,dX]
def Vals.Jh {us:List aj}(r:Vals [V.ref a] us):us=[cv a]:=by
 cases r with
 |cons r t=>
  cases t
  cases r
  rfl
section
variable{prog:bx}{w:World}{A:dO}{E:aj->aF->Prop}{s:aF}{l:J}{aI:List aj}{ns:List Int}{Q:aj->aF->Prop}
def aec (hh:A.handled=N)(hl:s.heap.IsList l aI.toArray)(hi:IntsAre aI ns)
  (h:∀h' tk t',(∀b o,s.heap.get? b=B o->h'.get? b=B o)->Q (.int ns.sum t') {s with heap:=h',toks:=tk}):wpAny (model prog w) A (call (.builtin "sum") [.ref l]) Q E s:=by
 obtain⟨xs,e⟩:=hi.allInts.items;have hn:numsOf (intItems xs).toList=ns:=by rw[<-e];exact hi.numsOf
 rw[nums_intItems]at hn;rw[e]at hl;refine PySem.sum_intListG hh hl λh' tk t' hk=>?_;have:=h h' tk t' hk;rw[preSum_eq,yB (by simp),hn];exact this
end
section
variable{X:Cx}
def aed (K:aM):List V->Hp->VK->Prop:=λvs H Q=>e_2 λ(a:J)(ns:List Int)=>vs=[V.ref a]/\aC K H a (ns.map V.int)/\Q (.int ns.sum) H
def RI (hc:X.calm=L):kR X (.builtin "sum") (aed X.K):=by intro Y s σ H vs us Q I r h;obtain⟨a,ns,rfl,hs,q⟩:=h;obtain⟨aI,rv,hl,_⟩:=I.list hs;rw[Vals.Jh r];exact aec (I.ok.hd hc) hl.isList rv.ints λh' tk t' hk=>⟨.int _,H,I.kept hk,⟨_,O⟩,q⟩
end
section
variable{X:Cx}
def aee (K:aM):V->List V->Hp->VK->Prop:=λx xs H Q=>e_5 λ(a:J)(ys:List V)(y:V)(j:Nat)(z:V)=>x=V.ref a/\xs=[y]/\aC K H a ys/\mK y=L/\ys.all mK=L/\ys[j]?=B z/\nS z y=L/\
 (∀(m:Nat)(z':V),m<j->ys[m]?=B z'->nS z' y=aH)/\Q (.int (j:Nat)) H
def RJ {ys:List V}(f:ys.all mK=L){j:Nat}(h:ys[j]?=B z):mK z=true:=iK.mp f z (gG h)
def RK:A7 X "list.index" (aee X.K):=by
 intro Y s σ H x xs v us Q I rx rxs h;obtain⟨a,ys,y,j,z,rfl,rfl,hs,fy,Ji,hz,hzj,oA,q⟩:=h;cases rx
 cases rxs with
 |cons ry rt=>
  rename_i uy ut;cases rt
  obtain⟨aI,rv,⟨⟨cls,dd,data,sl⟩,n,ho,hc,eQ,hd⟩,hlen⟩:=I.list hs;simp only at hc hd;subst hc hd;obtain⟨u,hu,ru⟩:=rv.get hz;obtain⟨gu,hje⟩:=AI.mp hu;have mM:=rv.length;have hj:j<aI.toArray.size:=by lia
  have hsl:=wC
  refine call_meets Jj ⟨_,ho,O⟩ PySem.F.entry_list_index (PySem.F.args_list_index_2 _ _)
   (SeqAt.list_indexAt a aI.toArray n dd sl uy (kT y) j hj (by lia) ?_ ?_) ⟨ho,λu' ie=>yA ry fy rv Ji u' (by simpa using ie),?_⟩
  .have e1:aI.toArray[j]=u:=by simpa using hje
   rw[e1,Ep ru (RJ Ji hz)];exact hzj
  .intro m hm hmj;have hml:m<aI.length:=by lia
   have hmy:m<ys.length:=by lia
   have uN:ys[m]?=B ys[m]:=cc hmy;obtain⟨u2,RL,ru2⟩:=rv.get uN;obtain⟨_,hme⟩:=AI.mp RL;have e1:aI.toArray[m]=u2:=by simpa using hme
   rw[e1,Ep ru2 (RJ Ji uN)];grind
  .exact⟨.int (j:Nat),H,I.tok _,⟨_,O⟩,q⟩
end
section
variable{X:Cx}
end
def RM {E:aj->aF->Prop}{items:Array aj}{Q:aj->aF->Prop}(hl:s.heap.IsList l items)
  (h:∀s₂:aF,s₂={s with heap:=s.heap.push {cls:=.type "list_iterator",data:=.fields #[.ref l,.int 0 0]}}->(s₂.heap.IsListIter s.heap.objs.size l 0/\s₂.heap.IsList l items)->l≠s.heap.objs.size->Q (.ref s.heap.objs.size) s₂):wpAny (model prog w) A (pyIter (.ref l)) Q E s:=by
 have fM:l<s.heap.objs.size:=by obtain⟨_,e,_⟩:=hl;exact cU e
 exact wpAny_pyIter_list hl (h _ O ⟨⟨_,fK _ O,O,O⟩,hl.push _⟩ (fZ fM))
def RN {bs:List Bool}{aI:List aj}(e:aI=bs.map sF):
  TruthOf prog w A (λi v=>aI.toArray[i]?=B v) (λi=>bs.getD i aH):=λi v s Q E hv hq=>by
 have yq:aI[i]?=B v:=by grind
 rw[e,ig]at yq;obtain⟨b,hb,rfl⟩:=Jk.mp yq;have hg:bs.getD i aH=b:=by grind
 have uM:Q (bs.getD i aH) s:=hq;rw[hg]at uM;exact qY uM
theorem any_range:∀bs:List Bool,(ez bs.length).any (λi=>bs.getD i aH)=bs.any id
 |[]=>rfl
 |b::bs=>by rw[dY,RO,rq,yC,rq,<-any_range bs];all_goals rfl
theorem all_range:∀bs:List Bool,(ez bs.length).all (λi=>bs.getD i aH)=bs.all id
 |[]=>rfl
 |b::bs=>by rw[dY,RO,yz,Ew,yz,<-all_range bs];all_goals rfl
section
variable{X:Cx}
def ael (K:aM):List V->Hp->VK->Prop:=λvs H Q=>e_2 λ(a:J)(bs:List Bool)=>vs=[V.ref a]/\aC K H a (bs.map V.bl)/\Q (.bl (bs.any id)) H
def aem (K:aM):List V->Hp->VK->Prop:=λvs H Q=>e_2 λ(a:J)(bs:List Bool)=>vs=[V.ref a]/\aC K H a (bs.map V.bl)/\Q (.bl (bs.all id)) H
def aen (hc:X.calm=L):kR X (.builtin "any") (ael X.K):=by
 funext X
 intro Y s σ H vs us Q I r h;funext Y s σ H vs us Q;obtain⟨a,bs,rfl,hs,q⟩:=h;obtain⟨aI,rv,hl,_⟩:=I.list hs;rw[Vals.Jh r];have hb:=rv.i6;refine call_any_walk (RM hl.isList λs₂ e2 st ck=>?_);subst e2;refine⟨_,_,_,_,_,_,_,O,RP (A:=X.A.in1) (I.ok.hd hc) _ a ck aI.toArray,st,RN hb,λh' tk hk=>?_⟩;refine⟨.bl _,H,I.kept λb o eo=>hk b o (λuP=>?_) (dP _ eo),?_,q⟩
 .rcases dz.mp uP with e1|uP
  .exact bT (e1▸cU eo) (sj _)
  .cases uP
 .show sF _=sF _;rw[<-any_range,hb,A8,dj]
def aeo (hc:X.calm=L):kR X (.builtin "all") (aem X.K):=by
 intro Y s σ H vs us Q I r h;obtain⟨a,bs,rfl,hs,q⟩:=h;obtain⟨aI,rv,hl,_⟩:=I.list hs;rw[Vals.Jh r];have hb:=rv.i6;refine call_all_walk (RM hl.isList λs₂ e2 st ck=>?_);subst e2;refine⟨_,_,_,_,_,_,_,O,RP (A:=X.A.in1) (I.ok.hd hc) _ a ck aI.toArray,st,RN hb,λh' tk hk=>?_⟩;refine⟨.bl _,H,I.kept λb o eo=>hk b o (λuP=>?_) (dP _ eo),?_,q⟩
 .rcases dz.mp uP with e1|uP
  .exact bT (e1▸cU eo) (sj _)
  .cases uP
 .show sF _=sF _;rw[<-all_range,hb,A8,dj]
end
mutual
inductive Dp (K:aM)(H:Hp):V->PyData->Prop
 |bB:Dp K H .bB .none
 |bl (b:Bool):Dp K H (.bl b) (.bool b)
 |int (i:Int):Dp K H (.int i) (.int i)
 |str (x:ao):Dp K H (.str x) (.str x)
 |Z {a:J} {xs:List V} {ds:List PyData}:aC K H a xs->yD K H xs ds->Dp K H (.ref a) (.list ds)
 |tup {a:J} {xs:List V} {ds:List PyData}:cW K H a xs->yD K H xs ds->Dp K H (.ref a) (.tuple ds)
inductive yD (K:aM)(H:Hp):List V->List PyData->Prop
 |nil:yD K H [] []
 |cons {v:V} {vs:List V} {d:PyData} {ds:List PyData}:Dp K H v d->yD K H vs ds->yD K H (v::vs) (d::ds)
end
section
variable{X:Cx}{Y:List (J×Obj)}{σ:St}{H:Hp}{s:aF}
mutual
theorem Dp.reads (I:Inv X Y σ H s):∀(d:PyData)(v:V)(u:aj),Dp X.K H v d->RelV v u->∃as,Reads s.heap u d as
 |.none,_,_,h,r=>by
  cases h
  cases r
  exact⟨_,Reads.none⟩
 |.bool b,_,_,h,r=>by
  cases h
  cases r
  exact⟨_,Reads.bool b⟩
 |.int i,_,_,h,r=>by
  cases h
  obtain⟨t,rfl⟩:=r;exact⟨_,Reads.int i t⟩
 |.str x,_,_,h,r=>by
  cases h
  obtain⟨t,rfl⟩:=r;exact⟨_,Reads.str x t⟩
 |.list ds,_,_,h,r=>by
  cases h with
  |Z hs ha=>
   cases r
   obtain⟨aI,rv,⟨o,n,ho,hc,_,hd⟩,_⟩:=I.list hs;obtain⟨as,hr⟩:=Dp.readsAll I ds _ aI ha rv;exact⟨_,Reads.list ho hc hd hr⟩
 |.tuple ds,_,_,h,r=>by
  cases h with
  |tup hs ha=>
   cases r
   obtain⟨aI,rv,⟨o,ho,hc,n,hd⟩,_⟩:=I.tuple hs;obtain⟨as,hr⟩:=Dp.readsAll I ds _ aI ha rv;exact⟨_,Reads.tuple ho hc hd hr⟩
 |.dict _,_,_,h,_=>by cases h
theorem Dp.readsAll (I:Inv X Y σ H s):∀(ds:List PyData)(vs:List V)(us:List aj),yD X.K H vs ds->Vals vs us->∃as,ReadsAll s.heap us ds as
 |[],_,_,h,r=>by
  cases h
  cases r
  exact⟨_,ReadsAll.nil⟩
 |d::ds,_,_,h,r=>by
  cases h with
  |cons h1 h2=>
   cases r with
   |cons r1 r2=>obtain⟨as,q1⟩:=Dp.reads I d _ _ h1 r1;obtain⟨bs,q2⟩:=Dp.readsAll I ds _ _ h2 r2;exact⟨_,ReadsAll.cons q1 q2⟩
end
end
section
variable{X:Cx}
def aep (K:aM):R2:=λx y H Q=>e_2 λd e=>Dp K H x d/\Dp K H y e/\RQ d=L/\RQ e=L/\Q (.bl (Ex d e)) H
def aeq (hu:X.A.units+64<cLine):gi X (compareOp .Eq) (aep X.K):=by intro Y s σ H x y v u Q I rx ry h;obtain⟨d,e,hd,he,sd,se,q⟩:=h;obtain⟨as,r1⟩:=Dp.reads I d x v hd rx;obtain⟨bs,r2⟩:=Dp.reads I e y u he ry;exact SeqAt.compareEq_shaped r1 r2 sd se hu ⟨.bl _,H,I,O,q⟩
end
abbrev RR (h:a9)(c:J)(v:Option aj):Prop:=h.IsCell c v
noncomputable def aer (scope sc:Scope):Scope:=
 {scope with names:=scope.names.map λ(n,k)=>if(k==.free&&sc.kind==.function&&sc.names.lookup n==B .cell)then(n,.cell)else(n,k)}
noncomputable def jl (cells:List (ao×J)):List (ao×kS)->List (ao×J)->List (ao×J)
 |[],acc=>acc
 |(n,k)::r,acc=>if k==.free then jl cells r ((n,(cells.lookup n).getD 0)::acc)else jl cells r acc
theorem RU (env:Env)(f:ao×kS->List (ao×J)->Sem (ForInStep (List (ao×J))))
  (hf:∀n k c,f (n,k) c=if k==.free then(do let a<-cellOf env n;pure (.yield ((n,a)::c)))else pure (.yield c)):
  ∀(names:List (ao×kS))(acc:List (ao×J)),(∀y∈names,y.2=.free->∃c,env.cells.lookup y.1=B c)->forIn names acc f=pure (jl env.cells names acc)
 |[],acc,_=>by rw[Jl];rfl
 |(n,k)::r,acc,h=>by
  rw[List.forIn_cons,hf];have ih:=λacc=>RU env f hf r acc λy hy=>h y (eD _ hy);unfold jl;by_cases hk:(k==Jm)=L
  .rw[aD hk,aD hk];obtain⟨c,hc⟩:=h (n,k) eR (by grind);have e:cellOf env n=pure c:=by unfold cellOf;rw[hc]
   grind
  rfl'
def aes {scope:Scope}{env:Env}(h:∀y∈scope.names,y.2=.free->∃c,env.cells.lookup y.1=B c):closureFor scope env=pure (jl env.cells scope.names []):=by simp only[closureFor];rw[RU env _ (λn k c=>rfl) scope.names [] h];rfl
theorem mem_lookup {α:Type}:∀{l:List (ao×α)}{n:ao}{c:α},(n,c)∈l->∃c',l.lookup n=B c'
 |(k,v)::r,n,c,h=>by
  rw[List.lookup_cons];cases hb:n==k with
  |true=>simp
  |false=>
   rcases dz.mp h with e|h
   .cases e;simp at hb
   .exact mem_lookup h
theorem Ey {cells:List (ao×J)}:∀{names:List (ao×kS)}{acc:List (ao×J)}{n:ao}{c:J},(n,c)∈jl cells names acc->(n,c)∈acc\/((n,.free)∈names/\c=(cells.lookup n).getD 0)
 |[],_,_,_,h=>.inl h
 |(m,k)::r,acc,n,c,h=>by
  unfold jl at h;split at h
  .rename_i hk;have hk:k=.free:=by grind
   rcases Ey h with h|⟨h1,h2⟩<;>grind
  .rcases Ey h with h|⟨h1,h2⟩<;>grind
theorem Jn {cells:List (ao×J)}:∀{names:List (ao×kS)}{acc:List (ao×J)}{p:ao×J},p∈acc->p∈jl cells names acc
 |[],_,_,h=>h
 |(m,k)::r,acc,p,h=>by
  unfold jl;split
  .exact Jn (eD _ h)
  .exact Jn h
theorem Jo {cells:List (ao×J)}:∀{names:List (ao×kS)}{acc:List (ao×J)}{n:ao},(n,.free)∈names->(n,(cells.lookup n).getD 0)∈jl cells names acc
 |(m,k)::r,acc,n,h=>by
  unfold jl;rcases dz.mp h with e|h
  .cases e
   exact Jn eR
  .split
   .exact Jo h
   .exact Jo h
theorem Be:∀{names:List (ao×kS)}{h:a9}{acc:List (ao×J)}{x:ao}{c:J},(x,c)∈cellsFrom h.objs.size names acc->
  (x,c)∈acc\/((x,.cell)∈names/\h.objs.size<=c/\RR (pushCells h names) c N)
 |[],_,_,_,_,h=>.inl h
 |(n,k)::r,h,acc,x,c,hm=>by
  unfold cellsFrom at hm;unfold pushCells;split at hm
  .rename_i hk;rw[aD hk];have hk:k=.cell:=by grind
   rw[<-mI h {cls:=.type "cell",data:=.cell N}]at hm;rcases Be hm with hm|⟨h1,h2,h3⟩
   .rcases dz.mp hm with e|hm
    .cases e
     exact .inr ⟨hk▸eR,aX _,_,pushCells_keeps r _ _ _ (fK _ O),O⟩
    .exact .inl hm
   .rw[mI]at h2;grind
  .rename_i hk;rw[au hk];rcases Be hm with hm|⟨h1,h2,h3⟩<;>grind
theorem Ez:∀{names:List (ao×kS)}{n:Nat}{acc:List (ao×J)}{p:ao×J},p∈acc->p∈cellsFrom n names acc
 |[],_,_,_,h=>h
 |(m,k)::r,n,acc,p,h=>by
  unfold cellsFrom;split
  .exact Ez (eD _ h)
  .exact Ez h
theorem Jp:∀{names:List (ao×kS)}{n:Nat}{acc:List (ao×J)}{x:ao},(x,.cell)∈names->∃c,(x,c)∈cellsFrom n names acc
 |(m,k)::r,n,acc,x,h=>by
  unfold cellsFrom;rcases dz.mp h with e|h
  .cases e
   exact⟨n,Ez eR⟩
  .split
   .exact Jp h
   .exact Jp h
theorem Jq:∀{names:List (ao×kS)}{h:a9}{acc:List (ao×J)}{x y:ao}{c:J},(∀p∈acc,p.2<h.objs.size)->(∀x y c,(x,c)∈acc->(y,c)∈acc->x=y)->
  (x,c)∈cellsFrom h.objs.size names acc->(y,c)∈cellsFrom h.objs.size names acc->x=y
 |[],_,_,_,_,_,_,hi,h1,h2=>hi _ _ _ h1 h2
 |(n,k)::r,h,acc,x,y,c,hl,hi,h1,h2=>by
  unfold cellsFrom at h1 h2;split at h1
  .rename_i hk;rw[aD hk]at h2;rw[<-mI h {cls:=.type "cell",data:=.cell N}]at h1 h2;refine Jq (h:=h.push _) (λp hp=>?_) (λx y c a b=>?_) h1 h2
   .rw[mI];rfl'
   rfl'
  .rename_i hk;rw[au hk]at h2;exact Jq hl hi h1 h2
def aet {aY:Model}{A:dO}{E:aj->aF->Prop}{s:aF}{scope:Scope}{globals:J}{closure:List (ao×J)}{qual:ao}{func:Option J}{code:aj}{around:Env}{builtins:J}{Q:Env->aF->Prop}
  (h:Q (newEnv scope s.heap.objs.size globals (cellsFrom (s.heap.objs.size+1) scope.names closure) qual func code (B around) builtins) {s with heap:=pushCells (s.heap.push {cls:=.type "dict",data:=.dict #[]}) scope.names}):
  wpAny aY A (newFunctionEnv scope globals closure [] qual func code (B around) builtins) Q E s:=by
 simp only[newFunctionEnv,RV,if_true];refine aJ (wpAny_alloc ?_);refine aJ (wpAny_layCells _ (λn k c=>rfl) scope.names closure _ _ ?_)
 rw[show({s with heap:=s.heap.push {cls:=.type "dict",data:=.dict #[]}}:aF).heap.objs.size=s.heap.objs.size+1 from mI ..]
 rw[Jl];exact aJ (bj (bj h))
theorem Jr {sc:Scope}:∀{names:List (ao×kS)}{x:ao}{k:kS},
  (names.map λ(n,k)=>if(k==Jm&&sc.kind==.function&&sc.names.lookup n==B .cell)then(n,RW)else(n,k)).lookup x=B k->
  ∃k',names.lookup x=B k'/\(k=k'\/(k'=.free/\k=.cell))
 |[],_,_,h=>by simp at h
 |(n,k₀)::r,x,k,h=>by have ih:=@Jr sc r x k;rfl'
structure Bf (aR:List ao)(sc scope:Scope)(own:List (ao×Nat)):Prop where
 kind:scope.kind=.function
 uniq:∀y∈scope.names,scope.names.lookup y.1=B y.2
 ix:∀p∈own,aR[p.2]?=B p.1
 free:∀y∈scope.names,y.2=.free->sc.names.lookup y.1=B .cell\/sc.names.lookup y.1=B .free
 own:∀y∈scope.names,y.2=.local\/y.2=.cell->y.1∈own.map (·.1)\/y.1∉aR
noncomputable def wipe (σ:St):List Nat->St
 |[]=>σ
 |v::vs=>(wipe σ vs).set v N
theorem Js (σ:St):∀vs:List Nat,(wipe σ vs).length=σ.length
 |[]=>rfl
 |v::vs=>by unfold wipe;rw[Jt,Js σ vs]
theorem Ju {i:Nat}:∀{vs:List Nat},(wipe σ vs)[i]?=B (B x)->σ[i]?=B (B x)/\i∉vs
 |[],h=>⟨h,by simp⟩
 |v::vs,h=>by
  unfold wipe at h;by_cases hi:v=i
  .rfl'
  .rw[D0 hi]at h;obtain⟨h1,h2⟩:=Ju h;grind
abbrev Cx.jR (X:Cx)(s:aF)(H:Hp)(scope:Scope)(gH:Env)(fp:List J):Cx:={X with jv:=s,wj:=H,env:=gH,outer:=X.stack,ex:=fp,fn:=λx=>scope.names.lookup x==B .cell,pn:=[],xe:=λ_ _=>False}
section
variable{X:Cx}{Y:List (J×Obj)}{σ:St}{H:Hp}{s:aF}
def aeu {scope:Scope}{own:List (ao×Nat)}{fp:List J}(I:Inv X Y σ H s)(ok:Bf X.aR X.env.scope scope own)(hN:X.aR.Nodup)(EA:∀b∈fp,qb X Y H b/\b<s.heap.objs.size):
  Inv (X.jR s H scope (compEnvC scope (cellsFrom (s.heap.objs.size+1) scope.names (jl X.env.cells scope.names [])) s.heap.objs.size X.env) fp) [] (wipe σ (own.map (·.2))) H {s with heap:=pushCells (s.heap.push {cls:=.type "dict",data:=.dict #[]}) scope.names}:=by
 have DZ:∀y∈scope.names,y.2=.free->∃c,X.env.cells.lookup y.1=B c:=λy hy e=>by
  rcases ok.free y hy e with k|k
  .exact I.ok.has _ (.inl k)
  .exact I.ok.has _ (.inr k)
 generalize Bg:compEnvC scope (cellsFrom (s.heap.objs.size+1) scope.names (jl X.env.cells scope.names [])) s.heap.objs.size X.env=gH
 have kp:∀b o,s.heap.get? b=B o->(pushCells (s.heap.push {cls:=.type "dict",data:=.dict #[]}) scope.names).get? b=B o:=λb o e=>pushCells_keeps _ _ _ _ (dP _ e)
 have hL:gH.locals=s.heap.objs.size:=by rw[<-Bg];rfl
 have ku:gH.cells=cellsFrom (s.heap.objs.size+1) scope.names (jl X.env.cells scope.names []):=by rw[<-Bg];rfl
 have Jv:gH.scope=aer scope X.env.scope:=by rw[<-Bg];rfl
 rw[<-mI s.heap {cls:=.type "dict",data:=.dict #[]}]at ku
 have cm:∀{y c},(y,c)∈jl X.env.cells scope.names []->X.env.cells.lookup y=B c/\c<s.heap.objs.size:=λ{y c} hm=>by
  rcases Ey hm with hm|⟨h1,rfl⟩
  .cases hm
  .obtain⟨c,hc⟩:=DZ _ h1 rfl;rw[hc];obtain⟨w,z⟩:=I.cell _ _ hc;exact⟨O,z.lt⟩
 have mem:∀{y c},gH.cells.lookup y=B c->(X.env.cells.lookup y=B c/\c<s.heap.objs.size)\/(s.heap.objs.size+1<=c/\RR (pushCells (s.heap.push {cls:=.type "dict",data:=.dict #[]}) scope.names) c N):=λ{y c} e=>by
  rw[ku]at e;rcases Be (lP e)with hm|⟨_,h2,h3⟩
  .exact .inl (cm hm)
  all_goals simp_all
 have look:∀{y},scope.names.lookup y=B .free->∃c,gH.cells.lookup y=B c/\X.env.cells.lookup y=B c:=λ{y} hl=>by
  have hy:(y,Jm)∈scope.names:=lP hl
  obtain⟨c',e'⟩:=mem_lookup (Ez (names:=scope.names) (n:=(s.heap.push {cls:=.type "dict",data:=.dict #[]}).objs.size) (Jo (cells:=X.env.cells) (acc:=[]) hy))
  rw[<-ku]at e';refine⟨c',e',?_⟩;rw[ku]at e';rcases Be (lP e')with hm|⟨h1,_,_⟩
  .exact(cm hm).1
  .have:=ok.uniq _ h1;rw[hl]at this;cases this
 have okB:(X.jR s H scope gH fp).Ok:=by
  refine⟨I.ok.mod,by show gH.scope.kind=_;rw[Jv];exact ok.kind,by show gH.globals=_;rw[<-Bg];exact I.ok.glob,by show gH.builtins=_;rw[<-Bg];exact I.ok.blt,by grind,λy z c e1 e2=>?_,λy hy=>?_,λy c z e=>?_,I.ok.hd,I.ok.frames,.inl O,λb hb=>⟨?_,λy c e z=>?_⟩,I.bs,fJ I.ok.sM I.sz,λb o e hb=>?_,λb hb z=>?_,I.stack,I.Qm⟩
  .have e1:gH.cells.lookup y=B c:=e1;have e2:gH.cells.lookup z=B c:=e2;rw[ku]at e1 e2;refine Jq (λp hp=>?_) (λy z c a b=>I.ok.inj y z c (cm a).1 (cm b).1) (lP e1) (lP e2);rw[mI];grind
  .show∃c,gH.cells.lookup y=B c
   have key:∀k,gH.kindOf y=B k->(k=.cell\/k=.free)->∃c,gH.cells.lookup y=B c:=λk hk uQ=>by
    unfold Env.kindOf at hk;rw[Jv]at hk;obtain⟨k',e,r⟩:=Jr hk
    have:k'=.cell\/k'=.free:=by grind
    rcases this with rfl|rfl
    .obtain⟨c,hm⟩:=Jp (n:=(s.heap.push {cls:=.type "dict",data:=.dict #[]}).objs.size) (acc:=jl X.env.cells scope.names []) (lP e)
     obtain⟨c',e'⟩:=mem_lookup hm;grind
    rfl'
   rfl'
  .have z:(scope.names.lookup y==B RW)=true:=z;have z:scope.names.lookup y=B .cell:=by simpa using z
   have e:gH.cells.lookup y=B c:=e;rw[ku]at e;rcases Be (lP e)with hm|⟨_,h2,_⟩
   .rcases Ey hm with hm|⟨h1,_⟩
    .cases hm
    .have q:=ok.uniq _ h1;rw[z]at q;cases q
   .rw[mI]at h2;grind
  .grind
  .have e:gH.cells.lookup y=B c:=e;rcases mem e with⟨h1,_⟩|⟨h1,_⟩
   .exact(EA b hb).1.2.2.2.2.1 y c h1 z
   rfl'
  .rcases(EA b hb).1.2.2.2.1 with z|z
   .exact I.ok.AF b o e z
   .exact bT (jh (cU e) (fJ I.ok.sM z)) (sj _)
  .rcases dz.mp (I.Ii b z)with z|z
   .exact(EA b hb).1.2.1 z
   .exact(EA b hb).1.2.2.1 z
 refine⟨okB,O,I.bare,Un.kept kp,⟨λ_=>N,?_,λi y av e1 e2 e3=>?_⟩,λy c e=>?_,?_,λy c e=>?_,λp hp=>?_,I.aV.kept kp,by rw[Js];exact I.len⟩
 .show Heap.Ns _ gH.locals _;rw[hL];exact Heap.Ns.keeps (Heap.Ns.new ..) λb o e=>pushCells_keeps _ _ _ _ e
 .obtain⟨e2,ck⟩:=Ju e2
  have uR:scope.names.lookup y=B .free/\(gH.kindOf y=B .cell\/gH.kindOf y=B .free):=by
   have key:∀k,gH.scope.names.lookup y=B k->k=.local\/k=.cell\/k=.free->scope.names.lookup y=B .free/\(gH.kindOf y=B .cell\/gH.kindOf y=B .free):=λk hk uQ=>by
    have RX:=hk;rw[Jv]at hk;obtain⟨k',e,r⟩:=Jr hk
    have no:¬(k'=.local\/k'=.cell):=λhh=>by
     rcases ok.own _ (lP e) hh with e'|e'
     .obtain⟨p,hp,hpy⟩:=cx.mp e';have e3:=ok.ix p hp;have:p.1=y:=hpy;rw[this]at e3;exact ck (cx.mpr ⟨p,hp,Ij hN e3 e1⟩)
     .exact e' (gG e1)
    rcases r with rfl|⟨rfl,rfl⟩
    .rcases uQ with rfl|rfl|rfl
     .grind
     .grind
     .exact⟨e,.inr RX⟩
    .exact⟨e,.inl RX⟩
   have e3:AD gH.scope y:=e3;rcases e3 with e3|e3|e3<;>grind
  obtain⟨m,hn,hl⟩:=I.loc;have aex:AD X.env.scope y:=(ok.free _ (lP uR.1) O).elim (λk=>.inr (.inl k)) (λk=>.inr (.inr k));obtain⟨w,r,q⟩:=hl i y av e1 e2 aex;refine⟨w,r,.inr ⟨uR.2,?_⟩⟩;obtain⟨c,h1,h2⟩:=look uR.1;rcases q with⟨k,_⟩|⟨_,c',e',z⟩
  .have k:X.env.scope.names.lookup y=B .local:=k;rcases ok.free _ (lP uR.1) rfl with k'|k'<;>rw[show X.env.scope.names.lookup y=_ from k']at k<;>cases k
  .rw[h2]at e';cases e';exact⟨c,h1,z.keeps kp⟩
 .have e:gH.cells.lookup y=B c:=e;rcases mem e with⟨h1,_⟩|⟨_,z⟩
  .obtain⟨w,z⟩:=I.cell y c h1;exact⟨w,z.keeps kp⟩
  .exact⟨_,z⟩
 .show H gH.locals=N;rw[hL];exact I.aV.fresh (aX _)
 .have e:gH.cells.lookup y=B c:=e;rcases mem e with⟨h1,_⟩|⟨h1,_⟩
  .exact I.nJ y c h1
  .exact I.aV.fresh (RY h1)
 rfl'
def aey {E:aj->aF->Prop}{xs:List V}{Q:aj->aF->Prop}(I:Inv X Y σ H s)(hD:H D=B (.Z xs))(hz:xs.length<aL)(r:RelV y v)
  (h:∀s',Inv X Y σ (M H D (.Z (xs++[y]))) s'->Q .none s'):wpAny (model X.prog X.w) X.A (call (.builtin "list.append") [.ref D,v]) Q E s:=by obtain⟨hz',aI,n,ri,e⟩:=I.aV D _ hD;have hl:=ri.length;refine append_at (hsz:=by grind) e λh' sb lI=>?_;refine h {s with heap:=h'} (I.write (t':=s.toks) (by rw[hD];trivial) (.inl O) (λb u hb q=>(sb.2 b hb).trans q) ⟨_,lI⟩ ⟨by grind,aI++[v],n+1,ri.append (.cons r .nil),?_⟩);grind
def Bh (X:Cx)(ifs:List bK)(t:TT):Prop:=
 ∀(Y:List (J×Obj))(s:aF)(σ:St)(H:Hp)(Q:Bool->Hp->Prop),Inv X Y σ H s->t σ H Q->
  wpAny (model X.prog X.w) X.A (forIn ifs L λc r=>if r=L then do let ok<-isTrue c X.env (eval c X.env);pure (EB ok)else pure (EB r)) (TP X Y σ Q) X.xe s
def RZ:TT:=λ_ H Q=>Q L H
def nU:Bh X [] RZ:=λ_ _ _ H _ I h=>wpAny_tests_nil ⟨H,I,h⟩
def yE {t:TT}(h:PT X c t):Bh X [c] t:=λY s σ H Q I hw=>wpAny_tests_one (h Y s σ H Q I hw)
end
def yF {α:Type}{t:Sem α}{Q Q':α->aF->Prop}{aY:Model}{E:aj->aF->Prop}(h:wpAny aY A t Q (λ_ _=>False) s)(hQ:∀a s,Q a s->Q' a s):wpAny aY A t Q' E s:=wpAny_mono h hQ λ_ _ z=>lM z
def aez {R:Result->aF->Prop}{ifs:List bK}{scope:Scope}{pos:Pos}{env:Env}(I:Nat->aF->Prop)
  (turn:∀n s,I n s->wpAny (model prog w) A (pyNext it) (λr s₁=>match r with|none=>R (.ok .next) s₁|some v=>wpAny (model prog w) A (letOwnedTupleGo target it v) (λ_ R0=>wpAny (model prog w) A (assign target env v) (λ_ s₂=>wpAny (model prog w) A (forIn ifs L λc r=>if r=L then do let ok<-isTrue c env (eval c env);pure (EB ok)else pure (EB r)) (λok s₃=>if ok=L then wpAny (model prog w) A (eval elt env) (λx s₄=>wpAny (model prog w) A (call (.builtin "list.append") [acc,x]) (λ_ s₅=>∃m,m<n/\I m s₅) (notedBy (model prog w) A env λe s'=>R (.error e) s') s₄) (notedBy (model prog w) A env λe s'=>R (.error e) s') s₃ else∃m,m<n/\I m s₃) (notedBy (model prog w) A env λe s'=>R (.error e) s') s₂) (notedBy (model prog w) A env λe s'=>R (.error e) s') R0) (notedBy (model prog w) A env λe s'=>R (.error e) s') s₁) (notedBy (model prog w) A env λe s'=>R (.error e) s') s)
  (n:Nat) (h:I n s):
  codeAny (model prog w) A (.compLoop (.ListComp elt [⟨target,iter,ifs,0⟩] scope pos) 0 it acc env) R s:=by
 refine codeAny_loop O I (λn s hI=>?_) n h;show wpAny _ A ((compTurn (.ListComp elt [⟨target,iter,ifs,0⟩] scope pos) 0 it acc env).onRaise (λx=>do noteFrame x env;theTreesLotGoes x)) _ _ s;refine wpAny_noted ?_;rw[compTurn_list];refine aJ (wpAny_standAt (aJ (wpAny_mono (turn n s hI) (λr s₁ h₁=>?_) λ_ _ h'=>h')));cases r with
 |none=>exact bj h₁
 |some v=>
  refine aJ (wpAny_mono h₁ (λ_ R0 h₁'=>?_) λ_ _ h'=>h');refine aJ (wpAny_mono h₁' (λ_ s₂ h₂=>aJ (wpAny_mono h₂ (λok s₃ h₃=>?_) λ_ _ h'=>h')) λ_ _ h'=>h');cases ok with
  |false=>exact bj ⟨O,h₃⟩
  |true=>exact aJ (aJ (wpAny_mono h₃ (λx s₄ h₄=>aJ (wpAny_mono h₄ (λ_ s₅ h₅=>bj (bj ⟨O,h₅⟩)) λ_ _ h'=>h')) λ_ _ h'=>h'))
section
variable{X:Cx}
def EC (wi:TI)(g:TG)(tt:TT)(te:TE)(vs:List Nat):TE:=λσ H Q=>wi σ H λcT H1=>∀D,H1 D=N->∃W:Nat->Nat->Hp->Prop,(∃m,W 0 m (M H1 D (.Z [])))/\∀i m H,W i m H->
 (cT.stop i H/\Q (.ref D) H)\/(cT.go i H/\∃Nx:Hp->Prop,(∀H',Nx H'->∃m',m'<m/\W (i+1) m' H')/\∀x H',cT.sP i H x H'->g x (wipe σ vs) H' λσ2 H2=>wipe σ2 vs=wipe σ vs/\tt σ2 H2 λb H3=>if b=L then te σ2 H3 λy H4=>∃acc,H4 D=B (.Z acc)/\acc.length<aL/\Nx (M H4 D (.Z (acc++[y])))else Nx H3)
def R3 {Y:List (J×Obj)}{s:aF}{σ:St}{H:Hp}{Q:VK}{elt tg iter:bK}{ifs:List bK}{scope:Scope}{own:List (ao×Nat)}{pos pos':Pos}{wi:TI}{g:TG}{tt:TT}{te:TE}{use:Option (aj->Sem Unit)}{Qf:aj->aF->Prop}
  (hc:X.calm=L) (hN:X.aR.Nodup) (I:Inv X Y σ H s) (hi:PI X tg iter wi) (ok:Bf X.aR X.env.scope scope own)
  (hg:∀(s:aF)(H:Hp)(C:J)(cl:List (ao×J))(fp:List J),PG (X.jR s H scope (compEnvC scope cl C X.env) fp) tg g) (ht:∀(s:aF)(H:Hp)(C:J)(cl:List (ao×J))(fp:List J),Bh (X.jR s H scope (compEnvC scope cl C X.env) fp) ifs tt)
  (he:∀(s:aF)(H:Hp)(C:J)(cl:List (ao×J))(fp:List J),PE (X.jR s H scope (compEnvC scope cl C X.env) fp) elt te) (hs:∀x,foldedSetIterable iter X.env x=pure x)
  (h:EC wi g tt te (own.map (·.2)) σ H Q)
  (hRR:∀D C s' m H',Inv X Y σ H' s'->Q (.ref D) H'->s'.heap.Ns C m->qb X Y H' C->compPost (model X.prog X.w) X.A X.xe use Qf (.ref D) C (.ok .next) s'):
  wpAny (model X.prog X.w) X.A (comprehension (.ListComp elt [⟨tg,iter,ifs,0⟩] scope pos) scope X.env pos' (newList []) aH (eval iter X.env) use) Qf X.xe s:=by
 have DZ:∀y∈scope.names,y.2=.free->∃c,X.env.cells.lookup y.1=B c:=λy hy e=>by
  rcases ok.free y hy e with k|k
  .exact I.ok.has _ (.inl k)
  .exact I.ok.has _ (.inr k)
 refine wpAny_comprehension_free (use:=use) O hs (aes DZ) ok.kind (λy hy e=>by rw[ok.uniq y hy,e])
  (ba (hi Y s σ H _ I h) λxv s1 hx=>ba hx λIv s2 h2=>?_)
 obtain⟨it,fp,tn,cT,H2,e,I2,T,hJ,f2,q⟩:=h2;subst e;refine wpAny_newObj_type (aet ?_) (by show 0<=aL;decide);generalize hD:s2.heap.objs.size=D;have lQ:H2 D=none:=I2.aV.fresh (Eg hD);obtain⟨W,⟨m0,w0⟩,turn⟩:=q D lQ;generalize qk:({s2 with heap:=s2.heap.push {cls:=.type "list",data:=.seq ([]:List aj).toArray}}:aF)=s3
 have I3:Inv X Y σ (M H2 D (.Z [])) s3:=by rw[<-qk];refine I2.laid (t':=s2.toks) (λb o e=>dP _ e) (Eg hD) ⟨iP _,[],0,.nil,?_⟩;rw[<-hD];exact fK _ rfl
 have h3:s3.heap=s2.heap.push {cls:=.type "list",data:=.seq ([]:List aj).toArray}:=by rw[<-qk]
 have sz:∀b∈fp,b<s2.heap.objs.size:=λb hb=>by obtain⟨o,e,_⟩:=T.obj _ _ hJ b hb;exact cU e
 have f3:∀b∈fp,qb X Y (M H2 D (.Z [])) b/\b<s3.heap.objs.size:=λb hb=>by have fM:=sz b hb;refine⟨⟨?_,(f2 b hb).2⟩,by rw[h3,mI];exact Nat.lt_succ_of_lt fM⟩;rw[aa (by rw[<-hD];exact fZ fM)];exact(f2 b hb).1
 have um:tn 0 s3.heap:=T.keep _ _ _ hJ λb _ o e=>by rw[h3];exact dP _ e
 have I4:=aeu I3 ok hN f3;have pg:=hg s3 (M H2 D (.Z [])) s3.heap.objs.size (cellsFrom (s3.heap.objs.size+1) scope.names (jl X.env.cells scope.names [])) fp;have pt:=ht s3 (M H2 D (.Z [])) s3.heap.objs.size (cellsFrom (s3.heap.objs.size+1) scope.names (jl X.env.cells scope.names [])) fp;have pe:=he s3 (M H2 D (.Z [])) s3.heap.objs.size (cellsFrom (s3.heap.objs.size+1) scope.names (jl X.env.cells scope.names [])) fp
 show codeAny _ _ (.compStart (.ListComp elt [⟨tg,iter,ifs,0⟩] scope pos) 0 (.ref it) (.ref D) (compEnvC scope (cellsFrom (s3.heap.objs.size+1) scope.names (jl X.env.cells scope.names [])) s3.heap.objs.size X.env)) (compPost (model X.prog X.w) X.A X.xe use Qf (.ref D) s3.heap.objs.size) {s3 with heap:=pushCells (s3.heap.push {cls:=.type "dict",data:=.dict #[]}) scope.names}
 have R4:∀b∈fp,(M H2 D (.Z [])) b=none:=λb hb=>(f3 b hb).1.1;generalize yG:compEnvC scope (cellsFrom (s3.heap.objs.size+1) scope.names (jl X.env.cells scope.names [])) s3.heap.objs.size X.env=ce at I4 pg pt pe ⊢;have cL:ce.locals=s3.heap.objs.size:=by subst yG;rfl
 generalize hH3:M H2 D (.Z [])=H3 at I3 I4 pg pt pe w0 R4 f3
 generalize uS:({s3 with heap:=pushCells (s3.heap.push {cls:=.type "dict",data:=.dict #[]}) scope.names}:aF)=s4 at I4 ⊢
 have ql:tn 0 s4.heap:=T.keep _ _ _ um λb _ o e=>by rw[<-uS];exact pushCells_keeps _ _ _ _ (dP _ e)
 have wy:∀{σ':St}{H':Hp}{s':aF},Inv (X.jR s3 H3 scope ce fp) [] σ' H' s'->(∀b∈fp,H' b=N)->∀b∈fp,qb (X.jR s3 H3 scope ce fp) [] H' b:=λ{σ' H' s'} I' hn b hb=>
  ⟨hn b hb,(I'.ok.DV b hb).1,I'.ok.AG b hb,.inl hb,λx c e=>(I'.ok.DV b hb).2 x c e,λp hp=>bT (show p∈([]:List (J×Obj))++[]from hp) (by simp)⟩
 have loop:codeAny (model X.prog X.w) X.A (.compLoop (.ListComp elt [⟨tg,iter,ifs,0⟩] scope pos) 0 (.ref it) (.ref D) ce) (compPost (model X.prog X.w) X.A X.xe use Qf (.ref D) s3.heap.objs.size) s4:=by
  refine aez (λn s'=>∃i H',Inv (X.jR s3 H3 scope ce fp) [] (wipe σ (own.map (·.2))) H' s'/\tn i s'.heap/\(∀b∈fp,H' b=N)/\W i n H') ?_ m0 ⟨0,H3,I4,ql,R4,w0⟩;rintro n s5 ⟨i,H5,I5,sR,n5,w5⟩;rcases turn i n H5 w5 with⟨stop,qq⟩|⟨go,Nx,hNx,step⟩
  .have td:=T.done (X.jR s3 H3 scope ce fp) O O O hc i [] s5 _ H5 (λ_ _=>False) I5 (wy I5 n5) sR stop;refine yF td λr s6 ⟨hr,I6⟩=>?_;subst hr;have I7:Inv X Y σ H5 s6:=I3.ab9 (ch:=fp) I6.os I6.ak I6.aV I6.bare λb hb=>⟨(f3 b hb).1.2.2.2.1,(f3 b hb).1.2.1,(f3 b hb).1.2.2.2.2.1,(f3 b hb).1.2.2.2.2.2⟩
   have nC:H5 s3.heap.objs.size=none:=by have z:H5 ce.locals=none:=I6.free;rw[cL]at z;exact z
   obtain⟨m,hn,_⟩:=I6.loc;have hn:s6.heap.Ns ce.locals m:=hn;rw[cL]at hn;exact hRR D s3.heap.objs.size s6 m H5 I7 qq hn (I3.uG (aX _) nC)
  .have ti:=T.item (X.jR s3 H3 scope ce fp) O O O hc i [] s5 _ H5 (λ_ _=>False) I5 (wy I5 n5) sR go;refine yF ti λr s6 ⟨u,hr,h6⟩=>?_;subst hr;refine yF h6 λ_ s7 ⟨x,H7,I7,r7,y7,Jw,n7⟩=>?_;have I7':=I7.pinned (wy I7 n7) (T.obj _ _ Jw);refine yF (pg _ s7 _ H7 x u _ I7' r7 (step x H7 y7)) λ_ s8 ⟨σ8,H8,I8,R7,q8⟩=>?_;refine yF (pt _ s8 σ8 H8 _ I8 q8) λb s9 ⟨H9,I9,q9⟩=>?_
   have fin:∀{s':aF}{H':Hp},Inv (X.jR s3 H3 scope ce fp) ([]++AN fp s7.heap) σ8 H' s'->Nx H'->∃m,m<n/\∃i H',Inv (X.jR s3 H3 scope ce fp) [] (wipe σ (own.map (·.2))) H' s'/\tn i s'.heap/\(∀b∈fp,H' b=N)/\W i m H':=λ{s' H'} I' nx=>by
    obtain⟨m',hm,w'⟩:=hNx H' nx
    have R8:∀b∈fp,∀o,s7.heap.get? b=B o->s'.heap.get? b=B o/\H' b=none:=λb hb o e=>
     let z:=I'.pin (b,o) (sQ _ (sQ _ (Iy hb e)))
     ⟨z.1,z.2.1⟩
    have hl:(wipe σ (own.map (·.2))).length=σ8.length:=by rw[<-R7,Js]
    refine⟨m',hm,i+1,H',(I'.D9 (Y:=[])).weak hl (λj v e=>?_),T.keep _ _ _ Jw λb hb o e=>(R8 b hb o e).1,λb hb=>?_,w'⟩
    .rw[<-R7]at e;exact(Ju e).1
    .obtain⟨o,e,_⟩:=T.obj _ _ Jw b hb;exact(R8 b hb o e).2
   cases b with
   |false=>simp only[qm,if_false]at q9 ⊢;exact fin I9 q9
   |true=>simp only[if_true]at q9 ⊢;refine yF (pe _ s9 σ8 H9 _ I9 q9) λz jm ⟨yv,Bj,I10,r10,acc,aeG,aeH,nx⟩=>?_;exact aey (X:=X.jR s3 H3 scope ce fp) I10 aeG aeH r10 λmN I11=>fin I11 nx
 exact codeAny_compStart_list loop (T.self X.A 0 _ _ _ ql loop)
def lT {ifs:List bK}{scope:Scope}{own:List (ao×Nat)}{pos:Pos}{wi:TI}{g:TG}{tt:TT}{te:TE}(hc:X.calm=L)(hN:X.aR.Nodup)(hi:PI X tg iter wi)(ok:Bf X.aR X.env.scope scope own)
  (hg:∀(s:aF)(H:Hp)(C:J)(cl:List (ao×J))(fp:List J),PG (X.jR s H scope (compEnvC scope cl C X.env) fp) tg g) (ht:∀(s:aF)(H:Hp)(C:J)(cl:List (ao×J))(fp:List J),Bh (X.jR s H scope (compEnvC scope cl C X.env) fp) ifs tt)
  (he:∀(s:aF)(H:Hp)(C:J)(cl:List (ao×J))(fp:List J),PE (X.jR s H scope (compEnvC scope cl C X.env) fp) elt te) (hs:∀x,foldedSetIterable iter X.env x=pure x:=by intro _;rfl):
  PE X (.ListComp elt [⟨tg,iter,ifs,0⟩] scope pos) (EC wi g tt te (own.map (·.2))):=by intro Y s σ H Q I h;rw[eval_ListComp];refine R3 hc hN I hi ok hg ht he hs h λD C s' m H' I' q hn f=>⟨m,hn,λkU sb=>?_⟩;obtain⟨f0,f1,f2,f3,f4,f5⟩:=f;exact⟨.ref D,H',I'.turned (t':=s'.toks) (λb o hb e=>(sb.2 b hb).trans e) f0 f1 f3 f4 f5,O,q⟩
def ED {i:Nat}{py:Pos}{ifs:List bK}{scope:Scope}{own:List (ao×Nat)}{pos R9:Pos}{wi:TI}{g:TG}{tt:TT}{te:TE}(hc:X.calm=L)(hN:X.aR.Nodup)(hy:X.aR[i]?=B y)(EE:X.env.scope.names.lookup y=B .local)
  (hsw:sO (.ListComp elt [⟨tg,iter,ifs,0⟩] scope pos) (B (.Name y py)) R9.line X.env=pure L) (hi:PI X tg iter wi) (ok:Bf X.aR X.env.scope scope own)
  (hg:∀(s:aF)(H:Hp)(C:J)(cl:List (ao×J))(fp:List J),PG (X.jR s H scope (compEnvC scope cl C X.env) fp) tg g) (ht:∀(s:aF)(H:Hp)(C:J)(cl:List (ao×J))(fp:List J),Bh (X.jR s H scope (compEnvC scope cl C X.env) fp) ifs tt)
  (he:∀(s:aF)(H:Hp)(C:J)(cl:List (ao×J))(fp:List J),PE (X.jR s H scope (compEnvC scope cl C X.env) fp) elt te) (hs:∀x,foldedSetIterable iter X.env x=pure x:=by intro _;rfl):
  PS X (.Assign [.Name y py] (.ListComp elt [⟨tg,iter,ifs,0⟩] scope pos) R9) (AL (EC wi g tt te (own.map (·.2))) (oJ i)):=by
 intro Y s σ H D I h;rw[exec_Assign_Name_used _ _ _ _ hsw];refine aJ (wpAny_standAt (aJ ?_));show wpAny _ X.A (do let _<-comprehension (.ListComp elt [⟨tg,iter,ifs,0⟩] scope pos) scope X.env (firstIterPos [⟨tg,iter,ifs,0⟩] pos) (newList []) aH (eval iter X.env) (B (assign (.Name y py) X.env))) _ _ s;have h:EC wi g tt te (own.map (·.2)) σ H (λx H1=>oJ i x σ H1 D.nx):=h;refine aJ (ba (R3 (Qf:=λ_ s'=>SP X Y D .next s') hc hN I hi ok hg ht he hs h λbV C s' m H' I' q hn f=>?_) λ_ s' hq=>bj (bj hq));show wpAny _ _ (assign (.Name y py) X.env (.ref bV)) _ _ _;refine QG (Qr (v:=V.ref bV) I' hN hy (.inl EE) O (λs2 I2 ⟨a,sb,ha⟩=>?_) (.inr EE));obtain⟨f0,f1,f2,f3,f4,f5⟩:=f
 have haC:C≠a:=by grind
 refine⟨m,hn.sameBut sb haC,λh3 sb3=>?_⟩;exact⟨_,H',I2.turned (t':=s2.toks) (λb o hb e=>(sb3.2 b hb).trans e) f0 f1 f3 f4 f5,q⟩
def EF {gs:List Comprehension}{scope:Scope}{pos py:Pos}{l:Nat}{env:Env}(hk:env.scope.kind=.function)(hy:env.scope.names.lookup y=B .local)(hl:(py.line==pos.line)=L)
  (ha:(scope.names.any λ(n,k)=>n==y&&(k==.local||k==.cell))=aH):sO (.ListComp elt gs scope pos) (B (.Name y py)) l env=pure true:=by
 have ky:env.kindOf y=B .local:=hy;have hb:env.blockKind=.function:=by unfold Env.blockKind;rw[hk];rfl
 unfold sO;simp only[hb,ky,ha,Expr.pos,hl];rfl
end
def uT {K:aM}{a:J}{xs:List V}{g:TG}{tt:TT}{te:TE}{vs:List Nat}{σ:St}{H1:Hp}{D:J}{Qd:Hp->Prop}(Pv:Nat->Hp->Prop)(h0:Pv 0 (M H1 D (.Z [])))(hl:∀i H,i<=xs.length->Pv i H->aC K H a xs)
  (hs:∀i x H,xs[i]?=B x->Pv i H->g x (wipe σ vs) H λσ2 H2=>wipe σ2 vs=wipe σ vs/\tt σ2 H2 λb H3=>if b=L then te σ2 H3 λy H4=>∃acc,H4 D=B (.Z acc)/\acc.length<aL/\Pv (i+1) (M H4 D (.Z (acc++[y])))else Pv (i+1) H3) (hd:∀H,Pv xs.length H->Qd H):
  ∃W:Nat->Nat->Hp->Prop,(∃m,W 0 m (M H1 D (.Z [])))/\∀i m H,W i m H->
   ((uH K a).stop i H/\Qd H)\/((uH K a).go i H/\∃Nx:Hp->Prop,(∀H',Nx H'->∃m',m'<m/\W (i+1) m' H')/\∀x H',(uH K a).sP i H x H'->g x (wipe σ vs) H' λσ2 H2=>wipe σ2 vs=wipe σ vs/\tt σ2 H2 λb H3=>if b=L then te σ2 H3 λy H4=>∃acc,H4 D=B (.Z acc)/\acc.length<aL/\Nx (M H4 D (.Z (acc++[y])))else Nx H3):=by
 refine⟨λi m H=>m=xs.length-i/\i<=xs.length/\Pv i H,⟨xs.length,by simp,iP _,h0⟩,?_⟩;rintro i m H ⟨rfl,hi,p⟩;have q:=hl i H hi p;by_cases fM:i<xs.length
 .refine .inr ⟨⟨xs,xs[i],q,by simp[fM]⟩,Pv (i+1),λH' p'=>⟨xs.length-(i+1),by lia,O,fM,p'⟩,λx H' y=>?_⟩;obtain⟨e,y⟩:=y;grind
 .have e:i=xs.length:=by lia
  subst e;exact .inl ⟨⟨xs,q,aX _⟩,hd H p⟩
noncomputable def jn (aR:List ao)(sc scope:Scope)(own:List (ao×Nat)):Bool:=
 (match scope.kind with|.function=>L|_=>aH)&&(scope.names.all λy=>decide (scope.names.lookup y.1=B y.2))&&(own.all λp=>decide (aR[p.2]?=B p.1))&&
  (scope.names.all λy=>match y.2 with|.free=>(match sc.names.lookup y.1 with|some .cell=>L|some .free=>L|_=>aH)|.local=>decide (y.1∈own.map (·.1))||decide (y.1∉aR)|.cell=>decide (y.1∈own.map (·.1))||decide (y.1∉aR)|_=>L)
def jS {aR:List ao}{sc scope:Scope}{own:List (ao×Nat)}(h:jn aR sc scope own=L):Bf aR sc scope own:=by unfold jn at h;simp only[fQ,iK,tf]at h;obtain⟨⟨⟨h1,h2⟩,h3⟩,h4⟩:=h;refine⟨?_,h2,h3,λy hy e=>?_,λy hy e=>?_⟩<;>grind
section
variable{prog:bx}{w:World}{A:dO}{R:Result->aF->Prop}{s:aF}{elt t0 i0 t1 i1:bK}{apw apx:List bK}{scope:Scope}{pos:Pos}{it acc:aj}{env:Env}
end
section
variable{X:Cx}
end
section
variable{κ:Type}[DecidableEq κ]
noncomputable def cE (kvs:List (κ×V))(k:κ):Option V:=(kvs.find? λkv=>decide (kv.1=k)).map (·.2)
noncomputable def putK (kvs:List (κ×V))(k:κ)(v:V):List (κ×V):=
 if(kvs.any λkv=>decide (kv.1=k))=L then kvs.map (λkv=>if kv.1=k then(kv.1,v)else kv)else kvs++[(k,v)]
noncomputable def wK (kvs:List (κ×V))(k:κ):List (κ×V):=kvs.filter λkv=>decide (kv.1≠k)
def mO {p:κ×V}{r:List (κ×V)}{k:κ}(e:p.1=k):cE (p::r) k=B p.2:=by simp[cE,yH,e]
def mP {p:κ×V}{r:List (κ×V)}{k:κ}(e:¬p.1=k):cE (p::r) k=cE r k:=by simp[cE,yH,e]
theorem uU (k:κ):∀kvs:List (κ×V),(kvs.any λkv=>decide (kv.1=k))=(cE kvs k).isSome
 |[]=>rfl
 |p::r=>by
  rw[rq];by_cases e:p.1=k
  .simp only[mO e,cw e,Sa,RV]
  .rw[mP e,eG e,EG];exact uU k r
theorem Sb (k j:κ)(y:V):∀kvs:List (κ×V),cE (kvs.map λkv=>if kv.1=k then(kv.1,y)else kv) j=(cE kvs j).map λx=>if j=k then y else x
 |[]=>rfl
 |p::r=>by
  have ih:=Sb k j y r;rw[dX];by_cases h:p.1=k
  .rw[aD h];by_cases e:p.1=j
   .rw[mO (p:=(p.1,y)) e,mO e,Sd,aD (e.symm.trans h)]
   .rw[mP (p:=(p.1,y)) e,mP e,ih]
  .rw[au h];by_cases e:p.1=j
   .rw[mO (p:=p) e,mO e,Sd,au (λz=>h (e.trans z))]
   .rw[mP (p:=p) e,mP e,ih]
theorem Jx (k j:κ)(y:V):∀kvs:List (κ×V),cE kvs k=N->cE (kvs++[(k,y)]) j=if j=k then B y else cE kvs j
 |[],_=>by
  by_cases e:k=j
  .rw[aD e.symm];exact mO (p:=(k,y)) e
  .rw[au (λz=>e z.symm)];exact mP (p:=(k,y)) e
 |p::r,hn=>by
  rw[yI];have hk:¬p.1=k:=λz=>by rw[mO z]at hn;cases hn
  rw[mP hk]at hn;have ih:=Jx k j y r hn;by_cases e:p.1=j
  .rw[mO e,mO e,au (λz=>hk (e.trans z))]
  .rw[mP e,mP e,ih]
def Se (kvs:List (κ×V))(k j:κ)(y:V):cE (putK kvs k y) j=if j=k then B y else cE kvs j:=by
 unfold putK;by_cases a:(kvs.any λkv=>decide (kv.1=k))=L
 .rw[aD a,Sb];rw[uU]at a;by_cases e:j=k
  .obtain⟨x,hx⟩:=El.mp a;grind
  all_goals simp_all
 .rw[au a];refine Jx k j y kvs ?_;rw[uU]at a;all_goals simp_all
def Bk (kvs:List (κ×V))(k:κ)(v:V):(putK kvs k v).length<=kvs.length+1:=by unfold putK;rfl'
def wL {kvs:List (κ×V)}{k:κ}(v:V)(h:cE kvs k=N):putK kvs k v=kvs++[(k,v)]:=by unfold putK;rw[uU,h];simp
def jN.Bl {o:Option V}{u:Option aj}(r:jN o u):o.isSome=u.isSome:=by
 cases o with
 |none=>cases u with
  |none=>rfl
  |some _=>exact(show False from r).elim
 |some _=>cases u with
  |none=>exact(show False from r).elim
  |some _=>rfl
def jN.getD {o:Option V}{u:Option aj}(r:jN o u)(rd:RelV d d'):RelV (o.getD d) (u.getD d'):=by
 cases o with
 |none=>cases u with
  |none=>exact rd
  |some _=>exact(show False from r).elim
 |some _=>cases u with
  |none=>exact(show False from r).elim
  |some _=>exact r
def KV.val {kvs:List (κ×V)}{vs:List (κ×aj)}(r:KV kvs vs)(k:κ):jN (cE kvs k) (valueAt vs k):=by
 unfold KV at r;induction r with
 |nil=>exact mH
 |@cons p q ps qs h t ih=>
  obtain⟨h1,h2⟩:=h;by_cases e:p.1=k
  .have e':q.1=k:=h1.symm.trans e;have b:valueAt (q::qs) k=B q.2:=by simp[valueAt,yH,e']
   rw[mO e,b];exact h2
  .have e':¬q.1=k:=λz=>e (h1.trans z);have b:valueAt (q::qs) k=valueAt qs k:=by simp[valueAt,yH,e']
   rw[mP e,b];exact ih
def KV.any {kvs:List (κ×V)}{vs:List (κ×aj)}(r:KV kvs vs)(k:κ):(kvs.any λkv=>decide (kv.1=k))=vs.any λkv=>decide (kv.1=k):=by
 unfold KV at r;induction r with
 |nil=>rfl
 |cons h t ih=>grind
def KV.Jy {kvs:List (κ×V)}{vs:List (κ×aj)}(r:KV kvs vs)(k:κ)(ry:RelV y u):
  KV (kvs.map λkv=>if kv.1=k then(kv.1,y)else kv) (vs.map λkv=>if kv.1=k then(kv.1,u)else kv):=by
 unfold KV at r ⊢;induction r with
 |nil=>exact .nil
 |@cons p q ps qs h t ih=>rw[dX,dX];refine .cons ?_ ih<;>grind
def KV.put {kvs:List (κ×V)}{vs:List (κ×aj)}(r:KV kvs vs)(k:κ)(ry:RelV y u):KV (putK kvs k y) (stored vs k u):=by
 unfold putK stored;rw[r.any k];by_cases e:(vs.any λkv=>decide (kv.1=k))=L
 .rw[aD e,aD e];exact r.Jy k ry
 .rw[au e,au e];exact Sf r ⟨O,ry⟩
def KV.keys {kvs:List (κ×V)}{vs:List (κ×aj)}(r:KV kvs vs):kvs.map (·.1)=vs.map (·.1):=by
 unfold KV at r;induction r with
 |nil=>rfl
 |cons h t ih=>grind
def KV.length {kvs:List (κ×V)}{vs:List (κ×aj)}(r:KV kvs vs):kvs.length=vs.length:=km r
def aeM (kvs:List (κ×V))(k:κ):(wK kvs k).length<=kvs.length:=jT _ _
end
def wM {k:Key}(r:RelV (kV k) u):(dN P w).is k u=true:=by
 cases k with
 |inl i=>obtain⟨t,e⟩:=(show∃t,u=yh i t from r);subst e;exact abV P w i t
 |inr x=>obtain⟨t,e⟩:=(show∃t,u=AA x t from r);subst e;exact abW P w x t
theorem Sg:∀{ks:List Key}{us:List aj},Vals (ks.map kV) us->ItemsAre (dN P w) ks us
 |[],_,r=>by rw[wG]at r;cases r;exact .nil
 |k::ks,_,r=>by
  rw[dX]at r;cases r with
  |cons h t=>exact .cons (wM h) (Sg t)
abbrev KT (H:Hp):List (List Key×V)->List (List Key×J×aj)->Prop:=Paired λp q=>p.1=q.1/\H q.2.1=B (.tup (p.1.map kV))/\RelV p.2 q.2.2
def KT.val {kvs:List (List Key×V)}{xs:List (List Key×J×aj)}(r:KT H kvs xs)(k:List Key):jN (cE kvs k) ((atKey xs k).map (·.2)):=by
 induction r with
 |nil=>exact mH
 |@cons p q ps qs h t ih=>
  obtain⟨h1,_,h2⟩:=h;by_cases e:p.1=k
  .have e':q.1=k:=h1.symm.trans e;have b:atKey (q::qs) k=B q.2:=by simp[atKey,yH,e']
   rw[mO e,b];exact h2
  .have e':¬q.1=k:=λz=>e (h1.trans z);have b:atKey (q::qs) k=atKey qs k:=by simp[atKey,yH,e']
   rw[mP e,b];exact ih
def KT.Jy {kvs:List (List Key×V)}{xs:List (List Key×J×aj)}(r:KT H kvs xs)(k:List Key)(ry:RelV y u):
  KT H (kvs.map λkv=>if kv.1=k then(kv.1,y)else kv) (xs.map (putAt k u)):=by
 induction r with
 |nil=>exact .nil
 |@cons p q ps qs h t ih=>rw[dX,dX];refine .cons ?_ ih;obtain⟨h1,h2,h3⟩:=h;unfold putAt;rfl'
def KT.put {kvs:List (List Key×V)}{xs:List (List Key×J×aj)}(r:KT H kvs xs)(k:List Key)(hb:H b=B (.tup (k.map kV)))(ry:RelV y u):
  KT H (putK kvs k y) (storedH xs k b u):=by
 have e:(kvs.any λkv=>decide (kv.1=k))=(atKey xs k).isSome:=by rw[uU,(r.val k).Bl,Jz]
 unfold putK storedH;rw[e];by_cases q:(atKey xs k).isSome=L
 .rw[aD q,aD q];exact r.Jy k ry
 .rw[au q,au q];exact Sf r ⟨O,hb,ry⟩
def KT.keeps {kvs:List (List Key×V)}{xs:List (List Key×J×aj)}(r:KT H kvs xs)(ht:∀b ys,H b=B (.tup ys)->H' b=B (.tup ys)):KT H' kvs xs:=
 Paired.Ig r λ_ _ z=>⟨z.1,ht _ _ z.2.1,z.2.2⟩
section
variable{P:bx}{w:World}{H:Hp}{h:a9}{a:J}
def Sh (ok:eV P w H h)(e:Rd H a u):d9 P w H h a u:=e.ok ok
def tj {kvs:List (Key×V)}(ok:eV P w H h)(e:Rd H a (.dK kvs)):kvs.length<=aL/\(a==ju)=aH/\∃vs,KV kvs vs/\h.DictOf (dN P w) a vs:=
 show d9 P w H h a (.dK kvs)from Sh ok e
def Bm {kvs:List (Key×V)}(ok:eV P w H h)(e:H a=B (.dK kvs)):kvs.length<=aL/\(a==ju)=aH/\∃vs,KV kvs vs/\h.DictOf (dN P w) a vs:=tj ok (.inl e)
def wN {ks:List Key}(ok:eV P w H h)(e:H a=B (.tup (ks.map kV))):(tupleKind (dN P w)).is h ks a:=by obtain⟨_,aI,r,o,h1,h2,n,h3⟩:=(show d9 P w H h a (.tup (ks.map kV))from ok a _ e);exact⟨o,aI.toArray,n,h1,h2,h3,by simpa using Sg r⟩
def uV {kvs:List (List Key×V)}(ok:eV P w H h)(e:Rd H a (.dT kvs)):kvs.length<=aL/\(a==ju)=aH/\
  ∃xs,KT H kvs xs/\h.DictOfH (tupleKind (dN P w)) a xs:=by
 funext P w H h a kvs
 obtain⟨z,y,xs,r,o,es,ep,h1,h2,h3,h4,h5⟩:=(show d9 P w H h a (.dT kvs)from Sh ok e);refine⟨z,y,xs,r,o,es,ep,h1,h2,h3,h4,λx hx=>?_,h5⟩
 have all:∀{l:List (List Key×V)}{m:List (List Key×J×aj)},KT H l m->∀x∈m,(tupleKind (dN P w)).is h x.1 x.2.1:=by
  intro l m q;induction q with
  |nil=>simp
  |@cons p q ps qs hq t ih=>
   intro x hx;rcases dz.mp hx with e|hx
   .subst e;exact wN ok (by grind)
   .exact ih x hx
 grind
def EH {kvs:List (List Key×V)}(ok:eV P w H h)(e:H a=B (.dT kvs)):kvs.length<=aL/\(a==ju)=aH/\
  ∃xs,KT H kvs xs/\h.DictOfH (tupleKind (dN P w)) a xs:=uV ok (.inl e)
end
def f6 (H:Hp)(a:J)(y:V)(r:Option V):Prop:=
 (∃kvs k,Rd H a (.dK kvs)/\y=kV k/\r=cE kvs k)\/∃kvs k b,Rd H a (.dT kvs)/\y=.ref b/\H b=B (.tup (k.map kV))/\r=cE kvs k
def qo (H:Hp)(a:J)(y v:V)(H':Hp):Prop:=
 (∃kvs k,H a=B (.dK kvs)/\y=kV k/\kvs.length<aL/\H'=M H a (.dK (putK kvs k v)))\/
 ∃kvs k b,H a=B (.dT kvs)/\y=.ref b/\H b=B (.tup (k.map kV))/\kvs.length<aL/\H'=M H a (.dT (putK kvs k v))
def f6.k {kvs:List (Key×V)}{k:Key}(e:H a=B (.dK kvs)):f6 H a (kV k) (cE kvs k):=.inl ⟨kvs,k,.inl e,O,O⟩
def f6.t {kvs:List (List Key×V)}{k:List Key}(e:H a=B (.dT kvs))(eb:H b=B (.tup (k.map kV))):f6 H a (.ref b) (cE kvs k):=.inr ⟨kvs,k,b,.inl e,O,eb,O⟩
def qo.k {kvs:List (Key×V)}{k:Key}(e:H a=B (.dK kvs))(hl:kvs.length<aL):qo H a (kV k) v (M H a (.dK (putK kvs k v))):=.inl ⟨kvs,k,e,O,hl,O⟩
section
variable{X:Cx}{Y:List (J×Obj)}{σ:St}{H:Hp}{s:aF}{a:J}{y v:V}{u r:aj}{o:Option V}{A:dO}{E:aj->aF->Prop}
def Inv.big (I:Inv X Y σ H s):ju<s.heap.objs.size:=by have h:jO<s.heap.objs.size:=(I.mod.glob.keeps I.bk).lt;exact JA (by decide) h
def aeN {Q:aj->aF->Prop}(hu:A.units+1<cLine)(I:Inv X Y σ H s)(g:f6 H a y (B v))(ry:RelV y u)(h:∀w' s',Inv X Y σ H s'->RelV v w'->Q w' s'):
  wpAny (model X.prog X.w) A (getItem (.ref a) u) Q E s:=by
 rcases g with⟨kvs,k,e,ey,l⟩|⟨kvs,k,b,e,ey,eb,l⟩
 .subst ey;obtain⟨z,hd,vs,rel,dd⟩:=tj I.aV e;obtain⟨w',hw,mJ⟩:=jN.some_of (v:=v) (o:=valueAt vs k) (by rw[l];exact rel.val k);exact wpAny_getItem_of (wM ry) dd.mapOf hw (h w' _ (I.tok _) mJ)
 .subst ey;cases(show u=cv b from ry)
  obtain⟨z,hd,xs,rel,dd⟩:=uV I.aV e;obtain⟨w',hw,mJ⟩:=jN.some_of (v:=v) (o:=(atKey xs k).map (·.2)) (by rw[l];exact rel.val k);obtain⟨p,hp,gk⟩:=Jk.mp hw;refine wpAny_getItem_heap (tupleKind_room_in1 hu) (wN I.aV eb) dd hp ?_;rw[gk];exact h w' _ (I.tok _) mJ
def aeO {Q:aj->aF->Prop}(hu:A.units+1<cLine)(I:Inv X Y σ H s)(g:f6 H a y o)(ry:RelV y u)(h:∀s',Inv X Y σ H s'->Q (.bool o.isSome) s'):
  wpAny (model X.prog X.w) A (compareOp .In u (.ref a)) Q E s:=by
 funext X Y σ H s a y u o A E Q
 rcases g with⟨kvs,k,e,ey,l⟩|⟨kvs,k,b,e,ey,eb,l⟩
 .subst ey;obtain⟨z,hd,vs,rel,dd⟩:=tj I.aV e;refine wpAny_in_of (wM ry) hd dd.mapOf ?_;rw[<-(rel.val k).Bl,<-l];exact h _ (I.tok _)
 .subst ey;cases(show u=cv b from ry)
  obtain⟨z,hd,xs,rel,dd⟩:=uV I.aV e;refine wpAny_in_heap (tupleKind_room_in1 hu) (wN I.aV eb) hd dd ?_;have q:=(rel.val k).Bl;rw[Jz]at q;rw[<-q,<-l];exact h _ (I.tok _)
def aeP {Q:aj->aF->Prop}(hu:A.units+1<cLine)(I:Inv X Y σ H s)(g:f6 H a y o)(ry:RelV y u)(h:∀s',Inv X Y σ H s'->Q (.bool (!o.isSome)) s'):
  wpAny (model X.prog X.w) A (compareOp .NotIn u (.ref a)) Q E s:=by
 rcases g with⟨kvs,k,e,ey,l⟩|⟨kvs,k,b,e,ey,eb,l⟩
 .subst ey;obtain⟨z,hd,vs,rel,dd⟩:=tj I.aV e;refine wpAny_notIn_of (wM ry) hd dd.mapOf ?_;rw[<-(rel.val k).Bl,<-l];exact h _ (I.tok _)
 .subst ey;cases(show u=cv b from ry)
  obtain⟨z,hd,xs,rel,dd⟩:=uV I.aV e;refine wpAny_notIn_heap (tupleKind_room_in1 hu) (wN I.aV eb) hd dd ?_;have q:=(rel.val k).Bl;rw[Jz]at q;rw[<-q,<-l];exact h _ (I.tok _)
def EI {t':Nat}(I:Inv X Y σ H s)(mu:sI (H a))(hs:jw a s.heap h')(he:∃q,h'.get? a=B q)(new:d9 X.prog X.w (M H a ob) h' a ob):
  Inv X Y σ (M H a ob) {s with heap:=h',toks:=t'}:=
 I.write (x:=a) (e:=a) mu (.inl O) (λb q hb z=>(hs.2 b hb).trans z) he new
def JB {kvs:List (Key×V)}{vs:List (Key×aj)}(z:kvs.length<=aL)(hd:(a==ju)=aH)(rel:KV kvs vs)(dd:h'.DictOf (dN P w) a vs):
  d9 P w H' h' a (.dK kvs):=⟨z,hd,vs,rel,dd⟩
def aeQ {Q:Unit->aF->Prop}(hu:A.units+1<cLine)(I:Inv X Y σ H s)(g:qo H a y v H')(ry:RelV y u)(rv:RelV v r)(h:∀s',Inv X Y σ H' s'->Q () s'):
  wpAny (model X.prog X.w) A (setItem (.ref a) u r) Q E s:=by
 funext X Y σ H s a y v u r A E H' Q
 rcases g with⟨kvs,k,e,ey,l,eH⟩|⟨kvs,k,b,e,ey,eb,l,eH⟩
 .subst ey eH;obtain⟨z,hd,vs,rel,dd⟩:=Bm I.aV e;have hz:vs.length<=aL:=by rw[<-rel.length];exact z
  have hl:(putK kvs k v).length<=aL:=by have:=Bk kvs k v;lia
  refine wpAny_setItem_pairs (hsz:=hz) (wM ry) dd λh' nV hs=>h _ ?_;have he:∃q,h'.get? a=B q:=let⟨q,_,_,hq,_⟩:=nV;⟨q,hq⟩;exact EI I (by rw[e];exact mH) hs he (JB hl hd (rel.put k rv) nV)
 .subst ey eH;cases(show u=cv b from ry)
  obtain⟨z,hd,xs,rel,dd⟩:=EH I.aV e;have hz:xs.length<=aL:=by rw[<-km rel];exact z
  have hl:(putK kvs k v).length<=aL:=by have:=Bk kvs k v;lia
  refine wpAny_setItem_heap (hsz:=hz) (tupleKind_room_in1 hu) (wN I.aV eb) dd λh' nV hs=>h _ ?_;obtain⟨q,es,ep,hq,h2,h3,h4,_,h5⟩:=nV;refine EI I (by rw[e];exact mH) hs ⟨q,hq⟩ ⟨hl,hd,_,(rel.put k eb rv).keeps λc ys ec=>?_,q,es,ep,hq,h2,h3,h4,h5⟩;rw[aa (bE ec e (λz=>nomatch z))];exact ec
end
section
variable{X:Cx}{Y:List (J×Obj)}{σ:St}{H:Hp}{s:aF}{a:J}{kvs:List (Key×V)}{k:Key}{u:aj}{A:dO}{E:aj->aF->Prop}
def aeR {Q:aj->aF->Prop}(I:Inv X Y σ H s)(e:Rd H a (.dK kvs))(h:∀t s',Inv X Y σ H s'->Q (.int kvs.length t) s'):wpAny (model X.prog X.w) A (call (.builtin "len") [.ref a]) Q E s:=by obtain⟨z,hd,vs,rel,dd⟩:=tj I.aV e;refine call_len_dict hd dd (by rw[<-rel.length];rw[wC]at z;lia) ?_;rw[<-rel.length];exact h _ _ (I.tok _)
end
def Si (i:bK):Prop:=∀ov iv,subscripted i aH ov iv=operate [ov,iv] (getItem ov iv)
def aeS {E:aj->aF->Prop}{env:Env}{pos:Pos}{T id:String}{Q:aj->aF->Prop}
  (hl:typeLookup (.type T) "__getitem__"=pure (B (.builtin id))) (hs:Si slice)
  (h:wpAny (model prog w) A (eval value env) (λo s₁=>wpAny (model prog w) A (eval slice env) (λi s₂=>s₂.TypeIs o T/\wpAny (model prog w) A (getItem o i) Q E s₂) E s₁) E s):
  wpAny (model prog w) A (eval (.Subscript value slice pos) env) Q E s:=by
 refine IW (wpAny_mono h (λo s₁ h₁=>wpAny_mono h₁ (λi s₂ h₂=>?_) λ_ _ x=>x) λ_ _ x=>x);obtain⟨hT,h₂⟩:=h₂;unfold subscriptTail;refine aJ ?_;rw[getitemInPython_of_ne hT.not_modules];refine aJ (wpAny_specialOf hT hl ?_)
 have fin:wpAny (model prog w) A (subscripted slice aH o i) (λr s₃=>wpAny (model prog w) A (letTemporaryGo value o r>>=λ_=>pure r) Q E s₃) E s₂:=by rw[hs o i];exact wpAny_operating (wpAny_mono h₂ (λr s₃ h₃=>aJ (wpAny_letTemporaryGo (bj h₃))) λ_ _ x=>x)
 first
  |exact bj (aJ fin)
  |exact aJ (bj (aJ fin))
  |exact aJ fin
def aeT {Y:List (J×Obj)}{o:Option V}(I:Inv X Y σ H s)(g:f6 H a y o):s.TypeIs (.ref a) "dict":=by
 rcases g with⟨kvs,k,e,_,_⟩|⟨kvs,k,b,e,_,_,_⟩
 .obtain⟨_,_,vs,_,dd⟩:=tj I.aV e;exact dd.typeIs
 .obtain⟨_,_,xs,_,dd⟩:=uV I.aV e;exact dd.typeIs
def aeU (td ty:TE):TE:=λσ H Q=>td σ H λx H1=>ty σ H1 λy H2=>e_2 λa v=>x=.ref a/\f6 H2 a y (B v)/\Q v H2
def aeV (ty td:TE):TE:=λσ H Q=>ty σ H λy H1=>td σ H1 λx H2=>e_2 λa o=>x=.ref a/\f6 H2 a y o/\Q (.bl o.isSome) H2
def aeW (ty td:TE):TE:=λσ H Q=>ty σ H λy H1=>td σ H1 λx H2=>e_2 λa o=>x=.ref a/\f6 H2 a y o/\Q (.bl (!o.isSome)) H2
def aeX (td ty tv:TE):TS:=λD σ H=>tv σ H λv H1=>td σ H1 λx H2=>ty σ H2 λy H3=>e_2 λa H4=>x=.ref a/\qo H3 a y v H4/\D.nx σ H4
section
variable{X:Cx}{o i e value:bK}{pos pos' kq:Pos}{td ty tv:TE}
def lU (hu:X.A.units+1<cLine)(ho:PE X o td)(hi:PE X i ty)(hs:Si i):PE X (.Subscript o i pos) (aeU td ty):=by intro Y s σ H Q I h;refine aeS PySem.F.slot_dict_getitem.lookup hs (ba (ho Y s σ H _ I h) λu s1 ⟨x,H1,I1,rx,q1⟩=>ba (hi Y s1 σ H1 _ I1 q1) λiv s2 ⟨y,H2,I2,ry,a,v,ex,g,q2⟩=>?_);subst ex;obtain rfl:u=cv a:=rx;exact⟨aeT I2 g,aeN hu I2 g ry λw' s3 I3 mJ=>⟨v,H2,I3,mJ,q2⟩⟩
def yJ (hu:X.A.units+1<cLine)(hi:PE X i ty)(ho:PE X o td):PC X .In i o (aeV ty td):=by intro Y s σ H Q I h;refine ba (hi Y s σ H _ I h) λiv s1 ⟨y,H1,I1,ry,q1⟩=>ba (ho Y s1 σ H1 _ I1 q1) λu s2 ⟨x,H2,I2,rx,a,ov,ex,g,q2⟩=>?_;subst ex;obtain rfl:u=cv a:=rx;exact aeO hu I2 g ry λs3 I3=>⟨.bl ov.isSome,H2,I3,O,q2⟩
def tm (hu:X.A.units+1<cLine)(hi:PE X i ty)(ho:PE X o td):PC X .NotIn i o (aeW ty td):=by intro Y s σ H Q I h;refine ba (hi Y s σ H _ I h) λiv s1 ⟨y,H1,I1,ry,q1⟩=>ba (ho Y s1 σ H1 _ I1 q1) λu s2 ⟨x,H2,I2,rx,a,ov,ex,g,q2⟩=>?_;subst ex;obtain rfl:u=cv a:=rx;exact aeP hu I2 g ry λs3 I3=>⟨.bl (!ov.isSome),H2,I3,O,q2⟩
def nX (hu:X.A.units+1<cLine)(ho:PE X o td)(hi:PE X i ty)(hv:PE X value tv)(hs:sO value (B (.Subscript o i pos')) pos.line X.env=pure aH):
  PS X (.Assign [.Subscript o i pos'] value pos) (aeX td ty tv):=by intro Y s σ H D I h;refine wpAny_Assign_Subscript (ba (hv Y s σ H _ I h) λr s1 ⟨v,H1,I1,rv,q1⟩=>ba (ho Y s1 σ H1 _ I1 q1) λu s2 ⟨x,H2,I2,rx,q2⟩=>ba (hi Y s2 σ H2 _ I2 q2) λiv s3 ⟨y,H3,I3,ry,a,H4,ex,g,q3⟩=>?_) hs;subst ex;obtain rfl:u=cv a:=rx;exact aeQ hu I3 g ry rv λs4 I4=>⟨σ,H4,I4,q3⟩
end
def Sj (h:a9)(hb:ju<h.objs.size):d9 P w H (h.push {cls:=.type "dict",data:=.dict #[]}) h.objs.size (.dK []):=
 ⟨iP _,beq_eq_false_iff_ne.mpr (aP (fZ hb)),[],.nil,Heap.DictOf.new h⟩
def aeY (h:a9)(hb:ju<h.objs.size):d9 P w H (h.push {cls:=.type "dict",data:=.dict #[]}) h.objs.size (.dT []):=
 ⟨iP _,beq_eq_false_iff_ne.mpr (aP (fZ hb)),[],.nil,_,#[],0,fK _ O,⟨O,O,O⟩,O,O,j5⟩
def aeZ:TE:=λ_ H Q=>∀p,H p=N->Q (.ref p) (M H p (.dK []))
def ae0:TE:=λ_ H Q=>∀p,H p=N->Q (.ref p) (M H p (.dT []))
section
variable{X:Cx}{pos:Pos}
def yK:PE X (.Dict [] [] pos) aeZ:=λY s σ H Q I h=>
 Sk ⟨.ref s.heap.objs.size,_,I.laid (a:=s.heap.objs.size) (o:=.dK []) (t':=s.toks) (λ_ _ q=>dP _ q) (aX _) (Sj s.heap I.big),O,h _ (I.aV.fresh (aX _))⟩
def Bn:PE X (.Dict [] [] pos) ae0:=λY s σ H Q I h=>
 Sk ⟨.ref s.heap.objs.size,_,I.laid (a:=s.heap.objs.size) (o:=.dT []) (t':=s.toks) (λ_ _ q=>dP _ q) (aX _) (aeY s.heap I.big),O,h _ (I.aV.fresh (aX _))⟩
end
def JC:List (TE×TE)->St->Hp->(List (V×V)->Hp->Prop)->Prop
 |[],_,H,Q=>Q [] H
 |(tk,tv)::r,σ,H,Q=>tk σ H λx H1=>tv σ H1 λy H2=>JC r σ H2 λps H3=>Q ((x,y)::ps) H3
abbrev VV:List (V×V)->List (aj×aj)->Prop:=Paired λp q=>RelV p.1 q.1/\RelV p.2 q.2
def EJ (X:Cx)(pos:Pos)(keys:List (Option bK))(values:List bK)(tq:List (TE×TE)):Prop:=
 ∀(Y:List (J×Obj))(s:aF)(σ:St)(H:Hp)(Q:List (V×V)->Hp->Prop),Inv X Y σ H s->JC tq σ H Q->
  wpAny (model X.prog X.w) X.A (evalPairs (pairTrees keys values X.env pos)) (λvs s'=>∃ps H',Inv X Y σ H' s'/\VV ps vs/\Q ps H') X.xe s
def ae1 {pos:Pos}:EJ X pos [] [] []:=λY s σ H Q I h=>pairTrees_nil_walk ⟨[],H,I,.nil,h⟩
def ae2 {pos:Pos}{ks:List (Option bK)}{vs:List bK}{tk tv:TE}{tq:List (TE×TE)}(hk:PE X k tk)(hv:PE X v tv)(hr:EJ X pos ks vs tq):
  EJ X pos (B k::ks) (v::vs) ((tk,tv)::tq):=λY s σ H Q I h=>
 pairTrees_cons_walk (ba (hk Y s σ H _ I h) λu s1 ⟨x,H1,I1,rx,q1⟩=>ba (hv Y s1 σ H1 _ I1 q1) λw2 s2 ⟨y,H2,I2,ry,q2⟩=>ba (hr Y s2 σ H2 _ I2 q2) λws s3 ⟨ps,H3,I3,rel,q3⟩=>⟨(x,y)::ps,H3,I3,.cons ⟨rx,ry⟩ rel,q3⟩)
noncomputable def Bo (kvs more:List (Key×V)):List (Key×V):=more.foldl (λacc kv=>putK acc kv.1 kv.2) kvs
def KV.merge:∀{more:List (Key×V)}{rs:List (Key×aj)}{kvs:List (Key×V)}{vs:List (Key×aj)},KV more rs->KV kvs vs->KV (Bo kvs more) (merged vs rs):=by
 intro more rs kvs vs r;unfold KV at r;induction r generalizing kvs vs with
 |nil=>intro q;exact q
 |@cons p q ps qs h t ih=>
  intro r0
  have e:KV (putK kvs p.1 p.2) (stored vs q.1 q.2):=by have:=r0.put p.1 h.2;grind
  exact ih e
def Sn:∀(more kvs:List (Key×V)),(Bo kvs more).length<=kvs.length+more.length
 |[],kvs=>by show kvs.length<=kvs.length+0;lia
 |p::r,kvs=>by have h1:=Sn r (putK kvs p.1 p.2);have h2:=Bk kvs p.1 p.2;show(Bo (putK kvs p.1 p.2) r).length<=_;grind
theorem So:∀{kvs:List (Key×V)}{ws:List (aj×aj)},VV (kvs.map λkv=>(kV kv.1,kv.2)) ws->∃rs,Carries (dN P w) ws rs/\KV kvs rs
 |[],_,r=>by rw[wG]at r;cases r;exact⟨[],mH,.nil⟩
 |p::kvs,_,r=>by
  rw[dX]at r;cases r with
  |@cons a b as bs h t=>obtain⟨rs,c,q⟩:=So (P:=P) (w:=w) t;obtain⟨b1,b2⟩:=b;exact⟨(p.1,b2)::rs,⟨wM h.1,O,c⟩,.cons ⟨O,h.2⟩ q⟩
def ae3 (tq:List (TE×TE)):TE:=λσ H Q=>∀p,H p=N->JC tq σ (M H p (.dK [])) λps H2=>H2 p=B (.dK [])/\∃kvs:List (Key×V),ps=kvs.map (λkv=>(kV kv.1,kv.2))/\kvs.length<=15/\Q (.ref p) (M H2 p (.dK (Bo [] kvs)))
def ae4 {pos:Pos}{keys:List (Option bK)}{values:List bK}{tq:List (TE×TE)}(h:EJ X pos keys values tq)(j6:keys.all (·.isSome)=L)(hl:keys.length=values.length)(h0:keys≠[])
  (h15:keys.length<=15):PE X (.Dict keys values pos) (ae3 tq):=by
 funext X pos keys values tq
 intro Y s σ H Q I q;funext Y s σ H Q;have hn:=I.aV.fresh (aX s.heap.objs.size)
 have I1:=I.laid (a:=s.heap.objs.size) (o:=.dK []) (h':=s.heap.push {cls:=.type "dict",data:=.dict #[]}) (t':=s.toks) (λ_ _ q=>dP _ q) (aX _) (Sj s.heap I.big)
 refine wpAny_Dict_walk (knd:=dN X.prog X.w) j6 hl h0 h15 (ba (h Y _ σ _ _ I1 (q _ hn)) λws s2 ⟨ps,H2,I2,rel,e,kvs,ep,lk,q2⟩=>?_);subst ep;obtain⟨rs,c,rk⟩:=So (P:=X.prog) (w:=X.w) rel;obtain⟨z,hd,wO,r0,dd⟩:=Bm I2.aV e;cases r0
 refine⟨rs,c,dd,λh' nV hs=>⟨.ref s.heap.objs.size,_,?_,O,q2⟩⟩
 have hz:(Bo [] kvs).length<=aL:=by have h1:=Sn kvs [];rw[mQ]at h1;rw[wC];lia
 have he:∃q,h'.get? s.heap.objs.size=B q:=let⟨q,_,_,hq,_⟩:=nV;⟨q,hq⟩;exact EI I2 (by rw[e];exact mH) hs he (JB hz hd (rk.merge .nil) nV)
structure M1 (X:Cx)(o:bK)(m:ao)(apos:Pos)(e:bK)(dI:Pos):Prop where
 ak:qe o m X.env (eval o X.env)=eval o X.env
 cz:((backTo dI (starEach [e] X.env)).all (λx=>!x.1)&&(backToKw dI (keywordEach [] X.env)).all (λx=>x.1.isSome)&&decide (([e]:List bK).length+([]:List Keyword).length+(if([]:List Keyword).isEmpty then 0 else 1)<30))=L
 line:(apos.endLine==dI.line)=L
 trees:backTo dI (starEach [e] X.env)=[(aH,eval e X.env)]
structure M2 (X:Cx)(o:bK)(m:ao)(apos:Pos)(e f:bK)(dI:Pos):Prop where
 ak:qe o m X.env (eval o X.env)=eval o X.env
 cz:((backTo dI (starEach [e,f] X.env)).all (λx=>!x.1)&&(backToKw dI (keywordEach [] X.env)).all (λx=>x.1.isSome)&&decide (([e,f]:List bK).length+([]:List Keyword).length+(if([]:List Keyword).isEmpty then 0 else 1)<30))=L
 line:(apos.endLine==dI.line)=L
 trees:backTo dI (starEach [e,f] X.env)=[(aH,eval e X.env),(aH,eval f X.env)]
def JD (H:Hp)(a:J):Prop:=(∃kvs,Rd H a (.dK kvs))\/∃kvs,Rd H a (.dT kvs)
def Sq {Y:List (J×Obj)}(I:Inv X Y σ H s)(d:JD H a):
  s.TypeIs (.ref a) "dict"/\(∀b,cv a=.ref b->∃ob,s.heap.get? b=B ob/\ob.dict=N)/\(a==ju)=false:=by
 funext X σ H s a Y
 rcases d with⟨kvs,e⟩|⟨kvs,e⟩
 .obtain⟨_,hd,vs,_,dd⟩:=tj I.aV e;refine⟨dd.typeIs,λb q=>?_,hd⟩;cases q
  obtain⟨ob,_,_,h1,h2,_⟩:=dd;exact⟨ob,h1,h2.2.1⟩
 .obtain⟨_,hd,xs,_,dd⟩:=uV I.aV e;refine⟨dd.typeIs,λb q=>?_,hd⟩;cases q
  obtain⟨ob,_,_,h1,h2,_⟩:=dd;exact⟨ob,h1,h2.2.1⟩
section
variable{X:Cx}{Y:List (J×Obj)}{σ:St}{H:Hp}{s:aF}{a:J}{y d:V}{u r:aj}{o:Option V}{A:dO}{E:aj->aF->Prop}
def ae6 {Q:aj->aF->Prop}(hu:A.units+1<cLine)(I:Inv X Y σ H s)(g:f6 H a y o)(ry:RelV y u)(rd:RelV d r)(h:∀w' s',Inv X Y σ H s'->RelV (o.getD d) w'->Q w' s'):
  wpAny (model X.prog X.w) A (call (.builtin "dict.get") [.ref a,u,r]) Q E s:=by
 funext X Y σ H s a y d u r o A E Q
 rcases g with⟨kvs,k,e,ey,l⟩|⟨kvs,k,b,e,ey,eb,l⟩
 .subst ey;obtain⟨z,hd,vs,rel,dd⟩:=tj I.aV e;refine call_meetsIn JE dd.typeIs Sr (Ss _ _ _) (meets_dict_get_default (dN X.prog X.w) a (wM ry) hd r) ⟨_,dd.mapOf,h _ _ (I.tok _) ?_⟩;rw[l];exact(rel.val k).getD rd
 .subst ey;cases(show u=cv b from ry)
  obtain⟨z,hd,xs,rel,dd⟩:=uV I.aV e;refine call_meetsIn JE dd.typeIs Sr (Ss _ _ _) (meetsH_dict_get_default (tupleKind (dN X.prog X.w)) a b hd r) ⟨tupleKind_room_in1 hu,k,xs,wN I.aV eb,dd,h _ _ (I.tok _) ?_⟩;rw[l];exact(rel.val k).getD rd
end
def ae7 (td ty tx:TE):TE:=λσ H Q=>td σ H λx H1=>∃a,x=.ref a/\JD H1 a/\ty σ H1 λy H2=>tx σ H2 λz H3=>∃o,f6 H3 a y o/\Q (o.getD z) H3
section
variable{X:Cx}{o e f:bK}{apos dI:Pos}{td ty tx:TE}
def Su (hu:X.A.units+1<cLine)(ho:PE X o td)(he:PE X e ty)(hf:PE X f tx)(m:M2 X o "get" apos e f dI):PE X (.Call (.Attribute o "get" apos) [e,f] [] dI) (ae7 td ty tx):=by intro Y s σ H Q I h;refine Bp m.ak m.cz m.line Bq JE PySem.F.type_dict_get (ba (ho Y s σ H _ I h) λu s1 ⟨x,H1,I1,rx,a,ex,d,q1⟩=>?_);subst ex;obtain rfl:u=cv a:=rx;obtain⟨t1,t2,_⟩:=Sq I1 d;refine⟨t1,t2,?_⟩;rw[m.trees];refine Es O (Jd (sX (ba (he Y s1 σ H1 _ I1 q1) λiv s2 ⟨y,H2,I2,ry,q2⟩=>sX (ba (hf Y s2 σ H2 _ I2 q2) λfv s3 ⟨z,H3,I3,rz,ov,g,q3⟩=>uL ?_))));exact ae6 hu I3 g ry rz λw' s4 I4 mJ=>⟨_,H3,I4,mJ,q3⟩
end
section
variable{X:Cx}{Y:List (J×Obj)}{σ:St}{H:Hp}{s:aF}{a:J}{kvs:List (Key×V)}{A:dO}{E:aj->aF->Prop}
def ae8 {Q:aj->aF->Prop}(I:Inv X Y σ H s)(e:Rd H a (.dK kvs))(h:∀p s',H p=N->Inv X Y σ (M H p (.dK kvs)) s'->Q (.ref p) s'):wpAny (model X.prog X.w) A (call (.type "dict") [.ref a]) Q E s:=by obtain⟨z,hd,vs,rel,dd⟩:=tj I.aV e;refine kt_call_dict hd dd (by rw[<-rel.length];exact z) λh' nV hs=>?_;refine h _ _ (I.aV.fresh (aX _)) (I.laid (a:=s.heap.objs.size) (o:=.dK kvs) (t':=s.toks) (λb q hq=>?_) (aX _) (JB z (beq_eq_false_iff_ne.mpr (aP (fZ I.big))) rel nV));exact(hs.2 b (fZ (cU hq))).trans (dP _ hq)
end
section
variable{X:Cx}{Y:List (J×Obj)}{σ:St}{H:Hp}{s:aF}{a:J}{y:V}{u:aj}{A:dO}{E:aj->aF->Prop}
end
section
variable{prog:bx}{w:World}{A:dO}{E:aj->aF->Prop}
end
section
variable{X:Cx}
end
def Sv:ko "reversed"=B (.type "reversed"):=by decide+kernel
section
variable{X:Cx}{Y:List (J×Obj)}{σ:St}{H:Hp}{s:aF}{h':a9}
def Inv.Br {t':Nat}{ch:List J}{T:J}{ob:HO}(I:Inv X Y σ H s)(k:∀b o,b∉ch->s.heap.get? b=B o->h'.get? b=B o)(hf:∀b∈ch,qb X Y H b)(hT:s.heap.objs.size<=T)
  (new:d9 X.prog X.w (M H T ob) h' T ob):Inv X Y σ (M H T ob) {s with heap:=h',toks:=t'}:=by
 have hn:H T=none:=I.aV.fresh hT
 have nit:∀b u,H b=B u->b∉ch:=λb u e z=>by have q:=(hf b z).1;rw[q]at e;cases e
 refine I.step (g':=s.gens) (d':=s.drawn) (ch:=ch) (λb hb=>⟨(hf b hb).2.2.2.1,(hf b hb).2.1,(hf b hb).2.2.2.2.1,(hf b hb).2.2.2.2.2⟩) (λb o _ _ hc e _=>k b o hc e) (λb o _ _ hc e _=>⟨o.slots,k b o hc e⟩)
  (λb o _ e n=>?_) (λb o hc e=>⟨o,k b o hc e⟩) (λb xs e=>?_) (λb o u e=>?_) (λb ps e=>⟨#[],?_⟩) (λm hm=>?_) (λb u e=>?_) I.bare
 .rw[aa (fZ (jh (cU e) hT))];exact n
 .rw[aa (aK e hn)];exact e
 .rw[aa (aK e hn)];exact e
 .rw[aa (aK e hn),e];simp
 .obtain⟨o,es,ep,ho,r⟩:=hm;exact⟨o,es,ep,k _ o (λz=>(hf _ z).2.1 O) ho,r⟩
 .by_cases hb:b=T
  .subst hb;rw[ah]at e;cases e
   exact new
  .rw[aa hb]at e;refine(I.aV b u e).oF (λc v hc q=>k c v ?_ q) (λc q=>by rw[aa (aK q hn)];exact q) λc xs q=>by rw[aa (aK q hn)];exact q
   rfl'
def Inv.lock (I:Inv X Y σ H s)(h:H d=B u)(mu:sI (B u)):∃od,Inv X Y σ (M H d (.bF od u)) s:=by
 funext X Y σ H s d u
 have x:=I.aV d u h
 have ex:∃od,s.heap.get? d=B od:=by
  cases u with
  |Z xs=>obtain⟨_,_,_,_,e⟩:=x;grind
  |dK kvs=>obtain⟨_,_,_,_,o,_,_,e,_⟩:=x;grind
  |dT kvs=>obtain⟨_,_,_,_,o,_,_,e,_⟩:=x;grind
  |set S n=>obtain⟨o,_,_,_,e,_⟩:=x;grind
  |ins C dx fs=>obtain⟨_,_,_,e,_⟩:=x;grind
  |ext φ=>obtain⟨_,⟨_,e⟩,_⟩:=x;grind
  |_=>exact lM mu
 obtain⟨od,e⟩:=ex
 have new:d9 X.prog X.w (M H d (.bF od u)) s.heap d (.bF od u):=by
  refine⟨e,x.oF (λb v _ q=>q) (λb q=>?_) λb xs q=>?_⟩
  .rw[aa (λz=>by rw[z,h]at q;cases q;exact mu)];exact q
  .rw[aa (λz=>by rw[z,h]at q;cases q;exact mu)];exact q
 exact⟨od,I.write (x:=d) (e:=d) (t':=s.toks) (h':=s.heap) (by grind) (.inl O) (λb v _ q=>q) ⟨od,e⟩ new⟩
def Inv.Bs (I:Inv X Y σ H s)(h:H d=B u)(mu:sI (B u)):∀o' u',X.wj d≠B (.bF o' u'):=λo' u' e=>by
 have q:=I.ak.pV d o' u' e;rw[h]at q;cases q
 exact mu
def Inv.unlock (I:Inv X Y σ H s)(h:H d=B (.bF od u))(hn:∀o' u',X.wj d≠B (.bF o' u')):Inv X Y σ (M H d u) s:=by
 have yL:∀b o,H b=B o->(∀o' u',o≠.bF o' u')->b≠d:=λb o e ck z=>by grind
 have neN:∀b,H b=N->b≠d:=λb e z=>by rw[z,h]at e;cases e
 refine⟨I.ok,I.os,I.bare,⟨I.ak.keep,I.ak.slot,λb o e n hx=>?_,I.ak.there,λb xs e=>?_,λb o x e=>?_,λb ps e=>?_⟩,I.loc,I.cell,?_,λx c e=>?_,λp hp=>?_,λb o e=>?_,I.len⟩
 .rw[aa (neN b (I.ak.free b o e n hx))];exact I.ak.free b o e n hx
 .have q:=I.ak.pU b xs e;rw[aa (yL b _ q (λ_ _ z=>nomatch z))];exact q
 .have q:=I.ak.pV b o x e;rw[aa (λz=>by grind)];exact q
 .obtain⟨m,q⟩:=I.ak.uC b ps e;exact⟨m,by rw[aa (yL b _ q (λ_ _ z=>nomatch z))];exact q⟩
 .rw[aa (neN _ I.free)];exact I.free
 .rw[aa (neN c (I.nJ x c e))];exact I.nJ x c e
 .obtain⟨e,n,r⟩:=I.pin p hp;exact⟨e,by rw[aa (neN _ n)];exact n,r⟩
 .by_cases hb:b=d
  .rw[hb,ah]at e;cases e
   rw[hb];obtain⟨_,x⟩:=I.aV d _ h;exact x.oF (λc v _ q=>q) (λc q=>by rw[aa (yL c _ q (λ_ _ z=>nomatch z))];exact q) λc xs q=>by rw[aa (yL c _ q (λ_ _ z=>nomatch z))];exact q
  .rw[aa hb]at e;exact(I.aV b o e).oF (λc v _ q=>q) (λc q=>by rw[aa (yL c _ q (λ_ _ z=>nomatch z))];exact q) λc xs q=>by rw[aa (yL c _ q (λ_ _ z=>nomatch z))];exact q
end
def ae9 (t:TS):TS:=λD σ H=>e_2 λd u=>H d=B u/\sI (B u)/\∀od,t ⟨λσ' H'=>H' d=B (.bF od u)/\D.nx σ' (M H' d u),λv H'=>H' d=B (.bF od u)/\D.rt v (M H' d u),λσ' H'=>H' d=B (.bF od u)/\D.bk σ' (M H' d u),λσ' H'=>H' d=B (.bF od u)/\D.ct σ' (M H' d u)⟩ σ (M H d (.bF od u))
def ae' (t:TE):TE:=λσ H Q=>e_2 λd u=>H d=B u/\sI (B u)/\∀od,t σ (M H d (.bF od u)) λv H'=>H' d=B (.bF od u)/\Q v (M H' d u)
section
variable{X:Cx}
def uW {st:hX}{t:TS}(h:PS X st t):PS X st (ae9 t):=by
 intro Y s σ H D I hw;obtain⟨d,u,hd,mu,hw⟩:=hw;obtain⟨od,I1⟩:=I.lock hd mu;refine ba (h Y s σ _ _ I1 (hw od)) λf s1 q=>?_;cases f with
 |next=>obtain⟨σ',H',I2,e,q⟩:=q;exact⟨σ',_,I2.unlock e (I.Bs hd mu),q⟩
 |brk=>obtain⟨σ',H',I2,e,q⟩:=q;exact⟨σ',_,I2.unlock e (I.Bs hd mu),q⟩
 |cont=>obtain⟨σ',H',I2,e,q⟩:=q;exact⟨σ',_,I2.unlock e (I.Bs hd mu),q⟩
 |ret v=>obtain⟨x,σ',H',I2,r,e,q⟩:=q;exact⟨x,σ',_,I2.unlock e (I.Bs hd mu),r,q⟩
def JF {t:TE}(h:PE X e t):PE X e (ae' t):=by intro Y s σ H Q I hw;obtain⟨d,u,hd,mu,hw⟩:=hw;obtain⟨od,I1⟩:=I.lock hd mu;refine ba (h Y s σ _ _ I1 (hw od)) λv s1 ⟨x,H1,I2,r,e2,q⟩=>?_;exact⟨x,_,I2.unlock e2 (I.Bs hd mu),r,q⟩
def EK {Y:List (J×Obj)}{R:It->Hp->Prop}{cT:It}{tn:Nat->a9->Prop}{tk:Nat}(I:Inv X Y σ H s)(o:Obj)
  (T:Turn X.prog X.w X.K tg cT [s.heap.objs.size] s.heap.objs.size tn) (st:tn 0 (s.heap.push o)) (q:R cT H):D8 X Y σ tg R (.ref s.heap.objs.size) {s with heap:=s.heap.push o,toks:=tk}:=by
 refine⟨s.heap.objs.size,[s.heap.objs.size],tn,cT,H,O,I.kept λb ob e=>dP _ e,T,st,λb hb=>?_,q⟩;have e:b=s.heap.objs.size:=by grind
 subst e;exact I.uG (aX _) (I.aV.fresh (aX _))
end
section
variable{X:Cx}{tg:bK}
end
def Sw (K:aM)(a:J)(n:Nat):It:=
 ⟨λi H=>i<n/\∃(xs:List V)(x:V),aC K H a xs/\xs[n-1-i]?=B x,λi H x H'=>H'=H/\∀xs,aC K H a xs->xs[n-1-i]?=B x,λi _=>n<=i⟩
def afa {P:bx}{w:World}{K:aM}{tg:bK}(a it:J)(n:Nat):Turn P w K tg (Sw K a n) [it] it (λi h=>i<=n/\h.IsRevIter it a ((n:Int)-1-(i:Nat)))where
 mem:=by simp
 obj:=λi h st b hb=>by
  have e:b=it:=by grind
  subst e;obtain⟨_,o,e,c,d⟩:=st;grind
 keep:=λi h h' st k=>⟨st.1,st.2.at λo e=>k it (by simp) o e⟩
 item:=by
  intro X hP hw hK hc i Y s σ H E I hf st hg;subst hP hw hK;obtain⟨jo,xs,x,hq,hx⟩:=hg;obtain⟨aI,rv,p,hz⟩:=I.list hq;obtain⟨u,hu,ru⟩:=rv.get hx;obtain⟨f0,f1,f2,f3,f4,f5⟩:=hf it (by simp);obtain⟨_,hit⟩:=st;have e1:(n:Int)-1-((i:Nat):Int)=((n-1-i:Nat):Int):=by lia
  rw[e1]at hit;refine wpAny_pyNext_rev_item hit p.isList (x:=u) (by simpa using hu) λh' fT sb=>?_;have e2:((n-1-i:Nat):Int)-1=(n:Int)-1-((i+1:Nat):Int):=by lia
  rw[e2]at fT;have I1:Inv X Y σ H {s with heap:=h'}:=I.turned (t':=s.toks) (λb o hb e=>(sb.2 b hb).trans e) f0 f1 f3 f4 f5;obtain⟨o,e,c,d⟩:=id fT;exact⟨u,O,AM (s:={s with heap:=h'}) e c d (by decide) ⟨x,H,I1,ru,⟨O,λys hy=>by rw[I.D5 hy hq];exact hx⟩,⟨jo,fT⟩,λb hb=>(hf b hb).1⟩⟩
 done:=by
  intro X hP hw hK hc i Y s σ H E I hf st hg;subst hP hw hK;obtain⟨f0,f1,f2,f3,f4,f5⟩:=hf it (by simp);obtain⟨jo,hit⟩:=st;have JG:n<=i:=hg;have e1:(n:Int)-1-((i:Nat):Int)=-1:=by lia
  rw[e1]at hit;exact wpAny_pyNext_rev_end (I.ok.hd hc) hit λh' eb=>⟨O,I.turned (t':=s.toks) (λb o hb e=>eb b o hb e) f0 f1 f3 f4 f5⟩
 self:=λA i s Q E st h=>wpAny_pyIter_revIter st.2 h
def afb (K:aM)(ta:TA):TI:=λσ H R=>ta σ H λvs H1=>e_2 λ(a:J)(xs:List V)=>vs=[.ref a]/\aC K H1 a xs/\R (Sw K a xs.length) H1
section
variable{X:Cx}{tg:bK}
def JH {e:bK}{ta:TA}{p pos:Pos}(hg:Gl X "reversed")(hm:X.mg "reversed"=N)(ha:PA X [e] ta)(hs:starEach [e] X.env=[(aH,eval e X.env)]:=by rfl):PI X tg (.Call (.Name "reversed" p) [e] [] pos) (afb X.K ta):=by
 funext X tg e ta p pos
 intro Y s σ H R I h;funext Y s σ H R;refine Call_ (p0 I hg hm Sv (uI (ba (ha pos Y s σ H _ I h) λus s1 ⟨vs,H1,I1,r1,q1⟩=>?_) hs O));obtain⟨a,xs,e,hq,q⟩:=q1;subst e;cases r1 with
 |cons r rr=>
  cases rr
  cases r
  obtain⟨aI,rv,p',hz⟩:=I1.list hq;have hl:=rv.length;have e1:((aI.toArray.size:Nat):Int)-1=(xs.length:Int)-1-((0:Nat):Int):=by grind
  refine Sx p'.isList (wpAny_pyIter_revIter (l:=a) (i:=((aI.toArray.size:Nat):Int)-1) ⟨_,fK _ O,O,O⟩ ?_);refine EK (tk:=s1.toks) I1 _ (afa a _ xs.length) ⟨iP _,?_⟩ q;rw[<-e1];exact⟨_,fK _ O,O,O⟩
end
section
variable{prog:bx}{w:World}{A:dO}{E:aj->aF->Prop}{s:aF}
def JI {es:Array kz}{ep:Nat}{Q:aj->aF->Prop}(hd:(d==ju)=aH)(ho:s.heap.get? d=B o)(hc:o.ExactDict)(gI:o.data=.dict es ep)
  (hQ:Q (.ref s.heap.objs.size) {s with heap:=s.heap.push {cls:=.type "dict_keyiterator",data:=.fields #[.ref d,.int 0 0,.int es.size 0,.int ep 0]}}):
  wpAny (model prog w) A (pyIter (.ref d)) Q E s:=by have hT:s.TypeIs (.ref d) "dict":=⟨o,ho,hc.1⟩;refine Sy hT JJ (wpAny_call_entry JJ hT F.entry_dict_iter ?_ (F.args_dict_iter_1 _));unfold Builtin.«dict.__iter__»;refine aJ ?_;unfold afc;refine aJ (wpAny_notOrdered_dict hT ?_);show wpAny _ _ (pure (cv d)) _ _ s;refine bj ?_;show wpAny _ _ (JK d>>=_) _ _ s;unfold JK;rw[au (by grind)];refine aJ (bj ?_);refine aJ (wpAny_dictEntries ho gI ?_);refine aJ (wpAny_dictEpoch ho gI ?_);refine aJ (wpAny_newObj_type (bj ⟨_,O,"dict_keyiterator",_,⟨_,fK _ O,O⟩,yM.lookup,?_⟩));simpa[rawInt]using hQ
def Sz {i n ep:Nat}{es:Array kz}{en:kz}{Q:Option aj->aF->Prop}(hit:s.heap.IsKeyIter it d i n ep)(gv:s.heap.get? d=B od)(i7:od.data=.dict es ep)
  (hsz:es.size=n) (hx:es[i]?=B en) (hQ:∀h',h'.IsKeyIter it d (i+1) n ep->jw it s.heap h'->Q (B en.key) {s with heap:=h'}):wpAny (model prog w) A (pyNext (.ref it)) Q E s:=by
 funext prog w A E s it d od i n ep es en Q
 obtain⟨o,ho,hc,hd⟩:=id hit;unfold pyNext;refine aJ (wpAny_attempt (wpAny_callSpecial?_slot (name:=tw "__next__") hit.typeIs yM (wpAny_call_entry yM hit.typeIs SA ?_ (SD _))));refine aJ (bj ?_);refine aJ ?_;refine aJ ?_;first|refine aJ (wpAny_typeNameOfWhole_keyiter hit.typeIs (bj ?_))|refine aJ (wpAny_typeNameOf_keyiter hit.typeIs (bj ?_))
 refine aJ (wpAny_fieldsOf ho hd ?_);have wQ:EL "dict_keyiterator"=false:=by decide
 simp only[wQ,qm,if_false];show wpAny _ _ (if(cv d==lF)=L then _ else _) _ _ s;rw[au (show¬((cv d==lF)=L)from eN)];refine aJ (bj ?_);refine aJ (wpAny_dictEntries gv i7 ?_);rw[au (by grind)];refine aJ (bj ?_);refine aJ (wpAny_dictEpoch gv i7 ?_);rw[au (by simp)];refine bj ?_;obtain⟨EM,lV⟩:=Array.getElem?_eq_some_iff.mp hx;simp only[show¬((i:Int)<0)from by lia,if_false,ij,JL EM];refine aJ ?_;first|refine aJ (wpAny_typeNameOfWhole_keyiter hit.typeIs (bj ?_))|refine aJ (wpAny_typeNameOf_keyiter hit.typeIs (bj ?_))
 refine aJ (wpAny_isOneOf_keyiter hit.typeIs ?_);show wpAny _ _ (setField (.ref it) 1 (rawInt ((i:Int)+1))>>=_) _ _ s;refine aJ (wpAny_setField ho hd (by simp) ?_)
 have mT:(s.heap.update it (Bt (·.setIfInBounds 1 (rawInt ((i:Int)+1))))).IsKeyIter it d (i+1) n ep:=
  ⟨_,yy _ ho (SE (EN hd _)),(SF ..).trans hc,by rw[EN hd];simp[rawInt]⟩
 refine aJ (wpAny_holding ?_);refine aJ (wpAny_isOneOf_keyiter (s:={s with heap:=s.heap.update it (Bt (·.setIfInBounds 1 (rawInt ((i:Int)+1))))}) mT.typeIs ?_);show wpAny _ _ (pure es[i].key) _ _ _;rw[lV];exact bj (bj ⟨_,O,bj (hQ _ mT (wR ..))⟩)
def JM {i n ep:Nat}{es:Array kz}{Q:Option aj->aF->Prop}(hh:A.handled=N)(hit:s.heap.IsKeyIter it d i n ep)(gv:s.heap.get? d=B od)(i7:od.data=.dict es ep)
  (hsz:es.size=n) (JG:n<=i) (hQ:∀h',EO it s.heap h'->Q N {s with heap:=h'}):wpAny (model prog w) A (pyNext (.ref it)) Q E s:=by
 funext prog w A E s it d od i n ep es Q
 obtain⟨o,ho,hc,hd⟩:=id hit;unfold pyNext;refine aJ (wpAny_attempt (wpAny_callSpecial?_slot (name:=tw "__next__") hit.typeIs yM (wpAny_call_entry yM hit.typeIs SA ?_ (SD _))));refine aJ (bj ?_);refine aJ ?_;refine aJ ?_;first|refine aJ (wpAny_typeNameOfWhole_keyiter hit.typeIs (bj ?_))|refine aJ (wpAny_typeNameOf_keyiter hit.typeIs (bj ?_))
 refine aJ (wpAny_fieldsOf ho hd ?_);have wQ:EL "dict_keyiterator"=false:=by decide
 simp only[wQ,qm,if_false];show wpAny _ _ (if(cv d==lF)=L then _ else _) _ _ s;rw[au (show¬((cv d==lF)=L)from eN)];refine aJ (bj ?_);refine aJ (wpAny_dictEntries gv i7 ?_);rw[au (by grind)];refine aJ (bj ?_);refine aJ (wpAny_dictEpoch gv i7 ?_);rw[au (by simp)];refine bj ?_;have afd:es.size<=i:=by lia
 simp only[show¬((i:Int)<0)from by lia,if_false,ij,SG afd];refine aJ ?_;first|refine aJ (wpAny_typeNameOfWhole_keyiter hit.typeIs (bj ?_))|refine aJ (wpAny_typeNameOf_keyiter hit.typeIs (bj ?_))
 show wpAny _ _ (setField (.ref it) 0 .none>>=_) _ _ s;refine aJ (wpAny_setField ho hd (by simp) ?_);show wpAny _ _ (newExc (.type "StopIteration") []>>=_) _ _ _;refine aJ ?_;simp only[newExc,newTuple];refine aJ (wpAny_newObj_type ?_ (by size_fits));refine aJ (m:=ER _ _) (wpAny_of_eq (a:=lF) (by first|rfl|(simp only[ER];rfl)) ?_);refine wpAny_newObj_type ?_ (by size_fits);simp only[raiseNew];refine aJ (wpAny_handled ?_);rw[show A.in1.handled=N from hh];refine aJ (bj (wpAny_throw ?_));refine aJ (wpAny_isInstance (T:="StopIteration") (b:=L) ⟨_,fK _ O,O⟩ isSubtype_stop ?_);exact bj (hQ _ (((wR ..).extBut.push _).push _))
end
def Bu {κ:Type}{kvs:List (κ×V)}{vs:List (κ×aj)}(h:KV kvs vs):∀{i:Nat}{k:κ}{v:V},kvs[i]?=B (k,v)->∃u,vs[i]?=B (k,u)/\RelV v u:=by
 unfold KV at h;induction h with
 |nil=>simp
 |@cons a b l₁ l₂ r t ih=>rfl'
def afe {α β:Type}{G:α->β->Prop}{l₁:List α}{l₂:List β}(h:Paired G l₁ l₂):∀{i:Nat}{a:α},l₁[i]?=B a->∃b,l₂[i]?=B b/\G a b:=by
 induction h with
 |nil=>simp
 |@cons a b l₁ l₂ r t ih=>rfl'
def ES {k:Key}(h:sC k u=L):RelV (kV k) u:=by
 rcases qV h with⟨i,t,rfl,rfl⟩|⟨x,t,rfl,rfl⟩
 .exact⟨t,O⟩
 .exact⟨t,O⟩
section
variable{X:Cx}{Y:List (J×Obj)}{σ:St}{H:Hp}{s:aF}{d:J}{o:Obj}
def Inv.tD {kvs:List (Key×V)}(I:Inv X Y σ H s)(h:H d=B (.bF o (.dK kvs))):
  (d==ju)=aH/\s.heap.get? d=B o/\o.ExactDict/\∃(es:Array kz)(ep:Nat)(vs:List (Key×aj)),o.data=.dict es ep/\es.size=kvs.length/\KV kvs vs/\s.heap.DictAt (dN X.prog X.w) d vs ep:=by
 funext X Y σ H s d o kvs
 obtain⟨hd,z,hs,vs,kv,o',es,ep,ho,hx,fO,r⟩:=I.aV d _ h;rw[hd]at ho;cases ho
 refine⟨hs,hd,hx,es,ep,vs,fO,?_,kv,o,es,hd,hx,fO,r⟩;have l1:=r.2.1.length;have l2:kvs.length=vs.length:=km kv;grind
def Inv.JN {kvs:List (List Key×V)}(I:Inv X Y σ H s)(h:H d=B (.bF o (.dT kvs))):
  (d==ju)=aH/\s.heap.get? d=B o/\o.ExactDict/\∃(es:Array kz)(ep:Nat),o.data=.dict es ep/\es.size=kvs.length/\
   ∀(i:Nat)(k:List Key)(v:V),kvs[i]?=B (k,v)->∃(en:kz)(q:J),es[i]?=B en/\en.key=.ref q/\H q=B (.tup (k.map kV)):=by
 funext X Y σ H s d o kvs
 obtain⟨hd,z,hs,xs,pr,o',es,ep,ho,hx,fO,he,_⟩:=I.aV d _ h;rw[hd]at ho;cases ho
 refine⟨hs,hd,hx,es,ep,fO,?_,λi k v e=>?_⟩
 .have l1:es.size=xs.length:=yN he;have l2:kvs.length=xs.length:=km pr;lia
 .obtain⟨b,hb,e1,e2,_⟩:=afe pr e;have q:=entry_at he i;rw[hb]at q;exact⟨_,b.2.1,q,O,e2⟩
end
def SH (d:J)(o:Obj)(kvs:List (Key×V)):It:=
 ⟨λi H=>H d=B (.bF o (.dK kvs))/\i<kvs.length,λi H x H'=>H'=H/\∃k v,kvs[i]?=B (k,v)/\x=kV k,λi H=>H d=B (.bF o (.dK kvs))/\kvs.length<=i⟩
def SI (d:J)(o:Obj)(kvs:List (List Key×V)):It:=
 ⟨λi H=>H d=B (.bF o (.dT kvs))/\i<kvs.length,λi H x H'=>H'=H/\∃(k:List Key)(v:V)(q:J),kvs[i]?=B (k,v)/\x=.ref q/\H q=B (.tup (k.map kV)),λi H=>H d=B (.bF o (.dT kvs))/\kvs.length<=i⟩
def SJ (d:J)(o:Obj)(kvs:List (Key×V)):It:=
 ⟨λi H=>H d=B (.bF o (.dK kvs))/\i<kvs.length,λi H x H'=>∃T k v,kvs[i]?=B (k,v)/\x=.ref T/\H T=N/\H'=M H T (.tup [kV k,v]),λi H=>H d=B (.bF o (.dK kvs))/\kvs.length<=i⟩
def uX {o:Obj}{es mC:Array kz}{ep lJ:Nat}(h:o.data=.dict es ep)(h':o.data=.dict mC lJ):mC=es/\lJ=ep:=by grind
section
variable{P:bx}{w:World}{K:aM}{tg:bK}{d:J}{o:Obj}{es:Array kz}{ep:Nat}
def aff {kvs:List (Key×V)}(it:J)(gv:o.data=.dict es ep):Turn P w K tg (SH d o kvs) [it] it (λi h=>h.IsKeyIter it d i kvs.length ep)where
 mem:=by simp
 obj:=λi h st b hb=>by
  have e:b=it:=by grind
  subst e;obtain⟨oi,e,c,dd⟩:=st;grind
 keep:=λi h h' st k=>st.at λoi e=>k it (by simp) oi e
 item:=by intro X hP hw hK hc i Y s σ H E I hf st hg;subst hP hw hK;obtain⟨hd,hi⟩:=hg;obtain⟨f0,f1,f2,f3,f4,f5⟩:=hf it (by simp);obtain⟨hs,kW,hx,mC,lJ,vs,fO,hsz,kv,hm⟩:=I.tD hd;obtain⟨rfl,rfl⟩:=uX gv fO;obtain⟨⟨k,v⟩,qr⟩:∃p,kvs[i]?=B p:=⟨kvs[i],cc hi⟩;obtain⟨u,hu,ru⟩:=Bu kv qr;have hl:kvs.length=vs.length:=km kv;rw[hl]at st;refine wpAny_pyNext_dict_item st hm hu λkey h' oK fT sb=>?_;have I1:Inv X Y σ H {s with heap:=h'}:=I.turned (t':=s.toks) (λb ob hb e=>(sb.2 b hb).trans e) f0 f1 f3 f4 f5;obtain⟨oi,e,c,dd⟩:=id fT;refine⟨key,O,AM (s:={s with heap:=h'}) e c dd (by decide) ⟨kV k,H,I1,ES (show sC k key=L from oK),⟨O,k,v,qr,O⟩,?_,λb hb=>(hf b hb).1⟩⟩;grind
 done:=by intro X hP hw hK hc i Y s σ H E I hf st hg;subst hP hw hK;obtain⟨hd,hi⟩:=hg;obtain⟨f0,f1,f2,f3,f4,f5⟩:=hf it (by simp);obtain⟨hs,kW,hx,mC,lJ,vs,fO,hsz,kv,hm⟩:=I.tD hd;obtain⟨rfl,rfl⟩:=uX gv fO;exact JM (I.ok.hd hc) st kW fO hsz hi λh' eb=>⟨O,I.turned (t':=s.toks) (λb ob hb e=>eb b ob hb e) f0 f1 f3 f4 f5⟩
 self:=λA i s Q E st h=>SK st h
def afg {kvs:List (List Key×V)}(it:J)(gv:o.data=.dict es ep):Turn P w K tg (SI d o kvs) [it] it (λi h=>h.IsKeyIter it d i kvs.length ep)where
 mem:=by simp
 obj:=λi h st b hb=>by
  have e:b=it:=by grind
  subst e;obtain⟨oi,e,c,dd⟩:=st;grind
 keep:=λi h h' st k=>st.at λoi e=>k it (by simp) oi e
 item:=by intro X hP hw hK hc i Y s σ H E I hf st hg;subst hP hw hK;obtain⟨hd,hi⟩:=hg;obtain⟨f0,f1,f2,f3,f4,f5⟩:=hf it (by simp);obtain⟨hs,kW,hx,mC,lJ,fO,hsz,ent⟩:=I.JN hd;obtain⟨rfl,rfl⟩:=uX gv fO;obtain⟨⟨k,v⟩,qr⟩:∃p,kvs[i]?=B p:=⟨kvs[i],cc hi⟩;obtain⟨en,q,lV,oK,hq⟩:=ent i k v qr;refine Sz st kW fO hsz lV λh' fT sb=>?_;have I1:Inv X Y σ H {s with heap:=h'}:=I.turned (t':=s.toks) (λb ob hb e=>(sb.2 b hb).trans e) f0 f1 f3 f4 f5;obtain⟨oi,e,c,dd⟩:=id fT;exact⟨en.key,O,AM (s:={s with heap:=h'}) e c dd (by decide) ⟨.ref q,H,I1,oK,⟨O,k,v,q,qr,O,hq⟩,fT,λb hb=>(hf b hb).1⟩⟩
 done:=by intro X hP hw hK hc i Y s σ H E I hf st hg;subst hP hw hK;obtain⟨hd,hi⟩:=hg;obtain⟨f0,f1,f2,f3,f4,f5⟩:=hf it (by simp);obtain⟨hs,kW,hx,mC,lJ,fO,hsz,ent⟩:=I.JN hd;obtain⟨rfl,rfl⟩:=uX gv fO;exact JM (I.ok.hd hc) st kW fO hsz hi λh' eb=>⟨O,I.turned (t':=s.toks) (λb ob hb e=>eb b ob hb e) f0 f1 f3 f4 f5⟩
 self:=λA i s Q E st h=>by refine Sy st.typeIs SM (wpAny_call_entry SM st.typeIs F.entry_dict_keyiterator_iter ?_ (F.args_dict_keyiterator_iter_1 _));show wpAny _ _ (ret (.ref it)) _ _ s;exact bj ⟨_,O,"dict_keyiterator",_,st.typeIs,yM.lookup,h⟩
def afh {kvs:List (Key×V)}{elts:List bK}{kk:Nat}{kq:Pos}(it:J)(gv:o.data=.dict es ep):
  Turn P w K (.Tuple elts kk kq) (SJ d o kvs) [it] it (λi h=>∃ok ov,IsItemIter h it d i kvs.length ep ok ov)where
 mem:=by simp
 obj:=λi h st b hb=>by grind
 keep:=λi h h' st k=>let⟨ok,ov,e⟩:=st;⟨ok,ov,k it (by simp) _ e⟩
 item:=by
  intro X hP hw hK hc i Y s σ H E I hf st hg;subst hP hw hK;obtain⟨hd,hi⟩:=hg;obtain⟨hs,kW,hx,mC,lJ,vs,fO,hsz,kv,hm⟩:=I.tD hd;obtain⟨rfl,rfl⟩:=uX gv fO;obtain⟨⟨k,v⟩,qr⟩:∃p,kvs[i]?=B p:=⟨kvs[i],cc hi⟩;obtain⟨u,hu,ru⟩:=Bu kv qr;have hl:kvs.length=vs.length:=km kv;obtain⟨ok,ov,he⟩:=st;rw[hl]at he;have fM:it<s.heap.objs.size:=cU he;refine wpAny_pyNext_items_item he hm hu λkey h' oK ho hT hz hk=>?_;refine⟨_,O,wpAny_letOwnedTupleGo_items (s:={s with heap:=h'}) ho λkU mU sb=>?_⟩
  have wU:kU.get? s.heap.objs.size=B {cls:=.type "tuple",data:=.seq #[key,u]}:=(sb.2 _ (rf fM)).trans hT
  have new:d9 X.prog X.w (M H s.heap.objs.size (.tup [kV k,v])) kU s.heap.objs.size (.tup [kV k,v]):=
   ⟨a_2,[key,u],.cons (ES (show sC k key=L from oK)) (.cons ru .nil),⟨_,wU,O,_,O⟩⟩
  have I1:Inv X Y σ (M H s.heap.objs.size (.tup [kV k,v])) {s with heap:=kU}:=
   I.Br (t':=s.toks) (ch:=[it]) (λb ob hb e=>(sb.2 b (by simpa using hb)).trans (hk b ob (by simpa using hb) e)) hf (aX _) new
  refine⟨.ref s.heap.objs.size,_,I1,O,⟨_,k,v,qr,O,I.aV.fresh (aX _),O⟩,⟨key,u,?_⟩,λb hb=>?_⟩
  .grind
  .have e:b=it:=by simpa using hb
   rw[e,aa (fZ fM)];exact(hf it (by simp)).1
 done:=by intro X hP hw hK hc i Y s σ H E I hf st hg;subst hP hw hK;obtain⟨hd,hi⟩:=hg;obtain⟨f0,f1,f2,f3,f4,f5⟩:=hf it (by simp);obtain⟨hs,kW,hx,mC,lJ,vs,fO,hsz,kv,hm⟩:=I.tD hd;obtain⟨rfl,rfl⟩:=uX gv fO;have hl:kvs.length=vs.length:=km kv;obtain⟨ok,ov,he⟩:=st;rw[hl]at he;exact wpAny_pyNext_items_end (I.ok.hd hc) he hm (yO (by lia)) λh' eb=>⟨O,I.turned (t':=s.toks) (λb ob hb e=>eb b ob hb e) f0 f1 f3 f4 f5⟩
 self:=λA i s Q E st h=>let⟨_,_,e⟩:=st;PySem.W.kcp_self e h
end
def afi (td:TE):TI:=λσ H R=>td σ H λx H1=>e_2 λd o=>x=.ref d/\((∃kvs,H1 d=B (.bF o (.dK kvs))/\R (SH d o kvs) H1)\/∃kvs,H1 d=B (.bF o (.dT kvs))/\R (SI d o kvs) H1)
def afj (td:TE):TI:=λσ H R=>td σ H λx H1=>e_3 λd o kvs=>x=.ref d/\H1 d=B (.bF o (.dK kvs))/\R (SJ d o kvs) H1
section
variable{X:Cx}{tg e:bK}{td:TE}{apos dI:Pos}
def uY (he:PE X e td):PI X tg e (afi td):=by
 intro Y s σ H R I h;refine ba (he Y s σ H _ I h) λu s1 ⟨x,H1,I1,rx,d,o,ex,q⟩=>?_;subst ex;obtain rfl:u=cv d:=rx;rcases q with⟨kvs,hd,q⟩|⟨kvs,hd,q⟩
 .obtain⟨hs,kW,hx,es,ep,vs,fO,hsz,kv,hm⟩:=I1.tD hd;refine JI hs kW hx fO (EK (tk:=s1.toks) I1 _ (aff _ fO) ⟨_,fK _ O,O,?_⟩ q);grind
 .obtain⟨hs,kW,hx,es,ep,fO,hsz,ent⟩:=I1.JN hd;refine JI hs kW hx fO (EK (tk:=s1.toks) I1 _ (afg _ fO) ⟨_,fK _ O,O,?_⟩ q);grind
def SN {elts:List bK}{kk:Nat}{kq:Pos}(he:PE X e td)(qh:qe e "items" X.env (eval e X.env)=eval e X.env:=by rfl)(qi:(apos.endLine==dI.line)=true:=by rfl):
  PI X (.Tuple elts kk kq) (.Call (.Attribute e "items" apos) [] [] dI) (afj td):=by
 funext X e td apos dI elts kk kq
 intro Y s σ H R I h;funext Y s σ H R;refine Bp (T:="dict") (id:="dict.items") qh O qi Bq SQ F.type_dict_items (ba (he Y s σ H _ I h) λu s1 ⟨x,H1,I1,rx,d,o,kvs,ex,hd,q⟩=>?_);subst ex;obtain rfl:u=cv d:=rx;obtain⟨hs,kW,hx,es,ep,vs,fO,hsz,kv,hm⟩:=I1.tD hd;have hl:kvs.length=vs.length:=km kv;refine⟨hm.dictOf.typeIs,hm.dictOf.mapOf.noDict,?_⟩
 have I2:Inv X Y σ H1 {s1 with heap:=s1.heap.push {cls:=.type "dict_items",data:=.fields #[.ref d]}}:=I1.kept (t':=s1.toks) λb ob q=>dP _ q
 have fin:wpAny (model X.prog X.w) X.A (pyIter (.ref s1.heap.objs.size)) (D8 X Y σ (.Tuple elts kk kq) R) X.xe {s1 with heap:=s1.heap.push {cls:=.type "dict_items",data:=.fields #[.ref d]}}:=by refine wpAny_pyIter_items (d:=d) (knd:=dN X.prog X.w) ⟨_,fK _ O,O,O⟩ (hm.push _) (EK (tk:=s1.toks) I2 _ (afh _ fO) ⟨.none,.none,?_⟩ q);rw[hl];exact fK _ rfl
 show wpAny _ _ (callWith dI (.builtin "dict.items") [.ref d] [] []) _ X.xe s1;exact JO SQ F.entry_dict_items O (Et ⟨O,hm.dictOf.typeIs,F.args_dict_items_1 _,_,meets_dict_items (dN X.prog X.w) d hs,⟨vs,hm.dictOf⟩,fin⟩)
end
def SR (K:aM)(a:J):It:=
 ⟨λi H=>∃(xs:List V)(x:V),aC K H a xs/\xs[i]?=B x,λi H v H'=>∃T x,v=.ref T/\H T=N/\H'=M H T (.tup [.int (i:Nat),x])/\∀xs,aC K H a xs->xs[i]?=B x,λi H=>∃xs:List V,aC K H a xs/\xs.length<=i⟩
def afk {P:bx}{w:World}{K:aM}{elts:List bK}{kk:Nat}{kq:Pos}(a e it:J):
  Turn P w K (.Tuple elts kk kq) (SR K a) [e,it] e (λi h=>(∃old,IsEnum h e it ((i:Nat):Int) old)/\h.IsListIter it a i/\e≠it)where
 mem:=by simp
 obj:=λi h st b hb=>by obtain⟨⟨old,he⟩,⟨o,ho,hc,hd⟩,_⟩:=st;rfl'
 keep:=λi h h' st k=>let⟨⟨old,he⟩,hi,ck⟩:=st;⟨⟨old,k e (by simp) _ he⟩,hi.at λo q=>k it (by simp) o q,ck⟩
 item:=by
  intro X hP hw hK hc i Y s σ H E I hf st hg;subst hP hw hK;obtain⟨⟨old,he⟩,hit,ck⟩:=st;obtain⟨xs,x,hq,hx⟩:=hg;obtain⟨aI,rv,p,hz⟩:=I.list hq;obtain⟨u,hu,ru⟩:=rv.get hx;have qt:e<s.heap.objs.size:=cU he;have dA:it<s.heap.objs.size:=by obtain⟨_,q,_⟩:=hit;exact cU q
  refine wpAny_pyNext_enum_item he hit p.isList (x:=u) (by simpa using hu) ck λh' ho mT hT hsz hk=>?_;refine⟨_,O,wpAny_letOwnedTupleGo_enum (s:={s with heap:=h',toks:=s.toks+1}) ho λkU mU sb=>?_⟩
  have wU:kU.get? s.heap.objs.size=B {cls:=.type "tuple",data:=.seq #[.int i s.toks,u]}:=(sb.2 _ (rf qt)).trans hT
  have new:d9 X.prog X.w (M H s.heap.objs.size (.tup [.int (i:Nat),x])) kU s.heap.objs.size (.tup [.int (i:Nat),x]):=
   ⟨a_2,[.int i s.toks,u],.cons ⟨_,O⟩ (.cons ru .nil),⟨_,wU,O,_,O⟩⟩
  have I1:Inv X Y σ (M H s.heap.objs.size (.tup [.int (i:Nat),x])) {s with heap:=kU,toks:=s.toks+1}:=
   I.Br (ch:=[e,it]) (λb ob hb q=>(sb.2 b (λz=>hb (by simp[z]))).trans (hk b ob (λz=>hb (by simp[z])) (λz=>hb (by simp[z])) q)) hf (aX _) new
  refine⟨.ref s.heap.objs.size,_,I1,O,⟨_,x,O,I.aV.fresh (aX _),O,λys hy=>by rw[I.D5 hy hq];exact hx⟩,⟨⟨u,?_⟩,mT.at λo q=>(sb.2 it (aP ck)).trans q,ck⟩,λb hb=>?_⟩
  .grind
  .have wV:b<s.heap.objs.size:=by grind
   rw[aa (fZ wV)];exact(hf b hb).1
 done:=by intro X hP hw hK hc i Y s σ H E I hf st hg;subst hP hw hK;obtain⟨⟨old,he⟩,hit,ck⟩:=st;obtain⟨xs,hq,hx⟩:=hg;obtain⟨aI,rv,p,hz⟩:=I.list hq;obtain⟨f0,f1,f2,f3,f4,f5⟩:=hf it (by simp);have hl:=rv.length;exact wpAny_pyNext_enum_end (I.ok.hd hc) he hit p.isList (by simp;lia) λh' eb=>⟨O,I.turned (t':=s.toks) (λb o hb q=>eb b o hb q) f0 f1 f3 f4 f5⟩
 self:=λA i s Q E st h=>let⟨⟨_,he⟩,_⟩:=st;yP he h
def afl (K:aM)(ta:TA):TI:=λσ H R=>ta σ H λvs H1=>e_2 λa xs=>vs=[.ref a]/\aC K H1 a xs/\R (SR K a) H1
def wW {X:Cx}{e:bK}{ta:TA}{p pos kq:Pos}{elts:List bK}{kk:Nat}(hg:Gl X "enumerate")(hm:X.mg "enumerate"=N)(ha:PA X [e] ta)(hs:starEach [e] X.env=[(aH,eval e X.env)]:=by rfl):
  PI X (.Tuple elts kk kq) (.Call (.Name "enumerate" p) [e] [] pos) (afl X.K ta):=by
 funext X e ta p pos kq elts kk
 intro Y s σ H R I h;funext Y s σ H R;refine Call_ (p0 I hg hm JP (uI (ba (ha pos Y s σ H _ I h) λus s1 ⟨vs,H1,I1,r1,q1⟩=>?_) hs O));obtain⟨a,xs,ex,hq,q⟩:=q1;subst ex;cases r1 with
 |cons r rr=>
  cases rr
  cases r
  obtain⟨aI,rv,p',hz⟩:=I1.list hq;refine call_enumerate_list p'.isList λh' he hit hsz hk=>yP he ?_;have I2:Inv X Y σ H1 {s1 with heap:=h'}:=I1.kept (t':=s1.toks) hk;refine⟨s1.heap.objs.size+1,[s1.heap.objs.size+1,s1.heap.objs.size],_,_,H1,O,I2,afk a (s1.heap.objs.size+1) s1.heap.objs.size,⟨⟨.none,he⟩,hit,JQ _⟩,λb hb=>?_,q⟩;have e':b=s1.heap.objs.size+1\/b=s1.heap.objs.size:=by grind
  have hle:s1.heap.objs.size<=b:=by grind
  exact I1.uG hle (I1.aV.fresh hle)
end L2
section 
namespace afm
open PySem PyProof.Rows
end afm
end 
section 
namespace TL
open PySem PySem.Builtin PySem.Builtin.Str PySem.StrLaws
end TL
end 
namespace L2
open PySem PySem.Spec PyProof.Rows
section
variable{X:Cx}{Y:List (J×Obj)}{σ:St}{H:Hp}{s:aF}{Q:VK}
end
section
variable{X:Cx}
end
section
variable{X:Cx}{o e:bK}{to te:TE}
end
section
variable{X:Cx}
end
end L2
namespace Att
open PySem PySem.W PySem.Calls PyProof.Rows
section
variable{prog:bx}{w:World}{A:dO}{E:aj->aF->Prop}{s:aF}{K:Frag}
end
end Att
namespace L2
open PySem PySem.Spec PyProof.Rows
abbrev j7 {K:aM}{h:a9}(_:K.In h):aM:=K
noncomputable def gO (s:hX)(j:Nat):Stmt:=match s with
 |.ClassDef _ _ _ body _ _ _ _ _ _ _=>body.getD j (.Pass ⟨0,0,0,0⟩)
 |_=>.Pass ⟨0,0,0,0⟩
def uZ (s:hX):Arguments:=match s with
 |.FunctionDef _ a _ _ _ _ _ _ _ _=>a
 |_=>{posonlyargs:=[],args:=[],vararg:=N,kwonlyargs:=[],kw_defaults:=[],kwarg:=N,defaults:=[]}
def tE (s:hX):List Stmt:=match s with
 |.FunctionDef _ _ b _ _ _ _ _ _ _=>b
 |_=>[]
def bb (s:hX):Scope:=match s with
 |.FunctionDef _ _ _ _ _ _ sc _ _ _=>sc
 |_=>{kind:=.function,names:=[],isGenerator:=aH,isCoroutine:=aH}
abbrev bI:oO:=λ_ _ _ _ _ _=>False
abbrev E0:XK:=λ_ _ _=>False
def Bv:Passes bI X E0:=λ_ _ _ _ _ _ _ h=>h.elim
structure bG (K:aM)(x qual:ao)(st:hX)(f:J)(fd:jk):Prop where
 ex:∃(oc:aj)(od:Option J)(kV doc pm:aj)(an:Option J)(a6 ct:aj)(nQ:Array (Option aj)),
  fd=rj x qual (uZ st) (tE st) (bb st) .none kV doc pm an a6 ct/\K.lookup f=B ⟨oc,od,.func fd,nQ⟩/\A5 K a6 qual=L
 kp:nO K (.ref f)=L
section
variable{P:bx}{w:World}{K:aM}{mg:ao->Option aj}{ak:a9}
def bG.ok {x qual:ao}{st:hX}{f:J}{fd:jk}{aR ps:List ao}{k:Nat}{sp:Sp}(F:bG K x qual st f fd)(S:bZ aR ps (bb st))(len:∀vs H Q E,sp vs H Q E->vs.length=ps.length)
  (IU:∀(a6:aj)(A:dO)(outer:List Env)(s:aF)(H:Hp)(vs:List V)(Q:VK)(E:XK),fU k (A.deeper (envOfC qual (bb st) s.heap.objs.size f a6))->sp vs H Q E->∃t,nM (yu bI P w K mg ak aR qual (bb st) f a6 A outer s H E).D6 (tE st) t/\t {nx:=λ_ H'=>Q .bB H',rt:=Q} (start aR vs) H):bu P w K mg ak bI (k+1) f fd ps sp:=by obtain⟨oc,od,kV,doc,pm,an,a6,ct,nQ,rfl,lk,lK⟩:=F.ex;refine adK lk lK S len λA outer s H vs Q E hr rm=>?_;obtain⟨t,h,q⟩:=IU a6 A outer s H vs Q E hr rm;exact⟨t,h.D6,q⟩
def bG.binds {x qual:ao}{st:hX}{f:J}{fd:jk}{ps:List ao}(F:bG K x qual st f fd)
  (h:∀(kV doc pm:aj)(an:Option J)(a6 ct:aj)(us:List aj),us.length=ps.length->Ej (rj x qual (uZ st) (tE st) (bb st) .none kV doc pm an a6 ct) ⟨us,[]⟩=pure (ps.zip us)):Binds K fd ps []:=by obtain⟨oc,od,kV,doc,pm,an,a6,ct,nQ,rfl,lk,lK⟩:=F.ex;exact .all (h kV doc pm an a6 ct)
def SU {x qual:ao}{st:hX}{f:J}{oc:aj}{od an:Option J}{nQ:Array (Option aj)}{kV doc pm a6 ct:aj}(l:K.lookup f=B ⟨oc,od,.func (rj x qual (uZ st) (tE st) (bb st) .none kV doc pm an a6 ct),nQ⟩)
  (c:A5 K a6 qual=L) (k:nO K (.ref f)=L):bG K x qual st f (rj x qual (uZ st) (tE st) (bb st) .none kV doc pm an a6 ct):=⟨⟨oc,od,kV,doc,pm,an,a6,ct,nQ,O,l,c⟩,k⟩
end
structure R_ where(f:J)(a:aj)(A:dO)(o:List Env)(s:aF)(H:Hp)(v:List V)(Q:VK)(E:XK)
instance:Nonempty R_:=⟨0,.none,{},[],{},λ_=>N,[],λ_ _=>True,λ_ _ _=>True⟩
def C_(P:bx)(w:World)(K:aM)(mg:ao->Option aj)(ak:a9)(aR:List ao)(qual:ao)(st:hX)(k:Nat)(sp:Sp)(r:R_):=fU k (r.A.deeper (envOfC qual (bb st) r.s.heap.objs.size r.f r.a))->sp r.v r.H r.Q r.E->∃t,nM (yu bI P w K mg ak aR qual (bb st) r.f r.a r.A r.o r.s r.H r.E).D6 (tE st) t/\t {nx:=λ_ H'=>r.Q .bB H',rt:=r.Q} (start aR r.v) r.H
noncomputable def q_(P:bx)(w:World)(K:aM)(mg:ao->Option aj)(ak:a9)(aR:List ao)(qual:ao)(st:hX)(k:Nat)(sp:Sp):R_:=Classical.epsilon λr=>¬C_ P w K mg ak aR qual st k sp r
def bG.k_{P:bx}{w:World}{K:aM}{mg:ao->Option aj}{ak:a9}{x qual:ao}{st:hX}{f:J}{fd:jk}{aR ps:List ao}{k:Nat}{sp:Sp}(F:bG K x qual st f fd)(S:bZ aR ps (bb st))(len:∀vs H Q E,sp vs H Q E->vs.length=ps.length)(h:C_ P w K mg ak aR qual st k sp (q_ P w K mg ak aR qual st k sp)):bu P w K mg ak bI (k+1) f fd ps sp:=F.ok S len λa6 A outer s H vs Q E=>Classical.byContradiction λn=>Classical.epsilon_spec (p:=λr=>¬C_ P w K mg ak aR qual st k sp r) ⟨⟨f,a6,A,outer,s,H,vs,Q,E⟩,n⟩ h
def kX {k:Nat}(hr:fU k A):A.units+1<cLine:=rE (Nat.add_le_add_left (by decide:1<=64) _) hr.units
section
variable{X:Cx}
def pv (i:Nat){pos:Pos}(hN:X.aR[i]?=B x:=by rfl)(hv:AD X.env.scope x:=by ac_nf)(hd:(x==("__debug__":ao))=false:=by decide)
  (lK:(x==("__classdict__":ao))=false:=by decide):PE X (.Name x pos) (Qv i):=ab' hN hv hd lK
def tF:kR X (.builtin "len") (λxs H Q=>∃a kvs,xs=[V.ref a]/\H a=B (.dK kvs)/\Q (.int kvs.length) H):=by
 intro Y s σ H xs us Q I r h;obtain⟨a,kvs,rfl,ha,q⟩:=h;obtain⟨u,rfl,ru⟩:=vals1 r;cases ru
 exact aeR I (.inl ha) λt s' I'=>⟨.int kvs.length,H,I',⟨t,O⟩,q⟩
end
def bN {A di:Prop}(h:di):if aH=L then A else di:=by grind
def bO {A di:Prop}(h:A):if L=L then A else di:=by grind
def mV {c A di:Prop}[Decidable c](h1:c->A)(h2:¬c->di):if c then A else di:=by grind
def aw (H H':Hp):Prop:=∀b o,H b=B o->H' b=B o
def aw.refl (H:Hp):aw H H:=λ_ _ h=>h
def aw.trans (a:aw H H1)(b:aw H1 H2):aw H H2:=λc o h=>b c o (a c o h)
def aw.free (e:aw H H')(h:H' l=N):H l=N:=by
 cases q:H l with
 |none=>rfl
 |some o=>rw[e l o q]at h;cases h
def aw.seq {K:aM}{H H':Hp}{a:J}{xs:List V}(e:aw H H')(h:aC K H a xs):aC K H' a xs:=by
 rcases h with(h|⟨o,h⟩)|h
 .exact .inl (.inl (e _ _ h))
 .exact .inl (.inr ⟨o,e _ _ h⟩)
 .exact .inr h
section
variable{κ:Type}[DecidableEq κ]
end
def aw.made (nx:H x=N)(nd:H dx=N)(k:∀b o,(M (M H dx (.own x)) x (.ins C dx [])) b=B o->b≠x->H1 b=B o):aw H H1:=λb o e=>
 k b o (by rw[aa (aK e nx),aa (aK e nd)];exact e) (aK e nx)
end L2
section
set_option maxHeartbeats 2000000
namespace L2
open PySem PySem.Spec PyProof.Rows
open PySem.W (WData Codec OpenSpec Well WellAll ReadsW ReadsAllW)
mutual
inductive Dw (K:aM)(H:Hp):V->WData->Prop
 |bB:Dw K H .bB .none
 |bl (b:Bool):Dw K H (.bl b) (.bool b)
 |int (i:Int):Dw K H (.int i) (.int i)
 |str (x:ao):Dw K H (.str x) (.str x)
 |jM (b:Array UInt8):Dw K H (.jM b) (.bytes b.toList)
 |Z {a:J} {xs:List V} {ds:List WData}:aC K H a xs->oR K H xs ds->Dw K H (.ref a) (.list ds)
 |tup {a:J} {xs:List V} {ds:List WData}:cW K H a xs->oR K H xs ds->Dw K H (.ref a) (.tuple ds)
inductive oR (K:aM)(H:Hp):List V->List WData->Prop
 |nil:oR K H [] []
 |cons {v:V} {vs:List V} {d:WData} {ds:List WData}:Dw K H v d->oR K H vs ds->oR K H (v::vs) (d::ds)
end
def SV {K:aM}{H:Hp}:∀ns:List Int,oR K H (ns.map V.int) (ns.map WData.int)
 |[]=>.nil
 |n::r=>.cons (.int n) (SV r)
theorem SX {K:aM}{H:Hp}:∀(ns:List Int)(xs:List V),oR K H xs (ns.map WData.int)->xs=ns.map V.int
 |[],xs,h=>by
  cases h
  rfl
 |n::r,xs,h=>by
  cases h with
  |cons h1 h2=>
   cases h1
   rw[SX r _ h2]<;>rfl
section
variable{P:bx}{w:World}{K:aM}{H:Hp}{h:a9}{R:SY}{cl:ao->Option J}
def afo (aV:eV P w H h)(KX:K.In h)(q:aC K H a xs):∃(aI:List aj)(o:Obj)(n:Nat),Vals xs aI/\h.get? a=B o/\o.cls=.type "list"/\o.data=.seq aI.toArray n:=by
 rcases q with q|⟨o,aI,n,e,hc,_,hd,_,hv⟩
 .obtain⟨_,aI,n,hv,e⟩:=(show d9 P w H h a (.Z xs)from q.ok aV);grind
 .exact⟨aI.toList,o,n,hv,KX _ _ e,hc,by simp[hd]⟩
def afp (aV:eV P w H h)(KX:K.In h)(q:cW K H a xs):∃(aI:List aj)(o:Obj)(n:Nat),Vals xs aI/\h.get? a=B o/\o.cls=.type "tuple"/\o.data=.seq aI.toArray n:=by
 rcases q with q|⟨o,aI,n,e,hc,hd,_,hv⟩
 .obtain⟨_,aI,hv,o,e,hc,n,hd⟩:=(show d9 P w H h a (.tup xs)from q.ok aV);grind
 .exact⟨aI.toList,o,n,hv,KX _ _ e,hc,by simp[hd]⟩
mutual
theorem Dw.reads (aV:eV P w H h)(KX:K.In h):∀(d:WData)(v:V)(u:aj),Dw K H v d->RelV v u->∃as,ReadsW R cl h u d as
 |.none,_,_,x,r=>by
  cases x
  cases r
  exact⟨_,ReadsW.none⟩
 |.bool b,_,_,x,r=>by
  cases x
  cases r
  exact⟨_,ReadsW.bool b⟩
 |.int i,_,_,x,r=>by
  cases x
  obtain⟨t,rfl⟩:=r;exact⟨_,ReadsW.int i t⟩
 |.str s,_,_,x,r=>by
  cases x
  obtain⟨t,rfl⟩:=r;exact⟨_,ReadsW.str s t⟩
 |.bytes b,_,_,x,r=>by
  cases x
  obtain⟨t,rfl⟩:=r;exact⟨_,ReadsW.bytes _ t⟩
 |.list ds,_,_,x,r=>by
  cases x with
  |Z hs ha=>
   cases r
   obtain⟨aI,o,n,rv,ho,hc,hd⟩:=afo aV KX hs;obtain⟨as,hr⟩:=Dw.readsAll aV KX ds _ aI ha rv;exact⟨_,ReadsW.list ho hc hd hr⟩
 |.tuple ds,_,_,x,r=>by
  cases x with
  |tup hs ha=>
   cases r
   obtain⟨aI,o,n,rv,ho,hc,hd⟩:=afp aV KX hs;obtain⟨as,hr⟩:=Dw.readsAll aV KX ds _ aI ha rv;exact⟨_,ReadsW.tuple ho hc hd hr⟩
 |.float _,_,_,x,_=>by cases x
 |.dict _,_,_,x,_=>by cases x
 |.bytearray _,_,_,x,_=>by cases x
 |.set _,_,_,x,_=>by cases x
 |.frozenset _,_,_,x,_=>by cases x
 |.obj _ _,_,_,x,_=>by cases x
theorem Dw.readsAll (aV:eV P w H h)(KX:K.In h):∀(ds:List WData)(vs:List V)(us:List aj),oR K H vs ds->Vals vs us->∃as,ReadsAllW R cl h us ds as
 |[],_,_,x,r=>by
  cases x
  cases r
  exact⟨_,ReadsAllW.nil⟩
 |d::ds,_,_,x,r=>by
  cases x with
  |cons h1 h2=>
   cases r with
   |cons r1 r2=>obtain⟨as,q1⟩:=Dw.reads aV KX d _ _ h1 r1;obtain⟨bs,q2⟩:=Dw.readsAll aV KX ds _ _ h2 r2;exact⟨_,ReadsAllW.cons q1 q2⟩
end
end
mutual
def mW:WData->Bool
 |.none=>L
 |.bool _=>L
 |.int _=>L
 |.str _=>L
 |.bytes _=>L
 |.list xs=>oS xs
 |.tuple xs=>oS xs
 |_=>aH
def oS:List WData->Bool
 |[]=>L
 |x::r=>mW x&&oS r
end
theorem S1 {α:Type}{f:α->WData}(h:∀a,mW (f a)=L):∀l:List α,oS (l.map f)=L
 |[]=>rfl
 |x::r=>by show(mW (f x)&&oS (r.map f))=L;rw[h x,S1 h r]<;>rfl
theorem u1:∀(c:Codec)(a:c.denote),mW (c.enc a)=L
 |.unit,_=>rfl
 |.bool,_=>rfl
 |.int _ _,_=>rfl
 |.nat _ _,_=>rfl
 |.u8,_=>rfl
 |.bytes _ _,_=>rfl
 |.text _ _ _ _,_=>rfl
 |.list _ _ c,a=>S1 (λx=>u1 c x) a
 |.pair c d,a=>by show(mW (c.enc a.1)&&(mW (d.enc a.2)&&L))=L;rw[u1 c a.1,u1 d a.2]<;>rfl
 |.triple c d e,a=>by show(mW (c.enc a.1)&&(mW (d.enc a.2.1)&&(mW (e.enc a.2.2)&&L)))=L;rw[u1 c a.1,u1 d a.2.1,u1 e a.2.2]<;>rfl
 |.option c,N=>rfl
 |.option c,B x=>u1 c x
def S7:∀(cs:List Codec)(a:EU cs),oS (yQ cs a)=L
 |[],_=>rfl
 |c::cs,a=>by show(mW (c.enc a.1)&&oS (yQ cs a.2))=L;rw[u1 c a.1,S7 cs a.2]<;>rfl
theorem JR:∀{xs:List WData}{d:WData},d∈xs->d.weight<=EV xs
 |[],d,h=>bT h (by simp)
 |x::r,d,h=>by
  show d.weight<=x.weight+1+EV r;rcases dz.mp h with e|m
  .rw[e];lia
  .have z:=JR m;lia
noncomputable def toV:aj->V
 |.none=>.bB
 |.bool b=>.bl b
 |.int i _=>.int i
 |.str x _=>.str x
 |.bytes b _=>.jM b
 |.ref a=>.ref a
 |_=>.bB
def nY (A:List J):aj->Prop
 |.none=>True
 |.bool _=>True
 |.int _ _=>True
 |.str _ _=>True
 |.bytes _ _=>True
 |.ref a=>a∈A
 |_=>False
def nY.mono (h:∀a∈A,a∈di):∀{u:aj},nY A u->nY di u:=λ{u} x=>by
 cases u with
 |ref a=>exact h a x
 |none=>trivial
 |bool b=>trivial
 |int i t=>trivial
 |str s t=>trivial
 |bytes b t=>trivial
 |_=>exact lM x
def afq (x:nY A u):RelV (toV u) u:=by
 cases u with
 |ref a=>rfl
 |none=>rfl
 |bool b=>rfl
 |int i t=>exact⟨t,O⟩
 |str s t=>exact⟨t,O⟩
 |bytes b t=>exact⟨t,O⟩
 |_=>exact lM x
theorem yR:∀{vs:List aj},(∀u∈vs,nY A u)->Vals (vs.map toV) vs
 |[],_=>.nil
 |u::r,h=>.cons (afq (h u (eR ..))) (yR λx hx=>h x (eD _ hx))
def oT (h:a9)(A:List J)(a:J):Prop:=∃vs:List aj,vs.length<=aL/\(∀u∈vs,nY A u)/\
 (h.get? a=B {cls:=.type "list",data:=.seq vs.toArray}\/h.get? a=B {cls:=.type "tuple",data:=.seq vs.toArray})
def oT.mono (k:∀a∈A,a∈di)(x:oT h A a):oT h di a:=by obtain⟨vs,h1,h2,h3⟩:=x;exact⟨vs,h1,λu hu=>(h2 u hu).mono k,h3⟩
def EW:∀{vs:List aj}{ds:List WData},WellAll P h vs ds->vs.length=ds.length
 |_,_,.nil=>rfl
 |_,_,.cons _ b=>by show _+1=_+1;rw[EW b]
def S8 (x:Well P h v (.list ds)):∃(a:J)(vs:List aj),v=.ref a/\h.get? a=B {cls:=.type "list",data:=.seq vs.toArray}/\WellAll P h vs ds:=by
 cases x with
 |list ho j6=>grind
def S9 (x:Well P h v (.tuple ds)):∃(a:J)(vs:List aj),v=.ref a/\h.get? a=B {cls:=.type "tuple",data:=.seq vs.toArray}/\WellAll P h vs ds:=by
 cases x with
 |tuple ho j6=>grind
def Ta (x:WellAll P h us (d::ds)):∃(v:aj)(vs:List aj),us=v::vs/\Well P h v d/\WellAll P h vs ds:=by
 cases x with
 |cons a b=>grind
def Tb (h:n<=1048576):n<=aL:=fJ h (by decide)
section
variable{P:Bw}{h:a9}
mutual
theorem afr:∀(d:WData)(v:aj),Well P h v d->mW d=L->d.weight<=1048576->∃A:List J,nY A v/\∀a∈A,oT h A a
 |.none,_,x,_,_=>by
  cases x
  exact⟨[],trivial,λa m=>bT m (by simp)⟩
 |.bool b,_,x,_,_=>by
  cases x
  exact⟨[],trivial,λa m=>bT m (by simp)⟩
 |.int i,_,x,_,_=>by
  cases x
  exact⟨[],trivial,λa m=>bT m (by simp)⟩
 |.str s,_,x,_,_=>by
  cases x
  exact⟨[],trivial,λa m=>bT m (by simp)⟩
 |.bytes b,_,x,_,_=>by
  cases x
  exact⟨[],trivial,λa m=>bT m (by simp)⟩
 |.list ds,_,x,p,z=>by
  obtain⟨a,vs,rfl,ho,j6⟩:=S8 x;have z2:EV ds<=1048576:=z;obtain⟨A,h1,h2⟩:=EX ds _ j6 p λd hd=>fJ (JR hd) z2;have k:∀b∈A,b∈a::A:=λb hb=>eD _ hb;refine⟨a::A,eR ..,λb hb=>?_⟩;rcases dz.mp hb with e|m
  .rw[e];exact⟨vs,Tb (by rw[EW j6];exact fJ (Tc ds) z2),λu hu=>(h1 u hu).mono k,.inl ho⟩
  .exact(h2 b m).mono k
 |.tuple ds,_,x,p,z=>by
  obtain⟨a,vs,rfl,ho,j6⟩:=S9 x;have z2:EV ds<=1048576:=z;obtain⟨A,h1,h2⟩:=EX ds _ j6 p λd hd=>fJ (JR hd) z2;have k:∀b∈A,b∈a::A:=λb hb=>eD _ hb;refine⟨a::A,eR ..,λb hb=>?_⟩;rcases dz.mp hb with e|m
  .rw[e];exact⟨vs,Tb (by rw[EW j6];exact fJ (Tc ds) z2),λu hu=>(h1 u hu).mono k,.inr ho⟩
  .exact(h2 b m).mono k
 |.float _,_,_,p,_=>jU (show aH=L from p)
 |.dict _,_,_,p,_=>jU (show aH=L from p)
 |.bytearray _,_,_,p,_=>jU (show aH=L from p)
 |.set _,_,_,p,_=>jU (show aH=L from p)
 |.frozenset _,_,_,p,_=>jU (show aH=L from p)
 |.obj _ _,_,_,p,_=>jU (show aH=L from p)
theorem EX:∀(ds:List WData)(vs:List aj),WellAll P h vs ds->oS ds=L->(∀d∈ds,d.weight<=1048576)->∃A:List J,(∀u∈vs,nY A u)/\∀a∈A,oT h A a
 |[],_,x,_,_=>by
  cases x
  exact⟨[],λu m=>bT m (by simp),λa m=>bT m (by simp)⟩
 |d::ds,_,x,p,z=>by
  obtain⟨v,vs,rfl,x1,x2⟩:=Ta x;have q:mW d=L/\oS ds=true:=EY.mp p;obtain⟨A,a1,a2⟩:=afr d v x1 q.1 (z d (eR ..));obtain⟨di,b1,b2⟩:=EX ds vs x2 q.2 λe he=>z e (eD _ he);have kA:∀b∈A,b∈A++di:=λb hb=>eX.mpr (.inl hb);have kB:∀b∈di,b∈A++di:=λb hb=>eX.mpr (.inr hb);refine⟨A++di,λu hu=>?_,λb hb=>?_⟩
  .rcases dz.mp hu with e|m
   .rw[e];exact a1.mono kA
   .exact(b1 u m).mono kB
  .rcases eX.mp hb with m|m
   .exact(a2 b m).mono kA
   .exact(b2 b m).mono kB
end
end
noncomputable def EZ (o:Obj):Option HO:=match o.data with
 |.seq vs _=>if(o.cls==nI "list")=L then B (.bF o (.Z (vs.toList.map toV)))else B (.bF o (.tup (vs.toList.map toV)))
 |_=>N
noncomputable def jV (K:aM)(h:a9)(A:List J):Hp:=λb=>if b∈A then(if(K.lookup b).isNone=L then(h.get? b).bind EZ else N)else N
def Bx (H:Hp):Prop:=∀b,H b=N\/∃o u,H b=B (.bF o u)
def Td (vs:List aj):EZ {cls:=.type "list",data:=.seq vs.toArray}=B (.bF {cls:=.type "list",data:=.seq vs.toArray} (.Z (vs.map toV))):=by show(if(nI "list"==nI "list")=L then B (HO.bF {cls:=.type "list",data:=.seq vs.toArray} (.Z (vs.toArray.toList.map toV)))else B (HO.bF {cls:=.type "list",data:=.seq vs.toArray} (.tup (vs.toArray.toList.map toV))))=_;simp
def Te (vs:List aj):EZ {cls:=.type "tuple",data:=.seq vs.toArray}=B (.bF {cls:=.type "tuple",data:=.seq vs.toArray} (.tup (vs.map toV))):=by show(if(nI "tuple"==nI "list")=L then B (HO.bF {cls:=.type "tuple",data:=.seq vs.toArray} (.Z (vs.toArray.toList.map toV)))else B (HO.bF {cls:=.type "tuple",data:=.seq vs.toArray} (.tup (vs.toArray.toList.map toV))))=_;simp
section
variable{P:bx}{w:World}{K:aM}{h:a9}{A:List J}
def E1 (hb:b∈A)(hk:K.lookup b=N)(e:h.get? b=B o):jV K h A b=EZ o:=by unfold jV;grind
def afs (q:jV K h A b=B u):b∈A/\K.lookup b=none:=by
 unfold jV at q;by_cases hb:b∈A
 .rw[aD hb]at q;cases hk:K.lookup b with
  |none=>grind
  |some o=>rfl'
 rfl'
def E2 (ar:∀a∈A,oT h A a)(q:jV K h A b=B u):K.lookup b=N/\∃vs:List aj,vs.length<=aL/\(∀u∈vs,nY A u)/\
  ((h.get? b=B {cls:=.type "list",data:=.seq vs.toArray}/\u=.bF {cls:=.type "list",data:=.seq vs.toArray} (.Z (vs.map toV)))\/(h.get? b=B {cls:=.type "tuple",data:=.seq vs.toArray}/\u=.bF {cls:=.type "tuple",data:=.seq vs.toArray} (.tup (vs.map toV)))):=by
 obtain⟨hb,hk⟩:=afs q;obtain⟨vs,h1,h2,h3⟩:=ar b hb;refine⟨hk,vs,h1,h2,?_⟩;rcases h3 with e|e
 .rw[E1 hb hk e,Td]at q;grind
 .rw[E1 hb hk e,Te]at q;grind
def aft (ar:∀a∈A,oT h A a):Bx (jV K h A):=λb=>by
 cases q:jV K h A b with
 |none=>simp
 |some u=>obtain⟨_,vs,_,_,⟨_,e⟩|⟨_,e⟩⟩:=E2 ar q;rfl'
def afu (ar:∀a∈A,oT h A a):eV P w (jV K h A) h:=λb u q=>by
 obtain⟨_,vs,h1,h2,⟨e,rfl⟩|⟨e,rfl⟩⟩:=E2 ar q
 .exact⟨e,by grind,vs,_,yR h2,e⟩
 .exact⟨e,by grind,vs,yR h2,_,e,O,_,O⟩
def apz {vs us:List aj}(e:(B {cls:=c,data:=.seq vs.toArray}:Option Obj)=B {cls:=c',data:=.seq us.toArray}):c=c'/\vs=us:=by grind
def afv (KX:K.In h)(ar:∀a∈A,oT h A a){vs:List aj}(ha:a∈A)(e:h.get? a=B {cls:=.type "list",data:=.seq vs.toArray}):(∀u∈vs,nY A u)/\aC K (jV K h A) a (vs.map toV):=by
 obtain⟨us,h1,h2,h3⟩:=ar a ha
 have hu:us=vs:=by grind
 subst hu;refine⟨h2,?_⟩;cases hk:K.lookup a with
 |none=>exact .inl (.inr ⟨_,by rw[E1 ha hk e,Td]⟩)
 |some o=>have e2:=KX a o hk;rw[e]at e2;obtain rfl:=iO e2;exact .inr ⟨_,us.toArray,_,hk,O,O,O,by lia,by simpa using yR h2⟩
def afw (KX:K.In h)(ar:∀a∈A,oT h A a){vs:List aj}(ha:a∈A)(e:h.get? a=B {cls:=.type "tuple",data:=.seq vs.toArray}):(∀u∈vs,nY A u)/\cW K (jV K h A) a (vs.map toV):=by
 obtain⟨us,h1,h2,h3⟩:=ar a ha
 have hu:us=vs:=by grind
 subst hu;refine⟨h2,?_⟩;cases hk:K.lookup a with
 |none=>exact .inl (.inr ⟨_,by rw[E1 ha hk e,Te]⟩)
 |some o=>have e2:=KX a o hk;rw[e]at e2;obtain rfl:=iO e2;exact .inr ⟨_,us.toArray,_,hk,O,O,by lia,by simpa using yR h2⟩
mutual
theorem afx {Pm:Bw}(KX:K.In h)(ar:∀a∈A,oT h A a):∀(d:WData)(v:aj),Well Pm h v d->mW d=L->nY A v->Dw K (jV K h A) (toV v) d
 |.none,_,x,_,_=>by
  cases x
  exact .bB
 |.bool b,_,x,_,_=>by
  cases x
  exact .bl b
 |.int i,_,x,_,_=>by
  cases x
  exact .int i
 |.str s,_,x,_,_=>by
  cases x
  exact .str s
 |.bytes b,_,x,_,_=>by
  cases x
  have z:=Dw.jM (K:=K) (H:=jV K h A) b.toArray;exact z
 |.list ds,_,x,p,hu=>by obtain⟨a,vs,rfl,ho,j6⟩:=S8 x;obtain⟨h2,hs⟩:=afv KX ar hu ho;exact .Z hs (E3 KX ar ds _ j6 p h2)
 |.tuple ds,_,x,p,hu=>by obtain⟨a,vs,rfl,ho,j6⟩:=S9 x;obtain⟨h2,hs⟩:=afw KX ar hu ho;exact .tup hs (E3 KX ar ds _ j6 p h2)
 |.float _,_,_,p,_=>jU (show aH=L from p)
 |.dict _,_,_,p,_=>jU (show aH=L from p)
 |.bytearray _,_,_,p,_=>jU (show aH=L from p)
 |.set _,_,_,p,_=>jU (show aH=L from p)
 |.frozenset _,_,_,p,_=>jU (show aH=L from p)
 |.obj _ _,_,_,p,_=>jU (show aH=L from p)
theorem E3 {Pm:Bw}(KX:K.In h)(ar:∀a∈A,oT h A a):∀(ds:List WData)(vs:List aj),WellAll Pm h vs ds->oS ds=L->(∀u∈vs,nY A u)->oR K (jV K h A) (vs.map toV) ds
 |[],_,x,_,_=>by
  cases x
  exact .nil
 |d::ds,_,x,p,hu=>by obtain⟨v,vs,rfl,x1,x2⟩:=Ta x;have q:mW d=L/\oS ds=true:=EY.mp p;exact .cons (afx KX ar d v x1 q.1 (hu _ (eR ..))) (E3 KX ar ds vs x2 q.2 λu m=>hu u (eD _ m))
end
end
def afy {P:bx}{w:World}{K:aM}{mg mb:ao->Option aj}{CX:oO}{k:Nat}{fa:J}{fd:jk}{ps:List ao}{sp:Sp}{s₁:aF}{vals:List aj}{ds:List WData}{R:SY}{cl:ao->Option J}{d0:WData}
  (KX:K.In s₁.heap) (Tf:s₁.heap.Ns jO mg) (hb:s₁.heap.Ns Ih mb) (yS:∀x:ao,x≠"__name__"->mb x=ko x) (afz:s₁.heap.NoLimit) (hg:s₁.gens=#[])
  (By:WellAll w.params s₁.heap vals ds) (gX:oS ds=L) (hwt:∀d∈ds,d.weight<=1048576) (hr:fU k callerA)
  (F:∀ak:a9,K.In ak->ak.Ns jO mg->bu P w K mg ak CX k fa fd ps sp) (afB:∀(s:aF)(us:List aj),us.length=ps.length->BindsTo s fd ⟨us,[]⟩ (ps.zip us)) (hlen:ds.length=ps.length)
  (rm:∀(H:Hp)(xs:List V),Bx H->oR K H xs ds->sp xs H (λv H'=>Dw K H' v d0) λ_ _ _=>False)
  (Bz:∀H e s',CX [] H s₁ (λ_ _ _=>False) e s'->False):
  codeAny (model P w) callerA (.call (.ref fa) ⟨vals,[]⟩) (λr s'=>∃u as,r=.ok (.ret u)/\ReadsW R cl s'.heap u d0 as/\OldK s₁.heap s'.heap/\s'.os=s₁.os/\AllBare s'.gens) s₁:=by
 obtain⟨A,ho,ar⟩:=EX ds vals By gX hwt;have hO:Bx (jV K s₁.heap A):=aft ar;have aV:eV P w (jV K s₁.heap A) s₁.heap:=afu ar;have hS:=E3 KX ar ds vals By gX ho;have hV:=yR ho;have hK:∀b u,jV K s₁.heap A b=B u->K.lookup b=none:=λb u q=>(E2 ar q).1
 have yw:∀{b:J}{o:Obj}{es:Array kz}{ep:Nat},s₁.heap.get? b=B o->o.data=.dict es ep->jV K s₁.heap A b=none:=λ{b o es ep} e d=>by
  cases q:jV K s₁.heap A b with
  |none=>rfl
  |some u=>obtain⟨_,vs,_,_,⟨e2,_⟩|⟨e2,_⟩⟩:=E2 ar q;rfl'
 generalize jV K s₁.heap A=H at hO aV hS hK yw;have base_of:∀{b:J}{o:Obj},s₁.heap.get? b=B o->H b=N->(sJ s₁.heap H).get? b=B o:=λe n=>ab0 e n;have E4:∀{b:J}{m:ao->Option aj},s₁.heap.Ns b m->(sJ s₁.heap H).Ns b m:=λ{b m} ⟨o,es,ep,e,d,r⟩=>⟨o,es,ep,base_of e (yw e d),d,r⟩
 have nK:∀b o,K.lookup b=B o->H b=none:=λb o e=>by
  cases q:H b with
  |none=>rfl
  |some u=>rw[hK b u q]at e;cases e
 have Tg:K.In (sJ s₁.heap H):=λb o e=>base_of (KX b o e) (nK b o e);have hM:Mod K mg (sJ s₁.heap H):=⟨Tg,E4 Tf,⟨mb,E4 hb,yS⟩,let⟨mc,h1,h2⟩:=afz;⟨mc,E4 h1,h2⟩⟩;have e0:wF P w K mg (sJ s₁.heap H) callerA [] s₁ H:=⟨O,hM,λb o e=>ab1 e,Eg (abZ _ _),trivial,λb hb=>bT (show b∈([]:List J)from hb) (by simp),aV,.of_eq hg⟩;have hl:vals.length=ps.length:=by rw[EW By];exact hlen
 refine codeAny_mono ((F _ Tg (E4 Tf)).run callerA [] s₁ H ⟨vals,[]⟩ vals (vals.map toV) _ _ hr e0 (afB s₁ vals hl) hV (rm H _ hO hS)) λr s' x=>?_;cases r with
 |error e=>exact(Bz H e s' x).elim
 |ok fl=>
  cases fl with
  |next=>exact lM x
  |brk=>exact lM x
  |cont=>exact lM x
  |ret u=>
   obtain⟨v,H',os,bare,un,Th,r',q⟩:=x
   have kept:∀b o,s₁.heap.get? b=B o->s'.heap.get? b=B o:=λb o e=>by
    cases q2:H b with
    |none=>exact un.keep b o e q2 (by intro z;exact bT (show b∈([]:List J)from z) (by simp)) (by simp)
    |some u2=>
     rcases hO b with z|⟨ob,u3,z⟩
     .rw[q2]at z;cases z
     .have z2:=un.pV b ob _ z;obtain⟨e1,_⟩:=aV b _ z;obtain⟨e2,_⟩:=Th b _ z2;rfl'
   have KX':K.In s'.heap:=λb o e=>kept b o (KX b o e);obtain⟨as,Ti⟩:=Dw.reads (R:=R) (cl:=cl) Th KX' d0 v u q r';exact⟨u,as,O,Ti,OldK.of_keep kept,os,bare⟩
def afD (h:WData.layableAll ds=L):∀d∈ds,d.weight<=1048576:=λd hd=>
 (PySem.W.layableW_iff.mp (iK.mp h d hd)).2.2
def Tj:∀(cs:List Codec)(a:EU cs),(yQ cs a).length=cs.length
 |[],_=>rfl
 |c::cs,a=>by show(yQ cs a.2).length+1=cs.length+1;rw[Tj cs a.2]
def afE {r:OpenSpec}{k:Nat}{loose:List ao}{XP:(ao->Option aj)->a9->Prop}{YP:World->a9->Prop}{d:DefRec}{K:Bw->aM}{CX:World->oO}{ps:List ao}{sp:World->Sp}
  (JS:r.wellSaid=L) (Tn:d.params.defaults=[]) (hlen:r.args.length=ps.length) (hr:fU k callerA)
  (hY:∀(w:World)(h:a9),YP w h->(K w.params).In h)
  (F:∀(w:World)(mg:ao->Option aj)(fa:J)(h:a9),YP w h->(K w.params).In h->h.Ns jO mg->mg d.name=B (.ref fa)->∃fd:jk,(∀(s:aF)(us:List aj),us.length=ps.length->BindsTo s fd ⟨us,[]⟩ (ps.zip us))/\∀ak:a9,(K w.params).In ak->ak.Ns jO mg->bu r.prog w (K w.params) mg ak (CX w) k fa fd ps (sp w))
  (rm:∀(w:World)(H:Hp)(xs:List V)(a:EU r.args),Bx H->To r.args a=L->BA r.args r.asked a=L->oR (K w.params) H xs (yQ r.args a)->sp w xs H (λv H'=>Dw (K w.params) H' v (r.ret.enc (BA r.args r.f a))) λ_ _ _=>False)
  (Bz:∀(w:World)(H:Hp)(s:aF)(e:aj)(s':aF),CX w [] H s (λ_ _ _=>False) e s'->False):
  Tp q loose XP YP r d [] (λf vs=>Tq f vs):=by intro w jv s₁ mg mb G b6 fa o pm cd doc dV kV ho hd lK hD JT hg args vals as afF afG Ti By Tr;obtain⟨a,e1,e2⟩:=PySem.W.os_pre_some afF;obtain⟨e3,E5⟩:=Codec.encAll_of_decAll r.args args a e1;subst e3;have KX:=hY w _ b6;obtain⟨fd,hb,hF⟩:=F w mg fa _ b6 KX G.T.g JT;refine PySem.W.enter_call (codeAny_mono (afy (R:=[]) (cl:=classAt jv.heap) (d0:=r.ret.enc (BA r.args r.f a)) KX G.T.g G.T.b G.T.builtins G.T.nolimit hg By (S7 _ _) (afD afG) hr hF hb (by rw[Tj];exact hlen) (λH xs hO hS=>rm w H xs a hO E5 e2 hS) λH e s'=>Bz w H s₁ e s') λr' s' hq=>?_);obtain⟨u,as',rfl,h1,h2,h3,h4⟩:=hq;exact⟨.inl ⟨u,_,as',O,λ_=>rfl,h1,(OpenSpec.post_iff JS E5 _ _).mpr O,λz=>jU (show aH=L from z)⟩,h2,h3,h4⟩
def afI {r:OpenSpec}{k:Nat}{loose:List ao}{XP:(ao->Option aj)->a9->Prop}{YP:World->a9->Prop}{d:DefRec}{K:Bw->aM}{CX:oO}{ps:List ao}{sp:aM->Sp}
  (JS:r.wellSaid=L) (Tn:d.params.defaults=[]) (hlen:r.args.length=ps.length) (hr:fU k callerA)
  (hY:∀(w:World)(h:a9),YP w h->(K w.params).In h)
  (F:∀(w:World)(mg:ao->Option aj)(fa:J)(h:a9),YP w h->(K w.params).In h->h.Ns jO mg->mg d.name=B (.ref fa)->∃fd:jk,(∀(s:aF)(us:List aj),us.length=ps.length->BindsTo s fd ⟨us,[]⟩ (ps.zip us))/\∀ak:a9,(K w.params).In ak->ak.Ns jO mg->bu r.prog w (K w.params) mg ak CX k fa fd ps (sp (K w.params)))
  (rm:∀(K:aM)(H:Hp)(xs:List V)(a:EU r.args),Bx H->To r.args a=L->BA r.args r.asked a=L->oR K H xs (yQ r.args a)->sp K xs H (λv H'=>Dw K H' v (r.ret.enc (BA r.args r.f a))) λ_ _ _=>False)
  (Bz:∀(H:Hp)(s:aF)(e:aj)(s':aF),CX [] H s (λ_ _ _=>False) e s'->False):
  Tp q loose XP YP r d [] (λf vs=>Tq f vs):=
 afE (K:=K) (CX:=λ_=>CX) (sp:=λw=>sp (K w.params)) JS Tn hlen hr hY F (λw H xs a h1 h2 h3 h4=>rm (K w.params) H xs a h1 h2 h3 h4) λ_ H s e s'=>Bz H s e s'
end L2
end
namespace L2
open PySem PySem.Spec PyProof.Rows
section
variable{X:Cx}{a:bK}{ta:TE}{pos:Pos}
def Ts:gi X (binaryOp .Mult) (rI IntMulOk λi j=>.int (i*j)):=IA λ_ _ _ _ _ _ _ hc q=>mul_int q hc
def afJ (K:aM)(ta:TE):TE:=λσ H Q=>ta σ H λx H1=>∃k,IE K x H1 k/\Q (.bl (!k)) H1
def afK (ha:PE X a ta):PE X (.UnaryOp .Not a pos) (afJ X.K ta):=by intro Y s σ H Q I h;refine UnaryOp_ (ba (ha Y s σ H _ I h) λv s1 ⟨x,H1,I1,r1,k,hk,q1⟩=>?_);exact not_of (ba (QV Y s1 σ H1 x v (λb H'=>Q (.bl (!b)) H') I1 r1 ⟨k,hk,q1⟩) λb s2 ⟨H2,I2,q2⟩=>⟨.bl (!b),H2,I2,O,q2⟩)
def afL:kR X (.builtin "isinstance") (λxs H Q=>(∃i,xs=[.int i,.ty "int"]/\Q (.bl L) H)\/∃p ys,xs=[.ref p,.ty "int"]/\H p=B (.tup ys)/\Q (.bl aH) H):=by
 intro Y s σ H xs us Q I r h;rcases h with⟨i,rfl,q⟩|⟨p,ys,rfl,hp,q⟩
 .obtain⟨u,w',rfl,r1,r2⟩:=vals2 r;cases r2
  exact Q1 (t:=.type "int") I r1 (.int i) (show IJ X.K (.type "int") (.type "int")=B L from rfl) λtk=>⟨.bl L,H,I.tok _,O,q⟩
 .obtain⟨u,w',rfl,r1,r2⟩:=vals2 r;cases r2
  exact Q1 (t:=.type "tuple") I r1 (.tup hp) (show IJ X.K (.type "tuple") (.type "int")=B aH by with_unfolding_all rfl) λtk=>⟨.bl aH,H,I.tok _,O,q⟩
def afM:A7 X "int.bit_length" (λx xs H Q=>∃i,x=.int i/\xs=[]/\Q (.int (u4 i)) H):=by
 intro Y s σ H x xs v us Q I rx r h;obtain⟨i,rfl,rfl,q⟩:=h;obtain⟨t,rfl⟩:=rx;cases r
 exact call_int_bit_length ⟨.int _,H,I.tok _,⟨_,O⟩,q⟩
end
section
variable{prog:bx}{w:World}{K:Type}[DecidableEq K]{knd:HeapKind prog w K}{A:dO}{E:aj->aF->Prop}{s:aF}{d a:J}{k:K}{xs:List (K×J×aj)}
def afN (d:J)(hd:(d==ju)=aH):MeetsIn prog w (Builtin.«dict.__len__» ⟨[.ref d],[]⟩) (λ_ R s=>∃xs,s.heap.DictOfH knd d xs/\R (.ok (.ret (.int xs.length s.toks))) {s with toks:=s.toks+1}):=
 .of_wp λA R s ⟨xs,hm,h⟩=>by obtain⟨o,es,ep,ho,hc,gI,he,oU,hn⟩:=hm;show wpAny _ _ (dictSize d>>=_) _ _ s;unfold dictSize;refine aJ (aJ (wpAny_dictEntries ho gI (bj ?_)));show wpAny _ _ (afO d>>=_) _ _ s;refine aJ (wpAny_pendingCount_other hd ?_);refine wpAny_ret_mkInt ?_;have:es.size=xs.length:=yN he;grind
def afP (hd:(d==ju)=aH)(hm:s.heap.DictOfH knd d xs)(RE:(xs.length:Int)<2^63)
  (h:∀t tk,Q (.int xs.length t) {s with toks:=tk}):wpAny (model prog w) A (call (.builtin "len") [.ref d]) Q E s:=by refine Tt kind_len plain_len entry_len (args_len1 _) ?_;unfold Builtin.«len»;refine aJ (m:=oneArg "len" _) (bj ?_);refine aJ (m:=callSpecial? (.ref d) (tw "__len__")) (wpAny_callSpecial?_slot (name:=tw "__len__") hm.typeIs Tu (call_meetsIn Tu hm.typeIs PySem.F.entry_dict_len (PySem.F.args_dict_len_1 _) (afN (knd:=knd) d hd) ⟨xs,hm,?_⟩));show wpAny _ _ _ _ _ {s with toks:=s.toks+1};refine aJ (wpAny_holding (bj ?_));refine aJ (wpAny_letGo ?_);show wpAny _ _ (if((xs.length:Nat):Int)<0 then _ else _) _ _ _;rw[au (by lia)];show wpAny _ _ (if((xs.length:Nat):Int)≥2^63 then _ else _) _ _ _;rw[au (by lia)];exact aJ (wpAny_mkInt (bj ⟨_,O,h _ _⟩))
noncomputable def tH (xs:List (K×J×aj))(k:K):List (K×J×aj):=xs.filter λx=>decide (x.1≠k)
theorem Tv (k:K):∀xs:List (K×J×aj),k∉xs.map (·.1)->tH xs k=xs
 |[],_=>rfl
 |x::xs,h=>by have h2:k∉xs.map (·.1):=λm=>h (by grind);have ih:=Tv k xs h2;unfold tH at ih ⊢;grind
theorem JU:∀{xs:List (K×J×aj)}{j:Nat}{p:J×aj},(xs.map (·.1)).Nodup->xs[j]?=B (k,p)->xs.eraseIdx j=tH xs k
 |[],j,p,_,h=>by simp at h
 |x::xs,0,p,hn,h=>by
  have e:x=(k,p):=by simpa using h
  rw[dX,fW]at hn;have:k∉xs.map (·.1):=by grind
  have q:=Tv k xs this;unfold tH at q ⊢;grind
 |x::xs,j+1,p,hn,h=>by
  rw[dX,fW]at hn;have h':xs[j]?=B (k,p):=by simpa using h
  have ih:=JU hn.2 h';unfold tH at ih ⊢;grind
theorem Tw (f:α->β):∀(l:List α)(j:Nat),(l.map f).eraseIdx j=(l.eraseIdx j).map f
 |[],j=>rfl
 |x::l,0=>rfl
 |x::l,j+1=>by rw[dX,Tx,Tx,dX,Tw f l j]
def afQ (hu:knd.room A)(oK:knd.is s.heap k a)(hm:s.heap.DictOfH knd d xs)(hsz:xs.length<=aL)(hp:atKey xs k=B p)
  (hQ:∀h' e,e.val=p.2->h'.DictOfH knd d (tH xs k)->jw d s.heap h'->Q (B e) {s with heap:=h',toks:=s.toks+knd.draws k}):
  wpAny (model prog w) A (Tz d (.ref a)) Q E s:=by
 obtain⟨o,es,ep,ho,hc,gI,he,oU,hn⟩:=id hm;have hes:es.size<=aL:=by rw[yN he];exact hsz
 unfold Tz;refine wpAny_holding ?_;refine aJ (knd.pyHash hu oK ?_);refine aJ (wpAny_dictFind_heap (s:={s with toks:=s.toks+knd.draws k}) hu oK ho gI he oU hn (λoA=>?_) λj q hj=>?_)
 .rw[atKey_none_of_get oA]at hp;cases hp
 .have hpq:q=p:=by have:=atKey_of_get hn hj;grind
  subst hpq;refine aJ (wpAny_dictEntries (s:={s with toks:=s.toks+knd.draws k}) ho gI ?_);have mU:es[j]?=B (entryOfKey knd (k,q)):=by rw[entry_at he,hj];rfl
  rw[mU];refine aJ (wpAny_updateDictKeys (hz:=hes) (s:={s with toks:=s.toks+knd.draws k}) ho gI (bj (hQ _ _ rfl ?_ (wR ..))));have sb:jw d s.heap (s.heap.update d (TB (·.eraseIdxIfInBounds j))):=wR ..;refine⟨_,_,ep+1,yy _ ho (TF (E6 gI _)),hc.mapDictKeys _,E6 gI _,?_,λx hx=>?_,?_⟩
  .have e1:(es.eraseIdxIfInBounds j).toList=es.toList.eraseIdx j:=by simp
   rw[e1,he,Tw,JU hn hj]
  .exact knd.keeps (oU x (fw.mp hx).1) ho gI sb
  .rw[<-JU hn hj];grind
def afT (d a:J):MeetsIn prog w (Builtin.«dict.pop» ⟨[.ref d,.ref a],[]⟩) (λA R s=>knd.room A.in1/\∃k xs p,knd.is s.heap k a/\s.heap.DictOfH knd d xs/\xs.length<=aL/\atKey xs k=B p/\∀h',h'.DictOfH knd d (tH xs k)->jw d s.heap h'->R (.ok (.ret p.2)) {s with heap:=h',toks:=s.toks+knd.draws k}):=
 .of_wp λA R s ⟨hu,k,xs,p,oK,hm,hsz,hp,h⟩=>by
  obtain⟨o,es,ep,ho,hc,gI,he,oU,hn⟩:=id hm;unfold Builtin.«dict.pop»;refine aJ ?_;unfold afV;refine aJ (wpAny_notOrdered_dict hm.typeIs ?_);show wpAny _ _ (pure (d,cv a,N)) _ _ s;refine bj ?_;have hkp:(keyPart (cv a)).isSome=false:=rfl;simp only[hkp,qm,if_false];refine aJ (wpAny_dictEntries ho gI ?_);refine aJ (bj ?_)
  have ck:es.isEmpty=false:=by
   cases q:es.isEmpty with
   |false=>rfl
   |true=>
    have e0:es=#[]:=Array.isEmpty_iff.mp q
    have e1:=yN he;rw[e0]at e1;have e2:xs=[]:=E7 e1.symm;rw[e2]at hp;cases hp
  rw[ck];simp only[qm,if_false];refine aJ (afQ hu oK hm hsz hp λh' e hev rF wX=>?_);simp only[Option.isNone_some,qm,if_false];exact aJ (wpAny_letGo (bj ⟨e.val,O,by grind⟩))
end
section
variable{X:Cx}{Y:List (J×Obj)}{σ:St}{H:Hp}{s:aF}{a b:J}{kvs:List (List Key×V)}{k:List Key}{A:dO}{E:aj->aF->Prop}
def KT.drop (r:KT H kvs xs)(k:List Key):KT H (wK kvs k) (tH xs k):=by
 induction r with
 |nil=>exact .nil
 |@cons p q ps qs h t ih=>
  unfold wK tH at ih ⊢;rw[kY,kY];by_cases e:p.1=k
  .grind
  .rw[aD (by simpa using e),aD (by grind)];exact .cons h ih
def afX (hu:A.units+1<cLine)(I:Inv X Y σ H s)(e:H a=B (.dT kvs))(eb:H b=B (.tup (k.map kV)))(l:cE kvs k=B v)
  (h:∀w' s',Inv X Y σ (M H a (.dT (wK kvs k))) s'->RelV v w'->Q w' s'):wpAny (model X.prog X.w) A (call (.builtin "dict.pop") [.ref a,.ref b]) Q E s:=by
 funext X Y σ H s a b kvs k A E v Q
 obtain⟨z,hd,xs,rel,dd⟩:=EH I.aV e;obtain⟨w',hw,mJ⟩:=jN.some_of (v:=v) (o:=(atKey xs k).map (·.2)) (by rw[<-l];exact rel.val k);obtain⟨p,hp,gk⟩:=Jk.mp hw;have hz:xs.length<=aL:=by rw[<-km rel];exact z
 refine call_meetsIn TH dd.typeIs PySem.F.entry_dict_pop (PySem.F.args_dict_pop_2 _ _) (afT (knd:=tupleKind (dN X.prog X.w)) a b)
  ⟨tupleKind_room_in1 hu,k,xs,p,wN I.aV eb,dd,hz,hp,λh' nV hs=>h p.2 _ ?_ (by grind)⟩
 obtain⟨q,es,ep,hq,h2,h3,h4,_,h5⟩:=nV;refine EI I (by rw[e];exact mH) hs ⟨q,hq⟩ ⟨fJ (aeM kvs k) z,hd,_,(rel.drop k).keeps λc ys ec=>?_,q,es,ep,hq,h2,h3,h4,h5⟩;rw[aa (bE ec e (λz=>nomatch z))];exact ec
def afY (I:Inv X Y σ H s)(e:Rd H a (.dT kvs))(h:∀t s',Inv X Y σ H s'->Q (.int kvs.length t) s'):wpAny (model X.prog X.w) A (call (.builtin "len") [.ref a]) Q E s:=by obtain⟨z,hd,xs,rel,dd⟩:=uV I.aV e;have hl:kvs.length=xs.length:=km rel;rw[hl]at h z;exact afP hd dd (by rw[wC]at z;lia) λt tk=>h _ _ (I.tok _)
end
section
variable{X:Cx}{o e:bK}{apos dI:Pos}{td ty:TE}
def afZ (td ty:TE):TE:=λσ H Q=>td σ H λx H1=>∃a,x=.ref a/\JD H1 a/\ty σ H1 λy H2=>e_4 λkvs k v b=>H2 a=B (.dT kvs)/\y=.ref b/\H2 b=B (.tup (k.map kV))/\cE kvs k=B v/\Q v (M H2 a (.dT (wK kvs k)))
def af0 (hu:X.A.units+1<cLine)(ho:PE X o td)(he:PE X e ty)(m:M1 X o "pop" apos e dI):PE X (.Call (.Attribute o "pop" apos) [e] [] dI) (afZ td ty):=by intro Y s σ H Q I h;refine Bp m.ak m.cz m.line Bq TH PySem.F.type_dict_pop (ba (ho Y s σ H _ I h) λu s1 ⟨x,H1,I1,rx,a,ex,d,q1⟩=>?_);subst ex;obtain rfl:u=cv a:=rx;obtain⟨t1,t2,_⟩:=Sq I1 d;refine⟨t1,t2,?_⟩;rw[m.trees];refine Es O (Jd (sX (ba (he Y s1 σ H1 _ I1 q1) λiv s2 ⟨y,H2,I2,ry,kvs,k,v,b,ea,ey,eb,l,q2⟩=>uL ?_)));subst ey;obtain rfl:iv=cv b:=ry;exact afX hu I2 ea eb l λw' s3 I3 mJ=>⟨v,_,I3,mJ,q2⟩
def BB:kR X (.builtin "len") (λxs H Q=>∃a kvs,xs=[V.ref a]/\H a=B (.dT kvs)/\Q (.int kvs.length) H):=by
 intro Y s σ H xs us Q I r h;obtain⟨a,kvs,rfl,ha,q⟩:=h;obtain⟨u,rfl,ru⟩:=vals1 r;cases ru
 exact afY I (.inl ha) λt s' I'=>⟨.int kvs.length,H,I',⟨t,O⟩,q⟩
end
section
variable{prog:bx}{w:World}{K:Type}[DecidableEq K]{knd:KeyKind prog w K}{A:dO}{E:aj->aF->Prop}{s:aF}{d a:J}{xs:List (List K×J×aj)}
def af1 {es:List kz}(hn:(es.map (·.hash)).Nodup)(e:kz):(es.filter (·.hash==e.hash)).length<=1:=by
 induction es with
 |nil=>simp
 |cons x es ih=>rw[dX,fW]at hn;rw[kY];split<;>simp_all
def af2 {id:String}{es:Array kz}{ep:Nat}{Q:Array kz->aF->Prop}(ho:s.heap.get? d=B o)(hd:o.data=.dict es ep)
  (he:es.toList=xs.map (entryOfKey (tupleKind knd))) (oU:∀x∈xs,(tupleKind knd).is s.heap x.1 x.2.1) (hh:(es.toList.map (·.hash)).Nodup) (h:Q es s):
  wpAny (model prog w) A (TJ id d) Q E s:=by
 unfold TJ;refine aJ (wpAny_dictEntries ho hd ?_);refine aJ ?_;rw[<-Array.forIn_toList];refine wpAny_forIn_list _ (λl _ s'=>s'=s/\∀e∈l,e∈es.toList) _ ?_ ?_ _ _ ⟨O,λ_ z=>z⟩
 .rintro e rest b s' ⟨rfl,hl⟩;have hm:e∈es.toList:=hl e eR;rw[he]at hm;obtain⟨x,hx,rfl⟩:=cx.mp hm;have ht:s'.TypeIs (.ref x.2.1) "tuple":=IsTupleKey.typeIs (oU x hx);show wpAny _ _ (TK (.ref x.2.1)>>=_) _ _ s';unfold TK;refine aJ (aJ (wpAny_specialOf ht PySem.F.slot_tuple_eq.lookup (bj ?_)));have hq:(B (TN "tuple.__eq__")==B (TN "object.__eq__"))=false:=by decide
  rw[hq]
  have hf:¬(es.filter (·.hash==(entryOfKey (tupleKind knd) x).hash)).size>1:=by
   have:=af1 hh (entryOfKey (tupleKind knd) x)
   have e2:(es.filter (·.hash==(entryOfKey (tupleKind knd) x).hash)).size=(es.toList.filter (·.hash==(entryOfKey (tupleKind knd) x).hash)).length:=by rw[<-Array.toList_filter,JV]
   lia
  simp only[JW,if_true];rw[au hf];exact bj ⟨O,λe z=>hl e (eD _ z)⟩
 .rintro b s' ⟨rfl,_⟩;exact bj h
def af3 (TQ:d≠o)(TR:(o==ju)=aH)(gv:s.heap.get? d=B od)(lK:od.ExactDict)(i7:od.data=.dict #[] TU)
  (hm:s.heap.DictOfH (tupleKind knd) o xs) (hsz:xs.length<=aL) (hh:(xs.map λx=>tupleKeyHash knd x.1).Nodup)
  (hQ:∀h',h'.DictOfH (tupleKind knd) d xs->jw d s.heap h'->Q () {s with heap:=h'}):
  wpAny (model prog w) A (TX nm d o) Q E s:=by
 obtain⟨oo,es,ep,ho,hc,gI,he,oU,hn⟩:=id hm;have hlen:es.size=xs.length:=yN he
 have hhe:(es.toList.map (·.hash)).Nodup:=by rw[he,gw];exact hh
 unfold TX;rw[au (by grind)];unfold JK;rw[au (by grind)];refine aJ (bj ?_);refine aJ (wpAny_dictEntries ho gI ?_);cases xs with
 |nil=>
  have e0:es=#[]:=Array.eq_empty_of_size_eq_zero hlen
  subst e0
  have hf:(decide ((#[]:Array kz).size<=8)&&(#[]:Array kz).all λe=>(keyPart e.key).isSome)=true:=by simp
  simp only[hf,TY,qm,if_false];refine aJ (wpAny_dictEpoch ho gI ?_);refine aJ (wpAny_dictEntries ho gI ?_);rw[af5];refine aJ ?_;simp only[af6,A8,mQ,BC,TZ,Nat.div_one,yT,List.range'_zero,Jl];refine bj (bj ?_)
  exact hQ s.heap ⟨od,#[],TU,gv,lK,i7,O,(λ_ h=>nomatch h),j5⟩ (af7 _ _)
 |cons x xs=>
  have hf:(decide (es.size<=8)&&es.all λe=>(keyPart e.key).isSome)=false:=by
   have:(es.all λe=>(keyPart e.key).isSome)=false:=by rw[<-Array.all_toList,he,dX,yz];rfl
   grind
  simp only[hf,JW,if_true];refine aJ (wpAny_dictEntries gv i7 ?_);rw[aD (by rfl)];refine aJ (af2 ho gI he oU hhe ?_)
  have ck:es.isEmpty=false:=by grind
  simp only[ck,JW,if_true];refine aJ (wpAny_updateDictKeysTo gv i7 (bj ?_) (by lia));have sb:jw d s.heap (s.heap.update d (TB λ_=>es)):=wR ..;refine hQ _ ⟨_,_,TU+1,yy _ gv (TF (E6 i7 _)),lK.mapDictKeys _,E6 i7 _,he,λy hy=>(tupleKind knd).keeps (oU y hy) gv i7 sb,hn⟩ sb
def af8 (TR:(o==ju)=aH)(hm:s.heap.DictOfH (tupleKind knd) o xs)(hsz:xs.length<=aL)(hh:(xs.map λx=>tupleKeyHash knd x.1).Nodup)
  (h:∀h',h'.DictOfH (tupleKind knd) s.heap.objs.size xs->jw s.heap.objs.size (s.heap.push {cls:=.type "dict",data:=.dict #[]}) h'->Q (.ref s.heap.objs.size) {s with heap:=h'}):
  wpAny (model prog w) A (call (.type "dict") [.ref o]) Q E s:=by
 refine JX (Q₁:=λobj s₁=>obj=.ref s.heap.objs.size/\s₁={s with heap:=s.heap.push {cls:=.type "dict",data:=.dict #[]}}) PySem.F.kt_called_dict (PySem.F.kt_typeCall_dict_1 _) PySem.F.entry_dict_init (kt_code_dict_new _ ⟨O,O⟩) ?_
 rintro obj s₁ ⟨rfl,rfl⟩;obtain⟨oo,es,ep,ho,hc,gI,he,oU,hn⟩:=id hm
 have uO:(s.heap.push {cls:=.type "dict",data:=.dict #[]}).get? s.heap.objs.size=B {cls:=.type "dict",data:=.dict #[]}:=fK _ rfl
 have lI:(s.heap.push {cls:=.type "dict",data:=.dict #[]}).get? o=B oo:=dP _ ho
 have ty:∀t:Nat,T1 {s with heap:=s.heap.push {cls:=.type "dict",data:=.dict #[]},toks:=t} (.ref s.heap.objs.size) "dict":=λt=>⟨_,uO,O⟩
 have JY:∀t:Nat,T1 {s with heap:=s.heap.push {cls:=.type "dict",data:=.dict #[]},toks:=t} (.ref o) "dict":=λt=>⟨_,lI,hc.1⟩
 have TQ:s.heap.objs.size≠o:=λe=>bT (cU ho) (by grind);refine⟨ty _,PySem.F.args_dict_init_2 _ _,?_⟩;unfold Builtin.«dict.__init__»;refine aJ ?_;unfold af';refine aJ (wpAny_notOrdered_dict (ty _) ?_);show wpAny _ _ (pure (s.heap.objs.size,[cv o])) _ _ _;refine bj ?_;show wpAny _ _ (T2 "dict.__init__" s.heap.objs.size (.ref o) [] .none) _ _ _;unfold T2;refine aJ (wpAny_typeOf (JY _) ?_);rw[au (by decide)];refine aJ ?_;unfold aga;refine aJ ?_;unfold agb;refine aJ (wpAny_isInstance (JY _) isSubtype_dict_dict ?_);simp only[TY,qm,if_false];refine aJ (wpAny_specialOf (JY _) JJ.lookup (bj ?_));simp only[beq_self_eq_true,if_true];refine aJ (bj ?_)
 have rF:(s.heap.push {cls:=.type "dict",data:=.dict #[]}).DictOfH (tupleKind knd) o xs:=⟨oo,es,ep,lI,hc,gI,he,λx hx=>by
  obtain⟨ob,aI,n,h1,h2,h3,h4⟩:=oU x hx
  exact⟨ob,aI,n,dP _ h1,h2,h3,h4⟩,hn⟩
 refine af3 TQ TR uO ⟨O,O,O⟩ O rF hsz hh λh' qX wX=>?_;show wpAny _ _ (agc s.heap.objs.size []>>=_) _ _ _;exact aJ (bj (bj ⟨O,h h' qX wX⟩))
end
section
variable{X:Cx}{Y:List (J×Obj)}{σ:St}{H:Hp}{s:aF}{a:J}{kvs:List (List Key×V)}{A:dO}{E:aj->aF->Prop}
def BD (P:bx)(w:World)(kvs:List (List Key×V)):Prop:=(kvs.map λkv=>tupleKeyHash (dN P w) kv.1).Nodup
def KT.keys (r:KT H kvs xs):kvs.map (·.1)=xs.map (·.1):=by
 induction r with
 |nil=>rfl
 |@cons p q ps qs h t ih=>grind
def agd (I:Inv X Y σ H s)(e:H a=B (.dT kvs))(hk:BD X.prog X.w kvs)(h:∀p s',H p=N->Inv X Y σ (M H p (.dT kvs)) s'->Q (.ref p) s'):
  wpAny (model X.prog X.w) A (call (.type "dict") [.ref a]) Q E s:=by
 funext X Y σ H s a kvs A E Q
 obtain⟨z,hd,xs,rel,dd⟩:=EH I.aV e
 have hx:(xs.map λx=>tupleKeyHash (dN X.prog X.w) x.1).Nodup:=by
  have e1:(xs.map λx=>tupleKeyHash (dN X.prog X.w) x.1)=(xs.map (·.1)).map (tupleKeyHash (dN X.prog X.w)):=by simp
  have e2:(kvs.map λx=>tupleKeyHash (dN X.prog X.w) x.1)=(kvs.map (·.1)).map (tupleKeyHash (dN X.prog X.w)):=by simp
  rw[e1,<-rel.keys,<-e2];exact hk
 have hz:xs.length<=aL:=by rw[<-km rel];exact z
 refine af8 hd dd hz hx λh' nV hs=>?_;have hf:=I.aV.fresh (aX s.heap.objs.size);obtain⟨q,es,ep,hq,h2,h3,h4,_,h5⟩:=nV;refine h _ _ hf (I.laid (a:=s.heap.objs.size) (o:=.dT kvs) (t':=s.toks) (λb q hq=>?_) (aX _) ⟨z,beq_eq_false_iff_ne.mpr (aP (fZ I.big)),xs,rel.keeps λc ys ec=>?_,q,es,ep,hq,h2,h3,h4,h5⟩)
 .exact(hs.2 b (fZ (cU hq))).trans (dP _ hq)
 .rw[aa (aK ec hf)];exact ec
def age:kR X (.type "dict") (λxs H Q=>∃a kvs,xs=[V.ref a]/\H a=B (.dK kvs)/\∀p,H p=N->Q (.ref p) (M H p (.dK kvs))):=by
 intro Y s σ H xs us Q I r h;obtain⟨a,kvs,rfl,ha,q⟩:=h;obtain⟨u,rfl,ru⟩:=vals1 r;cases ru
 exact ae8 I (.inl ha) λp s' hp I'=>⟨.ref p,_,I',O,q p hp⟩
def agf:kR X (.type "dict") (λxs H Q=>∃a kvs,xs=[V.ref a]/\H a=B (.dT kvs)/\BD X.prog X.w kvs/\∀p,H p=N->Q (.ref p) (M H p (.dT kvs))):=by
 intro Y s σ H xs us Q I r h;obtain⟨a,kvs,rfl,ha,hk,q⟩:=h;obtain⟨u,rfl,ru⟩:=vals1 r;cases ru
 exact agd I ha hk λp s' hp I'=>⟨.ref p,_,I',O,q p hp⟩
end
open PySem.W (KdlSrc)
section
variable{prog:bx}{w:World}{A:dO}{E:aj->aF->Prop}{s:aF}
def agg (hh:A.handled=N)(I d:J)(ck:d≠I)(gI:o.data=.dict es ep):
  Walks prog w A I [I,d] [I] es.size (λi v=>∃en,es[i]?=B en/\v=en.key) (λi h=>h.IsKeyIter I d i es.size ep/\h.get? d=B o)where
 sub:=λb hb=>by grind
 frame:=λ_ _ _ st hk=>⟨st.1.at λo e=>hk I (by simp) o e,hk d (by simp) o st.2⟩
 item:=λi s Q E hi st hQ=>by obtain⟨en,lV⟩:∃en,es[i]?=B en:=⟨es[i],JL hi⟩;refine Sz st.1 st.2 gI O lV λh' mT wX=>?_;exact hQ _ h' s.toks ⟨en,lV,O⟩ ⟨mT,(wX.2 d ck).trans st.2⟩ λb o hb e=>(wX.2 b (λz=>hb (by simp[z]))).trans e
 done:=λs Q E st hQ=>JM hh st.1 st.2 gI O (aX _) λh' eb=>hQ h' s.toks λb o hb e=>eb b o (λz=>hb (by simp[z])) e
 self:=λi s Q E st hQ=>SK st.1 hQ
def agh (lo:(d==ju)=aH)(hc:o.ExactDict)(gI:o.data=.dict es ep):
  KdlSrc prog w "dict" d d es.size (λi v=>∃en,es[i]?=B en/\v=en.key) (λh=>h.get? d=B o)where
 type:=λ_ hm=>⟨o,hm,hc.1⟩
 there:=λ_ hm=>⟨cU hm,cU hm⟩
 keep:=λ_ _ hm hk=>hk d (.inl O) o hm
 notList:=by decide
 notTuple:=by decide
 hint:=λ_ _ _ _ hm hq=>PySem.W.kdl_hint_dict ⟨o,hm,hc.1⟩ hq
 iter:=λ_ s hh hm=>⟨_,_,(λ_ _ hq=>JI lo hm hc gI hq),agg hh _ d (fZ (cU hm)) gI,⟨⟨_,fK _ O,O,O⟩,dP _ hm⟩⟩
end
section
variable{X:Cx}{Y:List (J×Obj)}{σ:St}{H:Hp}{s:aF}
def JZ {P:bx}{w:World}{h:a9}{a:J}{vs:List (Key×aj)}(d:h.DictOf (dN P w) a vs):∃ep,h.DictAt (dN P w) a vs ep:=by obtain⟨o,es,ep,r⟩:=d;exact⟨ep,o,es,r⟩
theorem BE:∀{xs:List V}{us:List aj},xs.length=us.length->(∀(j:Nat)(x:V)(u:aj),xs[j]?=B x->us[j]?=B u->RelV x u)->Vals xs us
 |[],[],_,_=>.nil
 |[],_::_,h,_=>by simp at h
 |_::_,[],h,_=>by simp at h
 |x::xs,u::us,h,k=>.cons (k 0 x u O O) (BE (by simpa using h) λj x' u' h1 h2=>k (j+1) x' u' (by grind) (by grind))
def agi (hc:X.calm=L):kR X (.type "list") (λxs H Q=>∃a kvs,xs=[.ref a]/\H a=B (.dK kvs)/\∀p,H p=N->Q (.ref p) (M H p (.Z (kvs.map λkv=>kV kv.1)))):=by
 funext X
 intro Y s σ H xs us Q I r h;obtain⟨a,kvs,rfl,ha,q⟩:=h;obtain⟨u,rfl,ru⟩:=vals1 r;cases ru
 obtain⟨z,hd,vs,rel,dd⟩:=Bm I.aV ha;obtain⟨ep,da⟩:=JZ dd;have hl:kvs.length=vs.length:=rel.length;refine T3 (T4 (knd:=dN X.prog X.w) (kvs:=vs) (ep:=ep) hd) (I.ok.hd hc) da (by lia) λh' tk acc c hk hS hi=>?_;refine⟨.ref s.heap.objs.size,_,I.laid (t':=tk) hk (aX _) (show d9 X.prog X.w _ h' _ (.Z (kvs.map λkv=>kV kv.1))from⟨by grind,acc.toList,c,?_,by lia⟩),O,q _ (I.aV.fresh (aX _))⟩;refine BE (by have h1:=hi.1;grind) λj x u hx hu=>?_;rw[ig]at hx;cases e:kvs[j]? with
 |none=>rw[e]at hx;cases hx
 |some kv=>
  rw[e]at hx;have ex:kV kv.1=x:=iO hx;obtain⟨k,y,T5,hku⟩:=hi.2 j u (by grind);obtain⟨u',ie,_⟩:=Bu rel (k:=kv.1) (v:=kv.2) e;rw[T5]at ie;cases ie
  rw[<-ex];exact ES hku
def agk (td:TE):TE:=λσ H Q=>td σ H λx H1=>e_2 λd kvs=>x=.ref d/\H1 d=B (.dK kvs)/\∀l,H1 l=N->Q (.ref l) (M H1 l (.Z (kvs.map (·.2))))
def J0:ko "list"=B (.type "list"):=by decide+kernel
def agl {e:bK}{td:TE}{p pos apos dI:Pos}(hc:X.calm=L)(hg:Gl X "list")(hm:X.mg "list"=N)(he:PE X e td)(qh:qe e "values" X.env (eval e X.env)=eval e X.env:=by rfl)(qi:(apos.endLine==dI.line)=true:=by rfl)
  (hs:starEach [.Call (.Attribute e "values" apos) [] [] dI] X.env=[(aH,eval (.Call (.Attribute e "values" apos) [] [] dI) X.env)]:=by rfl):
  PE X (.Call (.Name "list" p) [.Call (.Attribute e "values" apos) [] [] dI] [] pos) (agk td):=by
 funext X e td p pos apos dI
 intro Y s σ H Q I h;funext Y s σ H Q;refine sY (p0 I hg hm J0 ?_);refine uI ?_ hs rfl;rw[hs];show wpAny _ _ (spliced ((aH,eval (.Call (.Attribute e "values" apos) [] [] dI) X.env)::[])) _ _ s;refine sX ?_;refine Bp (T:="dict") (id:="dict.values") qh O qi Bq E8 T7 (ba (he Y s σ H _ I h) λu s1 ⟨x,H1,I1,rx,d,kvs,ex,ha,q⟩=>?_);subst ex;obtain rfl:u=cv d:=rx;obtain⟨z,hd,vs,rel,dd⟩:=Bm I1.aV ha;obtain⟨ep,da⟩:=JZ dd;have hl:kvs.length=vs.length:=rel.length;refine⟨dd.typeIs,dd.mapOf.noDict,?_⟩
 have I2:Inv X Y σ H1 {s1 with heap:=s1.heap.push {cls:=.type "dict_values",data:=.fields #[.ref d]}}:=I1.kept (t':=s1.toks) λb ob q=>dP _ q
 show wpAny _ _ (callWith dI (.builtin "dict.values") [.ref d] [] []) _ X.xe s1;refine JO E8 T8 O (Et ⟨O,dd.typeIs,T9 _,_,meets_dict_values (dN X.prog X.w) d hd,⟨vs,dd⟩,?_⟩);refine uL ?_;refine T3 (PySem.W.kdl_values (knd:=dN X.prog X.w) (kvs:=vs) (ep:=ep)) (I.ok.hd hc) ⟨⟨_,fK _ O,O,O⟩,da.push _⟩ (by lia) λh' tk acc c hk hS hi=>?_;refine⟨.ref _,_,I2.laid (t':=tk) hk (aX _) (show d9 X.prog X.w _ h' _ (.Z (kvs.map (·.2)))from⟨by grind,acc.toList,c,?_,by lia⟩),O,q _ (I2.aV.fresh (aX _))⟩;refine BE (by have h1:=hi.1;grind) λj x u hx hu=>?_;rw[ig]at hx;cases e:kvs[j]? with
 |none=>rw[e]at hx;cases hx
 |some kv=>rw[e]at hx;have ex:kv.2=x:=iO hx;obtain⟨k,T5⟩:=hi.2 j u (by grind);obtain⟨u',ie,ru⟩:=Bu rel (k:=kv.1) (v:=kv.2) e;rfl'
end
end L2
namespace L2
open PySem PySem.Spec PyProof.Rows PyProof.Rows.G
open PySem.W (KdlSrc)
section
variable{prog:bx}{w:World}{A:dO}{E:aj->aF->Prop}{s:aF}
def Ua {T:String}{n:Nat}{P:Nat->aj->Prop}{OK:a9->Prop}{κ:agm}{kd:SortKind}{Q:aj->aF->Prop}(K:KdlSrc prog w T r d n P OK)(hh:A.handled=N)(aV:OK s.heap)(hn:n<=aL)
  (h0:∀vs:List aj,vs.length=n->(∀(j:Nat)(v:aj),vs[j]?=B v->P j v)->agn κ (pairsOf vs))
  (hO:∀s₂:aF,KeepsTups s.heap s₂.heap->LtAt prog w s₂ κ kd)
  (hkk:∀vs:List aj,vs.length=n->(∀(j:Nat)(v:aj),vs[j]?=B v->P j v)->2<=vs.length->∀(A:dO)(E:aj->aF->Prop)(s₂:aF){Q:SortKind->aF->Prop},KeepsTups s.heap s₂.heap->Q kd s₂->wpAny (model prog w) A (keyKind' vs.toArray) Q E s₂)
  (h:∀(h1 h':a9)(tk:Nat)(vs:List aj)(fT:SortSt)(m:Nat),(∀b o,s.heap.get? b=B o->h1.get? b=B o)->(∀b o,h1.get? b=B o->h'.get? b=B o)->h'.get? h1.objs.size=B (seqObj "list" ((arrOf fT).map (·.2)) m)->vs.length=n->(∀(j:Nat)(v:aj),vs[j]?=B v->P j v)->(arrOf fT).Perm (pairsOf vs)->SortedToK κ (arrOf fT) (pairsOf vs).size->Q (.ref h1.objs.size) {s with heap:=h',toks:=tk}):
  wpAny (model prog w) A (call (.builtin "sorted") [.ref r]) Q E s:=by
 refine Tt kind_sorted plain_sorted entry_sorted (args_sorted1 _) ?_;unfold Builtin.«sorted»;refine aJ (m:=checkCount "sorted" 1 1 _) (bj ?_);refine aJ (PySem.W.kdu_collect (A:=A.in1) K hh aV hn λh' tk acc hk yU=>?_);have hl:acc.toList.length=n:=by rw[JV];exact yU.1
 have hP:∀(j:Nat)(v:aj),acc.toList[j]?=B v->P j v:=λj v e=>yU.2 j v (by grind);refine aJ (wpAny_newList ?_ (by lia));have yk:(h'.push (seqObj "list" acc.toList.toArray 0)).get? h'.objs.size=B (seqObj "list" acc.toList.toArray 0):=fK _ rfl;have k0:KeepsTups s.heap (h'.push (seqObj "list" acc.toList.toArray 0)):=λb o e _=>dP _ (hk b o e);have k6:=k0.trans (keeps_sort6 (vs:=acc.toList) yk);show wpAny _ _ _ _ _ {s with heap:=h'.push (seqObj "list" acc.toList.toArray 0),toks:=tk};refine aJ (wpAny_holding (wpAny_call_entry slot_list_sort ⟨_,yk,O⟩ entry_list_sort (list_sort_treeG (κ:=κ) (kd:=kd) yk (h0 _ hl hP) ?ago ?agp (by lia) λfT a1 a2 a3=>⟨_,O,?agq⟩) (args_list_sort _)));case ago=>exact hO _ k6
 case agp=>grind
 case agq=>refine bj ⟨_,O,?_⟩;obtain⟨m,hm⟩:=sortedHeap_at (vs:=acc.toList) (out:=(arrOf fT).map (·.2)) yk;refine h h' _ tk acc.toList fT m hk (λb o e=>?_) hm hl hP a1 a2;have hb:=cU e;show(sortedHeap _ _ _ _).get? b=B o;rw[sortedHeap_old (fZ hb) (by rw[J1];grind)];exact dP _ e
end
noncomputable def Lx (a b:List Int):Bool:=agr ags (a.map cC) (b.map cC)
def BF (kvs:List (List Key×V))(ks:List (List Int)):Prop:=kvs.map (·.1)=ks.map λk=>k.map cC
theorem Ub:∀(k:List Int)(us:List aj)(i:Nat),Vals (k.map V.int) us->tupItems (λ_=>aH) i us=B (k.map cC)
 |[],us,i,r=>by rw[wG]at r;cases r;rfl
 |n::k,us,i,r=>by
  rw[dX]at r;cases r with
  |cons h t=>obtain⟨tk,rfl⟩:=h;have:=Ub k _ (i+1) t;show(if(aH=L)then N else(tupItems (λ_=>aH) (i+1) _).map (cC n::·))=_;grind
theorem Uc:∀k:List Int,(k.map (cC:Int->Key)).map kV=k.map V.int
 |[]=>rfl
 |n::k=>by rw[dX,dX,dX,Uc k];rfl
def agt:∀{l m:List β},l.Perm m->∀bV:List α,bV.map f=m->∃L':List α,L'.Perm bV/\L'.map f=l:=by
 intro l m h;induction h with
 |nil=>simp
 |@cons x l1 l2 _ ih=>
  intro bV e;cases bV with
  |nil=>simp at e
  |cons a bV=>
   rw[dX]at e;injection e with e1 e2
   obtain⟨L',p,q⟩:=ih bV e2;exact⟨a::L',p.cons a,by grind⟩
 |@swap x y l=>
  intro bV e;cases bV with
  |nil=>simp at e
  |cons a bV=>
   cases bV with
   |nil=>simp at e
   |cons b bV=>
    rw[dX,dX]at e;injection e with e1 e2
    injection e2 with e2 e3
    exact⟨b::a::bV,.swap _ _ _,by grind⟩
 |@trans l1 l2 l3 _ _ ih1 ih2=>intro bV e;obtain⟨L2,p2,q2⟩:=ih2 bV e;obtain⟨L1,p1,q1⟩:=ih1 L2 q2;exact⟨L1,p1.trans p2,q1⟩
theorem Ud:∀l:List α,l.zip l=l.map λx=>(x,x)
 |[]=>rfl
 |x::l=>by rw[J2,Ud l];rfl
section
variable{X:Cx}
def agw:List V->Hp->VK->Prop:=λvs H Q=>∃(a:J)(kvs:List (List Key×V))(ks:List (List Int)),vs=[.ref a]/\H a=B (.dT kvs)/\BF kvs ks/\(∀k∈ks,k≠[])/\
 ∀(ps:List (J×List Int))(p:J),(ps.map (·.2)).Perm ks->(ps.map (·.2)).Pairwise (λa b=>Lx b a=aH)->(∀q∈ps,H q.1=B (.tup (q.2.map V.int)))->H p=N->Q (.ref p) (M H p (.Z (ps.map λq=>.ref q.1)))
def agx (r:KT H kvs xs):∀{ks:List (List Int)},BF kvs ks->
  ∃L0:List (J×List Int),L0.map (·.2)=ks/\L0.map (·.1)=xs.map (·.2.1)/\∀q∈L0,H q.1=B (.tup (q.2.map V.int)):=by
 unfold BF;induction r with
 |nil=>simp
 |@cons p q ps qs h t ih=>
  intro ks e;cases ks with
  |nil=>simp at e
  |cons k ks=>
   rw[dX,dX]at e;injection e with e1 e2
   obtain⟨L0,h1,h2,h3⟩:=ih e2;refine⟨(q.2.1,k)::L0,by grind,by grind,λy hy=>?_⟩;rcases dz.mp hy with z|z
   .subst z;have:=h.2.1;rw[e1,Uc]at this;exact this
   .exact h3 y z
def J3 (hc:X.calm=L):kR X (.builtin "sorted") agw:=by
 funext X
 intro Y s σ H xs us Q I r h;funext Y s σ H xs us Q;obtain⟨a,kvs,ks,rfl,ha,hk,ck,q⟩:=h;obtain⟨u,rfl,ru⟩:=vals1 r;cases ru
 obtain⟨z,hd,ys,rel,dd⟩:=EH I.aV ha;obtain⟨o,es,ep,ho,hcx,gI,he,oU,hn⟩:=id dd;obtain⟨L0,e1,e2,e3⟩:=agx rel hk;have hlen:es.size=ys.length:=yN he;have hl0:L0.length=ys.length:=by rw[<-dj (f:=(·.1)),e2,dj]
 have hz:ys.length<=aL:=by rw[<-km rel];exact z
 have J4:∀vs:List aj,vs.length=es.size->(∀(j:Nat)(v:aj),vs[j]?=B v->∃en,es[j]?=B en/\v=en.key)->vs=L0.map λq=>cv q.1:=by
  intro vs mM hP
  have e4:(L0.map λq=>cv q.1)=ys.map λy=>cv y.2.1:=by
   have:(L0.map λq=>cv q.1)=(L0.map (·.1)).map cv:=by simp
   simp_all
  rw[e4];refine yV λj=>?_;rw[ig];cases hv:vs[j]? with
  |none=>grind
  |some v=>
   obtain⟨en,lV,rfl⟩:=hP j v hv;rw[entry_at he]at lV;cases hy:ys[j]? with
   |none=>rw[hy]at lV;cases lV
   |some y=>
    rw[hy]at lV;cases lV
    rfl
 have Ue:∀q∈L0,∃(ob:Obj)(aI:List aj)(n:Nat),s.heap.get? q.1=B ob/\ob.cls=.type "tuple"/\ob.data=.seq aI.toArray n/\Vals (q.2.map V.int) aI:=by intro q hq;obtain⟨_,aI,rv,ob,h1,h2,n,h3⟩:=(show d9 X.prog X.w H s.heap q.1 (.tup (q.2.map V.int))from I.aV _ _ (e3 q hq));grind
 have apD:∀q∈L0,tupKeyC s.heap (λ_=>aH) (.ref q.1)=B (q.2.map cC):=by
  intro q hq;obtain⟨ob,aI,n,h1,h2,h3,rv⟩:=Ue q hq;unfold tupKeyC;have e1:isTupObj s.heap (.ref q.1)=true:=by simp[isTupObj,h1,h2]
  rw[aD e1];simp only[tupKey,h1,h3];exact Ub q.2 aI 0 rv
 have pU:∀bV:List (J×List Int),(∀q∈bV,q∈L0)->∃fs,TupsOf s.heap (λ_=>aH) (bV.map λq=>cv q.1) fs:=by
  intro bV;induction bV with
  |nil=>intro _;exact⟨[],.nil⟩
  |cons q bV ih=>
   intro hL;obtain⟨fs,hf⟩:=ih λy hy=>hL y (eD _ hy);obtain⟨ob,aI,n,h1,h2,h3,rv⟩:=Ue q (hL q eR);have jW:q.2≠[]:=ck q.2 (by grind);cases Ug:q.2 with
   |nil=>exact bT Ug jW
   |cons n0 rest=>
    rw[Ug,dX]at rv;cases rv with
    |@cons _ u0 _ us0 hu ht=>obtain⟨t0,rfl⟩:=hu;exact⟨_::fs,.cons ⟨q.1,ob,_,n,O,h1,h2,h3,O,λ_=>⟨_,_,O⟩,λz=>jU z⟩ hf⟩
 obtain⟨fs,Uh⟩:=pU L0 λ_ h=>h;refine Ua (κ:=tupKindC s.heap (λ_=>aH)) (kd:=tuples' L) (agh (prog:=X.prog) (w:=X.w) hd hcx gI) (I.ok.hd hc) ho (by lia) (λvs mM hP=>?_) (λs₂ k=>tupC_ltAt (s:=s₂) L k) (λvs mM hP h2 A' E' s₂ Q' k hq=>?_) λh1 h' tk vs fT m k1 k2 hD mM hP BG yW=>?_
 .rw[J4 vs mM hP];refine tupKeys λv hv=>?_;grind
 .have e:=J4 vs mM hP;subst e;exact tup_kind (s:=s₂) (by rw[TupsOf.length Uh];lia) (TupsOf.keep k Uh) hq
 .have e:=J4 vs mM hP;subst e
  have gX:(arrOf fT).toList.Perm (L0.map λq=>((cv q.1,cv q.1):Keyed)):=by have:=Array.perm_iff_toList_perm.mp BG;rw[pairsOf_toList,Ud,gw]at this;exact this
  obtain⟨ps,BH,yX⟩:=agt gX L0 rfl
  have agA:((arrOf fT).map (·.2)).toList=ps.map λq=>cv q.1:=by rw[Array.toList_map,<-yX,gw];rfl
  have jo:∀q∈ps,q∈L0:=λq hq=>BH.mem_iff.mp hq;have I1:Inv X Y σ H {s with heap:=h1,toks:=tk}:=I.kept (t':=tk) k1;have Ui:ps.length<=aL:=by rw[BH.length_eq,hl0];exact hz
  refine⟨.ref h1.objs.size,_,I1.laid (t':=tk) k2 (aX _) (show d9 X.prog X.w _ h' _ (.Z (ps.map λq=>V.ref q.1))from⟨by rw[dj];exact Ui,ps.map λq=>cv q.1,m,?_,?_⟩),O,q ps _ ?_ ?_ (λy hy=>e3 y (jo y hy)) (I1.aV.fresh (aX _))⟩
  .have:∀bV:List (J×List Int),Vals (bV.map λq=>V.ref q.1) (bV.map λq=>cv q.1):=by
    intro bV;induction bV with
    |nil=>exact .nil
    |cons q bV ih=>exact .cons O ih
   exact this ps
  .have Uj:=hD;have:((arrOf fT).map (·.2))=(ps.map λq=>cv q.1).toArray:=by rw[<-agA]
   rw[this]at Uj;exact Uj
  .grind
  .have hsz:(pairsOf (L0.map λq=>cv q.1)).size=ps.length:=by rw[pairsOf_size,dj,BH.length_eq]
   rw[hsz]at yW
   have kk:∀(i:Nat)(q:J×List Int),ps[i]?=B q->KK (tupKindC s.heap (λ_=>aH)) (arrOf fT) i=q.2.map cC:=by
    intro i q hq
    have ha:(arrOf fT)[i]?=B ((cv q.1,cv q.1):Keyed):=by rw[<-Array.getElem?_toList,<-yX,ig,hq];rfl
    unfold KK;grind
   rw[E9,Uk];intro i j hi hj Fb;have:=yW i j (DW Fb) hj;rw[kk i _ (cc hi),kk j _ (cc hj)]at this;exact this
end
section
variable{X:Cx}
def agB:List V->Hp->VK->Prop:=λvs H Q=>∃(a:J)(kvs:List (Key×V))(ns:List Int),vs=[.ref a]/\H a=B (.dK kvs)/\kvs.map (·.1)=ns.map cC/\
 ∀(wY:List Int)(p:J),wY.Perm ns->wY.Pairwise (·<=·)->H p=N->Q (.ref p) (M H p (.Z (wY.map V.int)))
def agC (hc:X.calm=L):kR X (.builtin "sorted") agB:=by
 funext X
 intro Y s σ H xs us Q I r h;funext Y s σ H xs us Q;obtain⟨a,kvs,ns,rfl,ha,hk,q⟩:=h;obtain⟨u,rfl,ru⟩:=vals1 r;cases ru
 obtain⟨z,hd,wO,rel,dd⟩:=Bm I.aV ha;obtain⟨ep,da⟩:=JZ dd;have hl:kvs.length=wO.length:=rel.length
 have hln:ns.length=wO.length:=by have:=cb lO hk;grind
 have J5:∀vs:List aj,vs.length=wO.length->(∀(j:Nat)(v:aj),vs[j]?=B v->∃k x,wO[j]?=B (k,x)/\(dN X.prog X.w).is k v=L)->IntsAre vs ns:=by
  intro vs mM hP;refine intsAre_of (BE (by grind) λj x u hx hu=>?_);obtain⟨k,y,h1,h2⟩:=hP j u hu;have e1:(wO.map (·.1))[j]?=B k:=by grind
  rw[<-rel.keys,hk,ig]at e1;rw[ig]at hx;cases e2:ns[j]? with
  |none=>rw[e2]at hx;cases hx
  |some n=>
   rw[e2]at hx e1;cases hx
   cases e1
   exact ES (k:=cC n) h2
 refine Ua (κ:=J6) (kd:=oneType') (T4 (prog:=X.prog) (w:=X.w) (knd:=dN X.prog X.w) (kvs:=wO) (ep:=ep) hd) (I.ok.hd hc) da (by lia) (λvs mM hP=>(J5 vs mM hP).keysOfInt) (λs₂ _=>?_) (λvs mM hP h2 A' E' s₂ Q' k hq=>?_) λh1 h' tk vs fT m k1 k2 hD mM hP BG yW=>?_
 .intro A' E' x y a b Q' hx hy hq;cases x<;>simp only[J6,reduceCtorEq,Ul]at hx
  cases y<;>simp only[J6,reduceCtorEq,Ul]at hy
  cases hx;cases hy
  exact PySem.W.kat_lt_int hq
 .match vs,h2,J5 vs mM hP with
  |v1::v2::rest,_,hi=>exact wpAny_of_eq (keyKind_ints hi) hq
 .have hI:=J5 vs mM hP;obtain⟨wY,i1,i2,i3⟩:=sorted_out hI BG (sortedTo_of_int yW);have I1:Inv X Y σ H {s with heap:=h1,toks:=tk}:=I.kept (t':=tk) k1;have Ui:wY.length<=aL:=by rw[i2.length_eq,hln,<-hl];exact z
  refine⟨.ref h1.objs.size,_,I1.laid (t':=tk) k2 (aX _) (show d9 X.prog X.w _ h' _ (.Z (wY.map V.int))from⟨by grind,_,m,RH i1,?_⟩),O,q wY _ i2 ?_ (I1.aV.fresh (aX _))⟩
  .exact hD
  .exact i3
end
def agE:typeLookup (.type "list_reverseiterator") "__len__"=pure none:=by rw[typeLookup_type,Um];kernel_rfl
def agF:typeLookup (.type "list_reverseiterator") "__length_hint__"=pure (B (.builtin "list_reverseiterator.__length_hint__")):=by rw[typeLookup_type,Um];kernel_rfl
section
variable{prog:bx}{w:World}{A:dO}{E:aj->aF->Prop}{s:aF}{I l:J}{items:Array aj}
def agG (hh:A.handled=N)(ck:l≠I)(hit:s.heap.IsRevIter I l ((items.size:Int)-1))(hL:s.heap.IsList l items)(S:J)(hSI:S≠I)(hSl:S≠l)(res:aj)(c₀:Nat)(hS:s.heap.get? S=B {cls:=.type "list",data:=.seq #[] c₀})
  (hR:∀h' tk mX c',(∀b o,b≠S->b≠I->s.heap.get? b=B o->h'.get? b=B o)->h'.get? S=B {cls:=.type "list",dict:=N,data:=.seq mX c',slots:=#[]}->ItemsOf (λi v=>items[items.size-1-i]?=B v) mX items.size->R (.ok (.ret res)) {s with heap:=h',toks:=tk}) (hn:items.size<=aL):
  wpAny (model prog w) A.in1 (Fc (.ref S) (.ref I) res)
   (λfin s'=>match fin with|.done f=>R (.ok f) s'|.again c'=>c'.quiet=L/\codeAny (model prog w) A c' R s') (λe s'=>R (.error e) s') s:=by
 have hSf:S∉[I,l]:=by grind
 have W:=Walks.listRev (prog:=prog) (w:=w) (A:=A.in1) hh I l ck items;have eY:(0:Nat)<=items.size/\s.heap.IsRevIter I l ((items.size:Int)-1-((0:Nat):Int))/\s.heap.IsList l items:=⟨iP _,by grind,hL⟩
 have key:codeAny (model prog w) A (.builtin "list.extend.loop" ⟨[.ref S,.ref I,res],[]⟩) R s:=by
  refine codeAny_extend_loopS W.toS hn S hSf res items.size 0 _ #[] c₀ O (iP _) eY hS (ItemsOf.nil _) λs' mX c' hm jy yU=>?_
  rw[Moved.eq_with hm];refine hR s'.heap s'.toks mX c' (λb o hb hbI e=>hm.heap b o (λuP=>?_) e) jy yU<;>grind
 unfold Fc;refine aJ (wpAny_typeOf (T:="list_reverseiterator") hit.typeIs ?_);have h1:Uo (.ref S) (.ref I)=false:=by simp[Uo,hSI]
 have h2:(nI "list_reverseiterator"==nI "list")=false:=by decide
 have h3:(nI "list_reverseiterator"==nI "tuple")=false:=by decide
 simp only[h1,h2,h3,DA,qm,if_false];refine aJ (wpAny_pyIter_revIter hit ?_);refine aJ (wpAny_holding ?_);unfold agJ;refine aJ (wpAny_specialOf hit.typeIs agE ?_);show wpAny _ A.in1 (specialOf (cv I) (tw "__length_hint__")>>=_) _ _ _;refine aJ (wpAny_specialOf hit.typeIs agF ?_);(generalize nZ:("list_reverseiterator.__length_hint__":String)=Up;(fail_if_success (clear nZ Up));wp_delta;rw[show splitId Up=B ("list_reverseiterator","__length_hint__")from by subst nZ;decide+kernel];subst nZ);refine aJ (wpAny_isInstance (b:=L) hit.typeIs (by rw[isSubtype_type];kernel_rfl) ?_);refine bj ?_;rw[au (by decide)];exact bj ⟨plainId_quiet PySem.F.plain_extend_loop _,key⟩
def agK (hh:A.handled=N)(ck:l≠I)(hit:s.heap.IsRevIter I l ((items.size:Int)-1))(hL:s.heap.IsList l items)(hn:items.size<=aL)
  (hQ:∀h' tk mX c',(∀b o,b≠I->s.heap.get? b=B o->h'.get? b=B o)->h'.get? s.heap.objs.size=B {cls:=.type "list",dict:=N,data:=.seq mX c',slots:=#[]}->ItemsOf (λi v=>items[items.size-1-i]?=B v) mX items.size->Q (.ref s.heap.objs.size) {s with heap:=h',toks:=tk}):
  wpAny (model prog w) A (call (.type "list") [.ref I]) Q E s:=by
 funext prog w A E s I l items Q
 refine JX (Q₁:=λobj s₁=>obj=.ref s.heap.objs.size/\s₁={s with heap:=s.heap.push {cls:=.type "list",data:=.seq #[]}}) PySem.F.called_list (PySem.F.typeCall_list_1 _) PySem.F.entry_list_init
  (code_list_new _ ⟨O,O⟩) λobj s₁ h₁=>?_
 obtain⟨rfl,rfl⟩:=h₁
 have hS:(s.heap.push {cls:=.type "list",data:=.seq #[]}).get? s.heap.objs.size=B {cls:=.type "list",data:=.seq #[]}:=fK _ rfl
 have hI:I<s.heap.objs.size:=let⟨_,h,_⟩:=hit;cU h;have Uq:l<s.heap.objs.size:=let⟨_,h,_⟩:=hL;cU h;refine⟨⟨_,hS,O⟩,PySem.F.args_list_init_2 _ _,?_⟩
 show wpAny _ _ (do let old<-Ur (.ref s.heap.objs.size);agL (.ref s.heap.objs.size) (λ_=>#[]);letGo old.toList.reverse;Fc (.ref s.heap.objs.size) (.ref I) .none) _ _ _
 refine aJ ?_;unfold Ur;refine aJ (wpAny_seqItems hS O (bj ?_))
 show wpAny _ _ (updateSeq s.heap.objs.size (λ_=>#[])>>=λ_=>letGo (#[]:Array aj).toList.reverse>>=λ_=>Fc (.ref s.heap.objs.size) (.ref I) .none) _ _ _
 refine aJ (wpAny_updateSeq hS rfl ?_)
 have hS₂:=yy (wH (λ_=>(#[]:Array aj))) hS rfl
 have J7:∀b o,b≠s.heap.objs.size->s.heap.get? b=B o->((s.heap.push {cls:=.type "list",data:=.seq #[]}).update s.heap.objs.size (wH (λ_=>(#[]:Array aj)))).get? b=B o:=
  λb o hb e=>(I0 _ _ (aP hb)).trans (dP _ e)
 refine aJ (wpAny_letGo ?_);refine agG (A:=A.in1) hh ck (hit.at λo e=>J7 I o (fZ hI) e) (hL.at λo e=>J7 l o (fZ Uq) e) _ (rf hI) (rf Uq) .none _ hS₂ (λh' tk mX c' hk jy yU=>?_) hn;exact⟨O,hQ h' tk mX c' (λb o hb e=>hk b o (fZ (cU e)) hb (J7 b o (fZ (cU e)) e)) jy yU⟩
end
section
variable{X:Cx}
def agN (K:aM)(te:TE):TE:=λσ H Q=>te σ H λx H1=>e_2 λa xs=>x=.ref a/\aC K H1 a xs/\∀l,H1 l=N->Q (.ref l) (M H1 l (.Z xs.reverse))
def agO (hc:X.calm=L)(hg:Gl X "list")(hm:X.mg "list"=N)(hg2:Gl X "reversed")(hm2:X.mg "reversed"=N)(he:PE X e te)
  (yt:starEach [e] X.env=[(aH,eval e X.env)]:=by rfl)
  (hs:starEach [.Call (.Name "reversed" p2) [e] [] J8] X.env=[(aH,eval (.Call (.Name "reversed" p2) [e] [] J8) X.env)]:=by rfl):
  PE X (.Call (.Name "list" p) [.Call (.Name "reversed" p2) [e] [] J8] [] pos) (agN X.K te):=by
 intro Y s σ H Q I h;refine sY (p0 I hg hm J0 ?_);refine uI ?_ hs rfl;rw[hs];show wpAny _ _ (spliced ((aH,eval (.Call (.Name "reversed" p2) [e] [] J8) X.env)::[])) _ _ s;refine sX ?_;refine sY (p0 I hg2 hm2 Sv ?_);refine uI ?_ yt rfl;rw[yt];show wpAny _ _ (spliced ((aH,eval e X.env)::[])) _ _ s;refine sX (ba (he Y s σ H _ I h) λu s1 ⟨x,H1,I1,rx,a,xs,ex,hq,q⟩=>uL ?_);subst ex;obtain rfl:u=cv a:=rx;obtain⟨aI,rv,p',hz⟩:=I1.list hq;have hl:=rv.length;refine Sx p'.isList ?_;have hax:a<s1.heap.objs.size:=let⟨_,h,_⟩:=p'.isList;cU h;have I2:Inv X Y σ H1 {s1 with heap:=s1.heap.push (revObj a ((aI.toArray.size:Int)-1))}:=I1.kept (t':=s1.toks) λb ob q=>dP _ q;refine uL ?_;refine agK (items:=aI.toArray) (l:=a) (I:=s1.heap.objs.size) (I.ok.hd hc) (fZ hax) ⟨_,fK _ O,O,O⟩ (p'.isList.at λo e=>dP _ e) (by grind) λh' tk acc c hk hS hi=>?_;have hsz:(s1.heap.push (revObj a ((aI.toArray.size:Int)-1))).objs.size=s1.heap.objs.size+1:=J1 _ _;have fp:=I1.uG (b:=s1.heap.objs.size) (H':=H1) (aX _) (I1.aV.fresh (aX _))
 have I3:Inv X Y σ (M H1 (s1.heap.push (revObj a ((aI.toArray.size:Int)-1))).objs.size (.Z xs.reverse)) {s1 with heap:=h',toks:=tk}:=
  I2.Br (ch:=[s1.heap.objs.size]) (λb ob hb q=>hk b ob (λz=>hb (by simp[z])) q) (λb hb=>by grind) (aX _) (show d9 X.prog X.w _ h' _ (.Z xs.reverse)from⟨by grind,acc.toList,c,?_,by lia⟩)
 .exact⟨.ref _,_,I3,O,q _ (I2.aV.fresh (aX _))⟩
 .have h1:=hi.1;have h2:acc.toList.length=acc.size:=JV;have h3:aI.toArray.size=aI.length:=A8;refine BE (by grind) λj x u hx hu=>?_;have ie:=hi.2 j u (by grind)
  have gu:j<xs.length:=by grind
  rw[List.getElem?_reverse gu]at hx;obtain⟨u',RL,ru⟩:=rv.get hx;rfl'
end
section
variable{prog:bx}{w:World}{A:dO}{E:aj->aF->Prop}{s:aF}
def agS {j:Int}{St:a9->Prop}{Q:aj->aF->Prop}
  (he:IsEnum s.heap e it j old) (ck:e≠it)
  (BI:∀(Q:aj->aF->Prop),(∀h',St h'->jw it s.heap h'->Q x {s with heap:=h'})->wpAny (model prog w) A (wZ (.ref it)) Q E s)
  (keep:∀h h':a9,St h->(∀o,h.get? it=B o->h'.get? it=B o)->St h')
  (hQ:∀h',IsEnumOut h' e it (j+1) x s.heap.objs.size->St h'->h'.get? s.heap.objs.size=B {cls:=.type "tuple",data:=.seq #[.int j s.toks,x]}->h'.objs.size=s.heap.objs.size+1->(∀b o,b≠e->b≠it->s.heap.get? b=B o->h'.get? b=B o)->Q (.ref s.heap.objs.size) {s with heap:=h',toks:=s.toks+1}):
  wpAny (model prog w) A (Builtin.«enumerate.__next__» ⟨[.ref e],[]⟩) (λfin s'=>∃v,fin=.done (.ret v)/\Q v s') E s:=by
 funext prog w A E s e it old x j St Q
 obtain⟨hp,g,d,tk,os⟩:=s;show wpAny _ _ (field (.ref e) 2>>=_) _ _ _;refine aJ (wpAny_field he O (x:=.ref it) rfl ?_);refine aJ (BI _ λh₁ Us yY=>?_);replace yY:jw it hp h₁:=yY;have Fe:IsEnum h₁ e it j old:=(yY.2 e ck).trans he;show wpAny _ _ (field (.ref e) 3>>=_) _ _ ⟨h₁,g,d,tk,os⟩;refine aJ (wpAny_field Fe O (x:=rawInt j) rfl ?_);show wpAny _ _ (field (.ref e) 4>>=_) _ _ ⟨h₁,g,d,tk,os⟩;refine aJ (wpAny_field Fe O (x:=.none) rfl ?_);show wpAny _ _ (mkInt j>>=_) _ _ ⟨h₁,g,d,tk,os⟩;refine aJ (wpAny_mkInt ?_);show wpAny _ _ (setField (.ref e) 3 (rawInt (j+1))>>=_) _ _ ⟨h₁,g,d,tk+1,os⟩;refine aJ (wpAny_setField_rec Fe (by simp) λh₂ Ff yZ=>?_);replace yZ:jw e h₁ h₂:=yZ;replace Ff:IsEnum h₂ e it (j+1) old:=Ff;show wpAny _ _ (setField (.ref e) 4 .none>>=_) _ _ ⟨h₂,g,d,tk+1,os⟩;refine aJ (wpAny_setField_rec Ff (by simp) λh₃ Fg y0=>?_);replace y0:jw e h₂ h₃:=y0;replace Fg:IsEnum h₃ e it (j+1) old:=Fg;show wpAny _ _ (newTuple [.int j tk,x]>>=_) _ _ ⟨h₃,g,d,tk+1,os⟩;refine aJ (wpAny_newTuple ?_)
 have Fh:IsEnum (h₃.push {cls:=.type "tuple",data:=.seq #[.int j tk,x]}) e it (j+1) old:=dP _ Fg
 generalize BJ:h₃.push {cls:=.type "tuple",data:=.seq #[.int j tk,x]}=h₄ at Fh
 have hsz:h₃.objs.size=hp.objs.size:=by rw[y0.1,yZ.1,yY.1]
 have qt:e<hp.objs.size:=cU he
 have ht₄:h₄.get? hp.objs.size=B {cls:=.type "tuple",data:=.seq #[.int j tk,x]}:=by rw[<-BJ,<-hsz];exact fK _ rfl
 have hz₄:h₄.objs.size=hp.objs.size+1:=by rw[<-BJ,mI,hsz]
 have hk₄:∀b o,b≠e->b≠it->hp.get? b=B o->h₄.get? b=B o:=λb o uB Fi hb=>by rw[<-BJ];exact dP _ (y0.extBut b o uB (yZ.extBut b o uB (yY.extBut b o Fi hb)))
 have agW:St h₄:=keep _ _ Us λo ho=>by rw[<-BJ];exact dP _ (y0.extBut it o (aP ck) (yZ.extBut it o (aP ck) ho))
 show wpAny _ _ (Ut (.ref e)>>=_) _ _ ⟨h₄,g,d,tk+1,os⟩;rw[hsz];clear BJ Fg y0 Ff yZ Fe yY Us hsz h₃ h₂ h₁;refine aJ ?_
 .unfold Ut;refine aJ (wpAny_field Fh O (x:=.none) O (bj ?_));simp only[if_true];refine aJ (wpAny_rule ?_);refine aJ (wpAny_field Fh O (x:=old) rfl ?_);refine aJ (wpAny_setField_rec Fh (by simp) λh₅ J9 y1=>?_);replace y1:jw e h₄ h₅:=y1;replace J9:IsEnum h₅ e it (j+1) x:=J9;show wpAny _ _ (Uu (.ref e) (.ref hp.objs.size)>>=_) _ _ ⟨h₅,g,d,tk+1,os⟩;refine aJ ?_
  .unfold Uu;refine aJ (wpAny_setField_rec J9 (by simp) λh₆ J' y2=>?_);replace y2:jw e h₅ h₆:=y2;replace J':IsEnumOut h₆ e it (j+1) x hp.objs.size:=J';refine wpAny_setField_rec J' (by simp) λh₇ Ka y3=>?_;replace y3:jw e h₆ h₇:=y3;replace Ka:IsEnumOut h₇ e it (j+1) x hp.objs.size:=Ka;refine aJ (wpAny_letGo (bj ⟨_,O,hQ h₇ Ka ?_ ?_ ?_ ?_⟩))
   .exact keep _ _ agW λo ho=>y3.extBut it o (aP ck) (y2.extBut it o (aP ck) (y1.extBut it o (aP ck) ho))
   .exact y3.extBut _ _ (rf qt) (y2.extBut _ _ (rf qt) (y1.extBut _ _ (rf qt) ht₄))
   .rw[y3.1,y2.1,y1.1,hz₄]
   .exact λb o uB Fi hb=>y3.extBut b o uB (y2.extBut b o uB (y1.extBut b o uB (hk₄ b o uB Fi hb)))
def Uv {j:Int}{St:a9->Prop}{Q:Option aj->aF->Prop}
  (he:IsEnum s.heap e it j old) (ck:e≠it)
  (BI:∀(A:dO)(E:aj->aF->Prop)(Q:aj->aF->Prop),(∀h',St h'->jw it s.heap h'->Q x {s with heap:=h'})->wpAny (model prog w) A (wZ (.ref it)) Q E s)
  (keep:∀h h':a9,St h->(∀o,h.get? it=B o->h'.get? it=B o)->St h')
  (hQ:∀h',IsEnumOut h' e it (j+1) x s.heap.objs.size->St h'->h'.get? s.heap.objs.size=B {cls:=.type "tuple",data:=.seq #[.int j s.toks,x]}->h'.objs.size=s.heap.objs.size+1->(∀b o,b≠e->b≠it->s.heap.get? b=B o->h'.get? b=B o)->Q (B (.ref s.heap.objs.size)) {s with heap:=h',toks:=s.toks+1}):
  wpAny (model prog w) A (pyNext (.ref e)) Q E s:=by have hT:s.TypeIs (.ref e) "enumerate":=⟨_,he,O⟩;unfold pyNext;exact aJ (wpAny_attempt (wpAny_callSpecial?_slot (name:=tw "__next__") hT Fj (wpAny_call_entry Fj hT Uw (agS he ck (λQ h=>BI _ _ Q h) keep λh' a b c d k=>bj (hQ h' a b c d k)) (Ux _))))
def Uy (he:IsEnum s.heap e it j old)
  (agX:∀(E:aj->aF->Prop)(Q:aj->aF->Prop),(∀h' e,EO it s.heap h'->(∃o,h'.get? e=B o/\o.cls=.type "StopIteration")->E (.ref e) {s with heap:=h'})->wpAny (model prog w) A.in1 (wZ (.ref it)) Q E s)
  (hQ:∀h',EO it s.heap h'->Q N {s with heap:=h'}):wpAny (model prog w) A (pyNext (.ref e)) Q E s:=by have hT:s.TypeIs (.ref e) "enumerate":=⟨_,he,O⟩;unfold pyNext;refine aJ (wpAny_attempt (wpAny_callSpecial?_slot (name:=tw "__next__") hT Fj (wpAny_call_entry Fj hT Uw ?_ (Ux _))));show wpAny _ _ (field (.ref e) 2>>=_) _ _ _;refine aJ (wpAny_field he O (x:=.ref it) rfl ?_);refine aJ (agX _ _ λh' x mU BK=>?_);obtain⟨o,ho,hc⟩:=BK;refine aJ (wpAny_isInstance (T:="StopIteration") (b:=L) ⟨o,ho,hc⟩ isSubtype_stop ?_);exact bj (hQ _ mU)
end
section
variable{prog:bx}{w:World}{K:Type}[DecidableEq K]{knd:KeyKind prog w K}{A:dO}{E:aj->aF->Prop}{s:aF}
def agY (hit:s.heap.IsValIter it d i kvs.length ep)
  (hm:s.heap.DictAt knd d kvs ep) (hx:kvs[i]?=B (k,v))
  (hQ:∀h',h'.IsValIter it d (i+1) kvs.length ep->jw it s.heap h'->Q v {s with heap:=h'}):
  wpAny (model prog w) A (wZ (.ref it)) Q E s:=by
 obtain⟨o,ho,hc,hd⟩:=id hit;obtain⟨od,es,gv,lK,i7,hk,hp,hn⟩:=id hm;unfold wZ;refine aJ (wpAny_callSpecial?_slot (name:=tw "__next__") hit.typeIs Fl (wpAny_call_entry Fl hit.typeIs Uz ?_ (UA _)));refine aJ (bj ?_);refine aJ ?_;refine aJ ?_;first|refine aJ (wpAny_typeNameOfWhole_valiter hit.typeIs (bj ?_))|refine aJ (wpAny_typeNameOf_valiter hit.typeIs (bj ?_))
 refine aJ (wpAny_fieldsOf ho hd ?_);have wQ:EL "dict_valueiterator"=false:=by decide
 simp only[wQ,qm,if_false];show wpAny _ _ (if(cv d==lF)=L then _ else _) _ _ s;rw[au (show¬((cv d==lF)=L)from eN)];refine aJ (bj ?_);refine aJ (wpAny_dictEntries gv i7 ?_);have hsz:es.size=kvs.length:=by rw[<-hp.length];simp
 rw[au (by grind)];refine aJ (bj ?_);refine aJ (wpAny_dictEpoch gv i7 ?_);rw[au (by simp)];refine bj ?_
 have fM:i<kvs.length:=by grind
 have EM:i<es.size:=by lia
 have agZ:es[i].val=v:=(hp.get? (e:=es[i]) (by simp[EM]) hx).2;simp only[show¬((i:Int)<0)from by lia,if_false,ij,JL EM];refine aJ ?_;first|refine aJ (wpAny_typeNameOfWhole_valiter hit.typeIs (bj ?_))|refine aJ (wpAny_typeNameOf_valiter hit.typeIs (bj ?_))
 refine aJ (wpAny_isOneOf_valiter hit.typeIs ?_);show wpAny _ _ (setField (.ref it) 1 (rawInt ((i:Int)+1))>>=_) _ _ s;refine aJ (wpAny_setField ho hd (by simp) ?_)
 have mT:(s.heap.update it (Bt (·.setIfInBounds 1 (rawInt ((i:Int)+1))))).IsValIter it d (i+1) kvs.length ep:=
  ⟨_,yy _ ho (SE (EN hd _)),(SF ..).trans hc,by rw[EN hd];simp[rawInt]⟩
 refine aJ (wpAny_holding ?_);refine aJ (wpAny_isOneOf_valiter (s:={s with heap:=s.heap.update it (Bt (·.setIfInBounds 1 (rawInt ((i:Int)+1))))}) mT.typeIs ?_);refine aJ (wpAny_isOneOf_valiter (s:={s with heap:=s.heap.update it (Bt (·.setIfInBounds 1 (rawInt ((i:Int)+1))))}) mT.typeIs ?_);show wpAny _ _ (pure es[i].val) _ _ _;exact bj (bj ⟨_,O,bj (agZ▸hQ _ mT (wR ..))⟩)
def ag0 (hh:A.handled=N)(hit:s.heap.IsValIter it d i kvs.length ep)
  (hm:s.heap.DictAt knd d kvs ep) (hx:kvs[i]?=N)
  (hE:∀h' e,EO it s.heap h'->(∃o,h'.get? e=B o/\o.cls=.type "StopIteration")->E (.ref e) {s with heap:=h'}):
  wpAny (model prog w) A (wZ (.ref it)) Q E s:=by
 obtain⟨o,ho,hc,hd⟩:=id hit;obtain⟨od,es,gv,lK,i7,hk,hp,hn⟩:=id hm;unfold wZ;refine aJ (wpAny_callSpecial?_slot (name:=tw "__next__") hit.typeIs Fl (wpAny_call_entry Fl hit.typeIs Uz ?_ (UA _)));refine aJ (bj ?_);refine aJ ?_;refine aJ ?_;first|refine aJ (wpAny_typeNameOfWhole_valiter hit.typeIs (bj ?_))|refine aJ (wpAny_typeNameOf_valiter hit.typeIs (bj ?_))
 refine aJ (wpAny_fieldsOf ho hd ?_);have wQ:EL "dict_valueiterator"=false:=by decide
 simp only[wQ,qm,if_false];show wpAny _ _ (if(cv d==lF)=L then _ else _) _ _ s;rw[au (show¬((cv d==lF)=L)from eN)];refine aJ (bj ?_);refine aJ (wpAny_dictEntries gv i7 ?_);have hsz:es.size=kvs.length:=by rw[<-hp.length];simp
 rw[au (by grobner)];refine aJ (bj ?_);refine aJ (wpAny_dictEpoch gv i7 ?_);rw[au (by simp)];refine bj ?_;have JG:es.size<=i:=by grobner
 simp only[show¬((i:Int)<0)from by cutsat,if_false,ij,SG JG];refine aJ ?_;first|refine aJ (wpAny_typeNameOfWhole_valiter hit.typeIs (bj ?_))|refine aJ (wpAny_typeNameOf_valiter hit.typeIs (bj ?_))
 show wpAny _ _ (setField (.ref it) 0 .none>>=_) _ _ s;refine aJ (wpAny_setField ho hd (by simp) ?_);show wpAny _ _ (newExc (.type "StopIteration") []>>=_) _ _ _;refine aJ ?_;simp only[newExc,newTuple];refine aJ (wpAny_newObj_type ?_ (by size_fits));refine aJ (m:=ER _ _) (wpAny_of_eq (a:=lF) (by first|rfl|(simp only[ER];rfl)) ?_);refine wpAny_newObj_type ?_ (by size_fits);simp only[raiseNew];refine aJ (wpAny_handled ?_);rw[show A.in1.handled=N from hh];refine aJ (bj (wpAny_throw ?_));exact hE _ _ (((wR ..).extBut.push _).push _) ⟨_,fK _ O,O⟩
def ag1 (v:aj)(oI:Obj)(Ok:aF->Prop)(hp:∀(A:dO)(s:aF)(E:aj->aF->Prop)(Q:aj->aF->Prop),Ok s->Q (.ref s.heap.objs.size) {s with heap:=s.heap.push oI}->wpAny (model prog w) A (pyIter v) Q E s):
  MeetsIn prog w (Builtin.«enumerate.__new__» ⟨[.type "enumerate",v],[]⟩) (λ_ R s=>Ok s/\R (.ok (.ret (.ref (s.heap.push oI).objs.size))) {s with heap:=(s.heap.push oI).push {cls:=.type "enumerate",data:=.fields #[.none,.bool aH,.ref s.heap.objs.size,rawInt 0,.none,.none]}}):=
 .of_wp λA R s h=>by
  obtain⟨hpp,g,d,tk,os⟩:=s;obtain⟨hl,h⟩:=h;have tI:=sub_enumerate;have hq:=λ(A:dO)(E:aj->aF->Prop)(Q:aj->aF->Prop)=>hp A _ E Q hl;wp_walk;refine wpAny_stack_any λst=>bj ?_;split
  .rename_i c _ _ _ _ _;cases(c==nI "enumerate")
   .wp_walk using hq;exact⟨_,O,h⟩
   .wp_walk using hq;exact⟨_,O,h⟩
  .wp_walk using hq;exact⟨_,O,h⟩
end
section
variable{prog:bx}{w:World}{A:dO}{E:aj->aF->Prop}{s:aF}
def ag3 (Ok:aF->Prop)(hp:∀(A:dO)(s:aF)(E:aj->aF->Prop)(Q:aj->aF->Prop),Ok s->Q (.ref s.heap.objs.size) {s with heap:=s.heap.push oI}->wpAny (model prog w) A (pyIter v) Q E s)(aV:Ok s)(hI:oI.isFreed=aH)
  (h:∀h',IsEnum h' (s.heap.objs.size+1) s.heap.objs.size 0 .none->h'.get? s.heap.objs.size=B oI->h'.objs.size=s.heap.objs.size+2->(∀b o,s.heap.get? b=B o->h'.get? b=B o)->Q (.ref (s.heap.objs.size+1)) {s with heap:=h'}):
  wpAny (model prog w) A (call (.type "enumerate") [v]) Q E s:=by
 have hz:(s.heap.push oI).objs.size=s.heap.objs.size+1:=mI ..
 have he:IsEnum ((s.heap.push oI).push {cls:=.type "enumerate",data:=.fields #[.none,.bool aH,.ref s.heap.objs.size,rawInt 0,.none,.none]}) (s.heap.objs.size+1) s.heap.objs.size 0 .none:=by
  have:=fK (s.heap.push oI)
   (o:={cls:=.type "enumerate",data:=.fields #[.none,.bool aH,.ref s.heap.objs.size,rawInt 0,.none,.none]}) rfl
  grind
 refine JX (Q₁:=λobj s₁=>obj=.ref (s.heap.objs.size+1)/\s₁={s with heap:=(s.heap.push oI).push {cls:=.type "enumerate",data:=.fields #[.none,.bool aH,.ref s.heap.objs.size,rawInt 0,.none,.none]}}) u5 (PySem.F.typeCall_enumerate_1 _) UB
  (codeAny_call_builtin u5.plain UC (wpAny_of_eq (PySem.F.newCall_enumerate_1 _) (ag1 v oI Ok hp A.in1 _ s ⟨aV,by grind⟩))) λobj s₁ hq=>?_
 obtain⟨rfl,rfl⟩:=hq;refine⟨⟨_,he,O⟩,PySem.F.args_object_init_2 _ _,?_⟩;refine object_init_meets u5.init.lookup u5.made (by decide) prog w A.in1 _ _ ⟨⟨_,he,O⟩,O,?_⟩;exact h _ he (dP _ (fK _ hI)) (by simp) λb o y=>dP _ (dP _ y)
end
def UD (d:J)(o:Obj)(kvs:List (Key×V)):It:=
 ⟨λi H=>H d=B (.bF o (.dK kvs))/\i<kvs.length,λi H v H'=>∃T k x,v=.ref T/\H T=N/\H'=M H T (.tup [.int (i:Nat),x])/\kvs[i]?=B (k,x),λi H=>H d=B (.bF o (.dK kvs))/\kvs.length<=i⟩
def ag4 {P:bx}{w:World}{K:aM}{elts:List bK}{kk:Nat}{kq:Pos}{d:J}{o:Obj}{es:Array kz}{ep:Nat}{kvs:List (Key×V)}(e it:J)(gv:o.data=.dict es ep):
  Turn P w K (.Tuple elts kk kq) (UD d o kvs) [e,it] e (λi h=>(∃old,IsEnum h e it ((i:Nat):Int) old)/\h.IsValIter it d i kvs.length ep/\e≠it)where
 mem:=by simp
 obj:=λi h st b hb=>by obtain⟨⟨old,he⟩,⟨o,ho,hc,hd⟩,_⟩:=st;rfl'
 keep:=λi h h' st k=>let⟨⟨old,he⟩,hi,ck⟩:=st;⟨⟨old,k e (by simp) _ he⟩,hi.at λo q=>k it (by simp) o q,ck⟩
 item:=by
  intro X hP hw hK hc i Y s σ H E I hf st hg;subst hP hw hK;obtain⟨⟨old,he⟩,hit,ck⟩:=st;obtain⟨hd,hi⟩:=hg;obtain⟨hs,kW,hx,mC,lJ,vs,fO,hsz,kv,hm⟩:=I.tD hd;obtain⟨rfl,rfl⟩:=uX gv fO;obtain⟨⟨k,v⟩,qr⟩:∃p,kvs[i]?=B p:=⟨kvs[i],cc hi⟩;obtain⟨u,hu,ru⟩:=Bu kv qr;have hl:kvs.length=vs.length:=km kv;rw[hl]at hit;have qt:e<s.heap.objs.size:=cU he;have dA:it<s.heap.objs.size:=by obtain⟨_,q,_⟩:=hit;exact cU q
  refine Uv (x:=u) (St:=λh=>h.IsValIter it d (i+1) vs.length lJ) he ck (λA' E' Q' hq=>agY hit hm hu hq) (λh h' st k=>st.at k) λh' ho mT hT ag5 hk=>?_;refine⟨_,O,wpAny_letOwnedTupleGo_enum (s:={s with heap:=h',toks:=s.toks+1}) ho λkU mU sb=>?_⟩
  have wU:kU.get? s.heap.objs.size=B {cls:=.type "tuple",data:=.seq #[.int i s.toks,u]}:=(sb.2 _ (rf qt)).trans hT
  have new:d9 X.prog X.w (M H s.heap.objs.size (.tup [.int (i:Nat),v])) kU s.heap.objs.size (.tup [.int (i:Nat),v]):=
   ⟨a_2,[.int i s.toks,u],.cons ⟨_,O⟩ (.cons ru .nil),⟨_,wU,O,_,O⟩⟩
  have I1:Inv X Y σ (M H s.heap.objs.size (.tup [.int (i:Nat),v])) {s with heap:=kU,toks:=s.toks+1}:=
   I.Br (ch:=[e,it]) (λb ob hb q=>(sb.2 b (λz=>hb (by simp[z]))).trans (hk b ob (λz=>hb (by simp[z])) (λz=>hb (by simp[z])) q)) hf (aX _) new
  refine⟨.ref s.heap.objs.size,_,I1,O,⟨_,k,v,O,I.aV.fresh (aX _),O,qr⟩,⟨⟨u,?_⟩,?_,ck⟩,λb hb=>?_⟩
  .grind
  .rw[hl];exact mT.at λo q=>(sb.2 it (aP ck)).trans q
  .have wV:b<s.heap.objs.size:=by grind
   rw[aa (fZ wV)];exact(hf b hb).1
 done:=by intro X hP hw hK hc i Y s σ H E I hf st hg;subst hP hw hK;obtain⟨⟨old,he⟩,hit,ck⟩:=st;obtain⟨hd,hi⟩:=hg;obtain⟨hs,kW,hx,mC,lJ,vs,fO,hsz,kv,hm⟩:=I.tD hd;obtain⟨rfl,rfl⟩:=uX gv fO;have hl:kvs.length=vs.length:=km kv;rw[hl]at hit;obtain⟨f0,f1,f2,f3,f4,f5⟩:=hf it (by simp);exact Uy he (λE' Q' hq=>ag0 (show X.A.in1.handled=N from I.ok.hd hc) hit hm (yO (by lia)) hq) λh' eb=>⟨O,I.turned (t':=s.toks) (λb o hb q=>eb b o hb q) f0 f1 f3 f4 f5⟩
 self:=λA i s Q E st h=>let⟨⟨_,he⟩,_⟩:=st;yP he h
def ag6 (td:TE):TI:=λσ H R=>td σ H λx H1=>e_3 λd o kvs=>x=.ref d/\H1 d=B (.bF o (.dK kvs))/\R (UD d o kvs) H1
def ag7 {X:Cx}{e:bK}{td:TE}{p pos kq apos dI:Pos}{elts:List bK}{kk:Nat}(hg:Gl X "enumerate")(hm:X.mg "enumerate"=N)(he:PE X e td)
  (qh:qe e "values" X.env (eval e X.env)=eval e X.env:=by rfl) (qi:(apos.endLine==dI.line)=true:=by rfl)
  (hs:starEach [.Call (.Attribute e "values" apos) [] [] dI] X.env=[(aH,eval (.Call (.Attribute e "values" apos) [] [] dI) X.env)]:=by rfl):
  PI X (.Tuple elts kk kq) (.Call (.Name "enumerate" p) [.Call (.Attribute e "values" apos) [] [] dI] [] pos) (ag6 td):=by
 funext X e td p pos kq apos dI elts kk
 intro Y s σ H R I h;funext Y s σ H R;refine Call_ (p0 I hg hm JP (uI ?_ hs O));rw[hs];show wpAny _ _ (spliced ((aH,eval (.Call (.Attribute e "values" apos) [] [] dI) X.env)::[])) _ _ s;refine sX ?_;refine Bp (T:="dict") (id:="dict.values") qh O qi Bq E8 T7 (ba (he Y s σ H _ I h) λu s1 ⟨x,H1,I1,rx,d,o,kvs,ex,hd,q⟩=>?_);subst ex;obtain rfl:u=cv d:=rx;obtain⟨hS,kW,hx,es,ep,vs,fO,hsz,kv,rF⟩:=I1.tD hd;have hl:kvs.length=vs.length:=km kv;refine⟨rF.dictOf.typeIs,rF.dictOf.mapOf.noDict,?_⟩
 have I2:Inv X Y σ H1 {s1 with heap:=s1.heap.push {cls:=.type "dict_values",data:=.fields #[.ref d]}}:=I1.kept (t':=s1.toks) λb ob q=>dP _ q
 show wpAny _ _ (callWith dI (.builtin "dict.values") [.ref d] [] []) _ X.xe s1;refine JO E8 T8 O (Et ⟨O,rF.dictOf.typeIs,T9 _,_,meets_dict_values (dN X.prog X.w) d hS,⟨vs,rF.dictOf⟩,?_⟩);refine uL ?_
 refine ag3 (oI:={cls:=.type "dict_valueiterator",data:=.fields #[.ref d,.int 0 0,.int vs.length 0,.int ep 0]}) (λs=>s.heap.IsValuesView s1.heap.objs.size d/\s.heap.DictAt (dN X.prog X.w) d vs ep) (λA' s' E' Q' aV hq=>wpAny_pyIter_values aV.1 aV.2 hq) ⟨⟨_,fK _ O,O,O⟩,rF.push _⟩ rfl λh' mU hit ag5 hk=>?_
 refine yP mU ?_;have I3:Inv X Y σ H1 {s1 with heap:=h'}:=I2.kept (t':=s1.toks) hk
 have apJ:(s1.heap.push {cls:=.type "dict_values",data:=.fields #[.ref d]}).objs.size=s1.heap.objs.size+1:=J1 _ _
 refine⟨_,[_,_],_,_,H1,O,I3,ag4 _ _ fO,⟨⟨.none,mU⟩,⟨_,hit,O,by rw[hl];rfl⟩,JQ _⟩,λb hb=>?_,q⟩
 have e':b=(s1.heap.push {cls:=.type "dict_values",data:=.fields #[.ref d]}).objs.size+1\/b=(s1.heap.push {cls:=.type "dict_values",data:=.fields #[.ref d]}).objs.size:=by simpa using hb
 have hle:s1.heap.objs.size<=b:=by grind
 exact I1.uG hle (I1.aV.fresh hle)
open PySem.AutoSeq1 (wpAny_loadPart')
section
variable{prog:bx}{w:World}{A:dO}{E:aj->aF->Prop}{s:aF}
def ag8 (ft:TypeCalled T newId UE)
  (hct:checkTypeCall T ⟨args,kw⟩=pure ()) (ag9:entryFor table UE=B Bi)
  (uO:codeAny (model prog w) A.in1 (.call (.builtin newId) ⟨.type T::args,kw⟩) (wants Q₁ E) s)
  (BI:∀obj s₁,Q₁ obj s₁->s₁.TypeIs obj T/\argsOk UE ⟨obj::args,kw⟩/\wpAny (model prog w) A.in1.in1 (Bi ⟨obj::args,kw⟩) (λfin s'=>match fin with|.done f=>wants (λr s₂=>r=.none/\Q obj s₂) E (.ok f) s'|.again c'=>c'.quiet=L/\codeAny (model prog w) A.in1 c' (wants (λr s₂=>r=.none/\Q obj s₂) E) s') (λe s'=>wants (λr s₂=>r=.none/\Q obj s₂) E (.error e) s') s₁):
  wpAny (model prog w) A (call (.type T) args kw) Q E s:=by
 funext prog w A E s T newId UE args kw Bi Q₁ Q
 obtain⟨c,tl,apL⟩:=ft.mro;have apM:=ft.made;have tI:=ft.sub;refine IP (codeAny_of_tree ?_);show wpAny _ _ (callAny (.type T) _) _ _ _;refine bj ⟨Code.quiet_builtin _ (by decide+kernel),codeAny_builtin PySem.F.entry_type_call ?_⟩;rw[Around.under_plain (weight_type_call_type T args kw) rfl];have h1:=ft.notType;have h2:=ft.canCreate;repeat(any_goals (first|assumption|wp_step))
 refine codeAny_mono uO λr s₁ hr=>?_;cases r with
 |error e=>exact hr
 |ok fl=>
  cases fl with
  |ret obj=>
   obtain⟨hT,aV,hsi⟩:=BI _ _ hr;have w6:=ft.init.lookup;have Fi:=ft.init.bind obj;repeat(any_goals (first|assumption|wp_step))
   refine codeAny_mono (codeAny_call_builtin ft.init.plain ag9 (ft.init.check _ _ _ _ _ _ _ _ hT aV hsi)) λr₂ s₂ Kb=>?_;cases r₂ with
   |error e=>exact Kb
   |ok fl₂=>
    cases fl₂ with
    |ret r=>obtain⟨rfl,hq⟩:=Kb;repeat(any_goals (first|assumption|wp_step))
    |_=>exact Kb.elim
  |_=>exact hr.elim
def ahb (a b:aj):checkTypeCall "enumerate" ⟨[a],[("start",b)]⟩=pure ():=by kernel_rfl
def ahc (a b:aj):checkBuiltinCall "enumerate.__new__" ⟨[.type "enumerate",a],[("start",b)]⟩=pure ():=by kernel_rfl
def ahd (o a b:aj):argsOk "object.__init__" ⟨[o,a],[("start",b)]⟩:=by unfold argsOk;kernel_rfl
def ahe (hl:typeLookup (.type T) "__init__"=pure (B (.builtin "object.__init__")))
  (hm:Bind.madeBy (.type T)=pure (B newId)) (ck:(B newId !=B "object.__new__")=L):
  Meets (Builtin.«object.__init__» ⟨self::a::[],kw⟩) (λ_ R s=>s.TypeIs self T/\R (.ok (.ret .none)) s):=by
 refine Meets.of_wp λprog w A R s hs=>?_;obtain⟨hT,hq⟩:=hs;repeat(any_goals (first|assumption|wp_step))
 exact⟨_,O,hq⟩
def ahf (l:J)(items:Array aj)(n:Nat)(Kc:Option J)(sl:Array (Option aj))(t:Tok):
  Meets (Builtin.«enumerate.__new__» ⟨[.type "enumerate",.ref l],[("start",.int 1 t)]⟩) (λ_ R s=>s.heap.get? l=B {cls:=.type "list",dict:=Kc,data:=.seq items n,slots:=sl}/\R (.ok (.ret (.ref (s.heap.push {cls:=.type "list_iterator",data:=.fields #[.ref l,.int 0 0]}).objs.size))) {s with heap:=(s.heap.push {cls:=.type "list_iterator",data:=.fields #[.ref l,.int 0 0]}).push {cls:=.type "enumerate",data:=.fields #[.none,.bool aH,.ref s.heap.objs.size,rawInt 1,.none,.none]}}):=
 .of_wp λprog w A R s h=>by
  obtain⟨hp,g,d,tk,os⟩:=s;obtain⟨hl,h⟩:=h;have tI:=sub_enumerate;have hL:Heap.IsList (Shared.heap ⟨hp,g,d,tk,os⟩) l items:=⟨_,hl,O,n,O⟩;wp_walk using Fm hl;refine wpAny_stack_any λst=>bj ?_;split
  .rename_i c _ _ _ _ _;cases(c==nI "enumerate")
   .wp_walk using Fm hl,wpAny_pyIter_list hL;exact⟨_,O,h⟩
   .wp_walk using Fm hl,wpAny_pyIter_list hL;exact⟨_,O,h⟩
  .wp_walk using Fm hl,wpAny_pyIter_list hL;exact⟨_,O,h⟩
def ahg (hL:s.heap.IsList l items)
  (h:∀h',IsEnum h' (s.heap.objs.size+1) s.heap.objs.size 1 .none->h'.IsListIter s.heap.objs.size l 0->h'.objs.size=s.heap.objs.size+2->(∀b o,s.heap.get? b=B o->h'.get? b=B o)->Q (.ref (s.heap.objs.size+1)) {s with heap:=h'}):
  wpAny (model prog w) A (call (.type "enumerate") [.ref l] [("start",.int 1 t)]) Q E s:=by
 funext prog w A E s l items Q t
 obtain⟨⟨c,Kc,dt,sl⟩,hl,hc,n,hd⟩:=hL;replace hc:c=.type "list":=hc;replace hd:dt=.seq items n:=hd;subst hc hd
 have hz:(s.heap.push {cls:=.type "list_iterator",data:=.fields #[.ref l,.int 0 0]}).objs.size=s.heap.objs.size+1:=mI ..
 have he:IsEnum ((s.heap.push {cls:=.type "list_iterator",data:=.fields #[.ref l,.int 0 0]}).push {cls:=.type "enumerate",data:=.fields #[.none,.bool aH,.ref s.heap.objs.size,rawInt 1,.none,.none]}) (s.heap.objs.size+1) s.heap.objs.size 1 .none:=by
  have:=fK (s.heap.push {cls:=.type "list_iterator",data:=.fields #[.ref l,.int 0 0]})
   (o:={cls:=.type "enumerate",data:=.fields #[.none,.bool aH,.ref s.heap.objs.size,rawInt 1,.none,.none]}) rfl
  rw[hz]at this;exact this
 refine ag8 (Q₁:=λobj s₁=>obj=.ref (s.heap.objs.size+1)/\s₁={s with heap:=(s.heap.push {cls:=.type "list_iterator",data:=.fields #[.ref l,.int 0 0]}).push {cls:=.type "enumerate",data:=.fields #[.none,.bool aH,.ref s.heap.objs.size,rawInt 1,.none,.none]}}) u5 (ahb _ _) UB
  (codeAny_call_builtin u5.plain UC (wpAny_of_eq (ahc _ _) (ahf l items n Kc sl t prog w A.in1 _ s ⟨hl,by rw[hz];exact⟨O,O⟩⟩))) λobj s₁ hq=>?_
 obtain⟨rfl,rfl⟩:=hq;refine⟨⟨_,he,O⟩,ahd _ _ _,?_⟩;refine ahe u5.init.lookup u5.made (by decide) prog w A.in1 _ _ ⟨⟨_,he,O⟩,O,?_⟩;exact h _ he ⟨_,dP _ (fK _ O),O,O⟩ (by rw[mI,hz]) λb o y=>dP _ (dP _ y)
def ahh (Ry:(args.any (·.1)||IS.any (·.1.isNone))=aH)
  (h:wpAny aY A (evalArgs (.type T) L args IS) (λa s₁=>wpAny aY A (call (.type T) a.pos a.kw) Q E s₁) E s):
  wpAny aY A (callWith pos (.type T) [] args IS) Q E s:=by unfold callWith;refine aJ (wpAny_holding (wpAny_mono h (λa s₁ h₁=>aJ (wpAny_standAt ?_)) λ_ _ x=>x));simp only[Ry];refine aJ (bj ?_);exact aJ (wpAny_mono h₁ (λr s₂ hr=>aJ (wpAny_holding (wpAny_point (bj hr)))) λ_ _ x=>x)
end
def UG (K:aM)(a:J):It:=
 ⟨λi H=>∃(xs:List V)(x:V),aC K H a xs/\xs[i]?=B x,λi H v H'=>∃T x,v=.ref T/\H T=N/\H'=M H T (.tup [.int ((i:Nat)+1),x])/\∀xs,aC K H a xs->xs[i]?=B x,λi H=>∃xs:List V,aC K H a xs/\xs.length<=i⟩
def ahi {P:bx}{w:World}{K:aM}{elts:List bK}{kk:Nat}{kq:Pos}(a e it:J):
  Turn P w K (.Tuple elts kk kq) (UG K a) [e,it] e (λi h=>(∃old,IsEnum h e it (((i:Nat):Int)+1) old)/\h.IsListIter it a i/\e≠it)where
 mem:=by simp
 obj:=λi h st b hb=>by
  obtain⟨⟨old,he⟩,⟨o,ho,hc,hd⟩,_⟩:=st;have e':b=e\/b=it:=by simpa using hb
  rcases e' with z|z
  .rw[z];exact⟨_,he,λv q=>nomatch q⟩
  .rw[z];exact⟨o,ho,λv q=>by rw[hd]at q;cases q⟩
 keep:=λi h h' st k=>let⟨⟨old,he⟩,hi,ck⟩:=st;⟨⟨old,k e (by simp) _ he⟩,hi.at λo q=>k it (by simp) o q,ck⟩
 item:=by
  intro X hP hw hK hc i Y s σ H E I hf st hg;subst hP hw hK;obtain⟨⟨old,he⟩,hit,ck⟩:=st;obtain⟨xs,x,hq,hx⟩:=hg;obtain⟨aI,rv,p,hz⟩:=I.list hq;obtain⟨u,hu,ru⟩:=rv.get hx;have qt:e<s.heap.objs.size:=cU he;have dA:it<s.heap.objs.size:=by obtain⟨_,q,_⟩:=hit;exact cU q
  refine Uv (x:=u) (St:=λh=>h.IsListIter it a (i+1)) he ck (λA' E' Q' hq=>wpAny_nextOf_list_item hit p.isList (by simpa using hu) hq) (λh h' st k=>st.at k) λh' ho mT hT hsz hk=>?_;refine⟨_,O,wpAny_letOwnedTupleGo_enum (s:={s with heap:=h',toks:=s.toks+1}) ho λkU mU sb=>?_⟩
  have wU:kU.get? s.heap.objs.size=B {cls:=.type "tuple",data:=.seq #[.int ((i:Nat)+1) s.toks,u]}:=(sb.2 _ (rf qt)).trans hT
  have new:d9 X.prog X.w (M H s.heap.objs.size (.tup [.int ((i:Nat)+1),x])) kU s.heap.objs.size (.tup [.int ((i:Nat)+1),x]):=
   ⟨a_2,[.int ((i:Nat)+1) s.toks,u],.cons ⟨_,O⟩ (.cons ru .nil),⟨_,wU,O,_,O⟩⟩
  have I1:Inv X Y σ (M H s.heap.objs.size (.tup [.int ((i:Nat)+1),x])) {s with heap:=kU,toks:=s.toks+1}:=
   I.Br (ch:=[e,it]) (λb ob hb q=>(sb.2 b (λz=>hb (by simp[z]))).trans (hk b ob (λz=>hb (by simp[z])) (λz=>hb (by simp[z])) q)) hf (aX _) new
  refine⟨.ref s.heap.objs.size,_,I1,O,⟨_,x,O,I.aV.fresh (aX _),O,λys hy=>by rw[I.D5 hy hq];exact hx⟩,⟨⟨u,?_⟩,mT.at λo q=>(sb.2 it (aP ck)).trans q,ck⟩,λb hb=>?_⟩
  .have e1:((i+1:Nat):Int)+1=((i:Int)+1)+1:=by lia
   rw[e1];exact mU
  .have wV:b<s.heap.objs.size:=by
    have e':b=e\/b=it:=by simpa using hb
    rcases e' with z|z
    .rw[z];exact qt
    .rw[z];exact dA
   rw[aa (fZ wV)];exact(hf b hb).1
 done:=by intro X hP hw hK hc i Y s σ H E I hf st hg;subst hP hw hK;obtain⟨⟨old,he⟩,hit,ck⟩:=st;obtain⟨xs,hq,hx⟩:=hg;obtain⟨aI,rv,p,hz⟩:=I.list hq;obtain⟨f0,f1,f2,f3,f4,f5⟩:=hf it (by simp);have hl:=rv.length;exact Uy he (λE' Q' hq=>wpAny_nextOf_list_end (show X.A.in1.handled=N from I.ok.hd hc) hit p.isList (by simp;lia) hq) λh' eb=>⟨O,I.turned (t':=s.toks) (λb o hb q=>eb b o hb q) f0 f1 f3 f4 f5⟩
 self:=λA i s Q E st h=>let⟨⟨_,he⟩,_⟩:=st;yP he h
def ahj (K:aM)(te:TE):TI:=λσ H R=>te σ H λv H1=>e_2 λa xs=>v=.ref a/\aC K H1 a xs/\R (UG K a) H1
def ahk (hg:Gl X "enumerate")(hm:X.mg "enumerate"=N)(he:PE X e te)
  (hs:starEach [e] X.env=[(aH,eval e X.env)]:=by rfl):
  PI X (.Tuple elts kk kq) (.Call (.Name "enumerate" p) [e] [⟨B "start",.Constant (.int 1) cj cp,adH⟩] pos) (ahj X.K te):=by
 funext X e te elts kk kq p cj cp adH pos
 intro Y s σ H R I h;funext Y s σ H R;refine sY (p0 I hg hm JP ?_);rw[hs];show wpAny _ _ (callWith pos (.type "enumerate") [] [(aH,eval e X.env)] [(B "start",do let v<-eval (.Constant (.int 1) cj cp) X.env;standAt pos;pure v)]) _ _ s;refine ahh O (evalArgs_kw O (sX (ba (he Y s σ H _ I h) λu s1 ⟨x,H1,I1,rx,a,xs,ex,hq,q⟩=>uL ?_)));subst ex;obtain rfl:u=cv a:=rx;refine wpAny_evalAll_cons (aJ (wpAny_Constant_int (aJ (wpAny_standAt (bj (wpAny_evalAll_nil ?_))))));have UH:=I1.tok (s1.toks+1);obtain⟨aI,rv,p',hz⟩:=UH.list hq;show wpAny _ _ (call (.type "enumerate") [.ref a] [("start",.int 1 _)]) _ _ _;refine ahg p'.isList λh' mU hit hsz hk=>yP mU ?_;have I2:Inv X Y σ H1 {s1 with heap:=h',toks:=s1.toks+1}:=UH.kept (t':=s1.toks+1) hk;refine⟨s1.heap.objs.size+1,[s1.heap.objs.size+1,s1.heap.objs.size],_,_,H1,O,I2,ahi a (s1.heap.objs.size+1) s1.heap.objs.size,⟨⟨.none,mU⟩,hit,JQ _⟩,λb hb=>?_,q⟩
 have hle:s1.heap.objs.size<=b:=by grind
 exact I1.uG hle (I1.aV.fresh hle)
end L2
namespace WK
open PySem PySem.Spec PyProof.Rows L2
noncomputable def top (i:Nat):Stmt:=ahl.main.body.getD i (.Pass ⟨0,0,0,0⟩)
abbrev Kd:Stmt:=top 1
abbrev Ke:Stmt:=top 2
abbrev Kf:Stmt:=top 19
abbrev Kg:Stmt:=top 20
abbrev Kh:Stmt:=top 21
abbrev Ki:Stmt:=top 26
abbrev Kl:Stmt:=top 27
abbrev Km:Stmt:=top 28
abbrev Fn:Stmt:=top 31
abbrev Fo:Stmt:=top 34
abbrev BL:Stmt:=top 35
abbrev Kn:Stmt:=top 36
abbrev Fp:Stmt:=top 37
abbrev Ko:Stmt:=top 38
abbrev Kp:Stmt:=top 39
abbrev Kq:Stmt:=top 40
abbrev BM:Stmt:=top 41
abbrev Kr:Stmt:=top 42
abbrev Ks:Stmt:=top 44
abbrev Kt:Stmt:=top 45
abbrev BN:Stmt:=top 87
abbrev Ku:Stmt:=top 64
abbrev Kv:Stmt:=top 66
abbrev Kw:Stmt:=top 67
abbrev Kx:Stmt:=top 68
abbrev Ky:Stmt:=top 69
abbrev s_again:Stmt:=top 70
abbrev Fq:Stmt:=top 71
abbrev Kz:Stmt:=top 77
abbrev KA:Stmt:=top 78
abbrev KC:Stmt:=top 79
abbrev KD:Stmt:=top 80
abbrev KG:Stmt:=top 84
abbrev Fs:Stmt:=top 85
abbrev Ft:Stmt:=top 86
abbrev KH:Stmt:=top 89
abbrev KI:Stmt:=top 91
abbrev KJ:Stmt:=top 92
abbrev KL:Stmt:=top 93
abbrev KN:Stmt:=top 94
abbrev KO:Stmt:=top 95
abbrev Fu:Stmt:=top 96
abbrev Fv:Stmt:=top 97
abbrev KP:Stmt:=top 118
abbrev KQ:Stmt:=top 119
abbrev Fw:Stmt:=top 120
abbrev KR:Stmt:=top 121
abbrev KS:Stmt:=top 122
abbrev KU:Stmt:=top 123
abbrev BO:Stmt:=gO (top 25) 0
abbrev KW:Stmt:=gO (top 29) 0
abbrev KY:Stmt:=gO (top 30) 0
abbrev KZ:Stmt:=gO (top 30) 1
abbrev K0:Stmt:=gO (top 30) 2
abbrev K2:Stmt:=gO (top 30) 3
abbrev K3:Stmt:=gO (top 43) 0
abbrev K4:Stmt:=gO (top 63) 0
abbrev K5:Stmt:=gO (top 63) 1
abbrev K6:Stmt:=gO (top 63) 2
abbrev K7:Stmt:=gO (top 63) 3
abbrev Fx:Stmt:=gO (top 63) 4
abbrev K8:Stmt:=gO (top 63) 5
abbrev K9:Stmt:=gO (top 63) 6
abbrev La:Stmt:=gO (top 63) 7
abbrev Lb:Stmt:=gO (top 63) 8
abbrev Lc:Stmt:=gO (top 63) 9
abbrev Ld:Stmt:=gO (top 63) 10
abbrev Fy:Stmt:=gO (top 63) 11
abbrev Le:Stmt:=gO (top 63) 12
abbrev Lf:Stmt:=gO (top 76) 0
abbrev Lg:Stmt:=gO (top 76) 1
abbrev Lh:Stmt:=gO (top 76) 2
abbrev Li:Stmt:=gO (top 76) 3
abbrev Lj:Stmt:=gO (top 76) 4
abbrev Lk:Stmt:=gO (top 76) 5
abbrev Ll:Stmt:=gO (top 83) 0
def bz {X:Cx}(i:Nat){x:ao}{e:bK}{te:TE}{pos pos':Pos}(nd:X.aR.Nodup)(he:PE X e te)(hi:X.aR[i]?=B x:=by rfl)(hx:Loc X.env.scope x:=by exact bM O)(hs:sO e (B (.Name x pos')) pos.line X.env=pure false:=by rfl)(hf:X.fn x=L\/X.env.scope.names.lookup x=B .local:=by ac_nf):PS X (.Assign [.Name x pos'] e pos) (AL te (oJ i)):=QI nd hi hx he hs hf
def rG {X:Cx}(i:Nat){x:ao}{e:bK}{te:TE}{pos pos':Pos}(nd:X.aR.Nodup)(he:PE X e te)(hi:X.aR[i]?=B x:=by rfl)(hx:Loc X.env.scope x:=by exact ET O)(hs:sO e (B (.Name x pos')) pos.line X.env=pure false:=by rfl)(hf:X.fn x=L\/X.env.scope.names.lookup x=B .local:=by ac_nf):PS X (.Assign [.Name x pos'] e pos) (AL te (oJ i)):=QI nd hi hx he hs hf
structure Txt (K:aM)(mg:ao->Option aj):Prop where
 y4:∃t,mg "ALWAYS"=B (.int 84 t)
 Fz:∃t,mg "FIRST_ATOM"=B (.int 48 t)
 ahm:∃t,mg "LAST_ATOM"=B (.int 55 t)
 w8:∃t,mg "NOT"=B (.int 126 t)
 y6:∃t,mg "AND"=B (.int 38 t)
 OR:∃t,mg "OR"=B (.int 124 t)
 UI:∃t,mg "KNOWS"=B (.int 75 t)
 FA:∃t,mg "FIRST_AGENT"=B (.int 97 t)
 ahn:∃t,mg "LAST_AGENT"=B (.int 100 t)
 UJ:∃t,mg "EVERYBODY"=B (.int 69 t)
 Lm:∃t,mg "COMMON"=B (.int 67 t)
 w9:∃t,mg "TELLING"=B (.int 91 t)
 aho:∃t,mg "TOLD"=B (.int 93 t)
 Ln:∃t,mg "BRACKET"=B (.int 40 t)
 Lo:∃t,mg "BRACKET_END"=B (.int 41 t)
 ATOMS:∃t,mg "ATOMS"=B (.int 8 t)
 AGENTS:∃t,mg "AGENTS"=B (.int 4 t)
 UK:∃t,mg "LONGEST"=B (.int 300 t)
 FC:∃t,mg "WRONG"=B (.int (-1) t)
 ahp:∃t,mg "TOO_DEEP"=B (.int (-2) t)
 Lp:∃t,mg "NO_ROOM"=B (.int (-3) t)
 FD:∃t,mg "NO_STATE"=B (.int (-4) t)
 ahq:∃t,mg "LINKED"=B (.int (-5) t)
 ahr:∃t,mg "NOT_LINKED"=B (.int (-6) t)
 xa:∃t,mg "NONE_IS_SO"=B (.int (-7) t)
 ahs:∃t,mg "COMMON_TOLD"=B (.int (-8) t)
 UL:∃t,mg "TOO_LARGE"=B (.int (-9) t)
 UM:∃t,mg "NOT_SO"=B (.int (-10) t)
 aht:∃t,mg "NO_CHAIN"=B (.int (-11) t)
 ahu:∃t,mg "NOTHING_TO_UNDO"=B (.int (-12) t)
 ahv:∃t,mg "MASKS"=B (.int 256 t)
 UN:∃t,mg "MOST_STATES"=B (.int 16 t)
 UO:∃t,mg "MOST_LINKS"=B (.int 200 t)
 BP:∃t,mg "BEGINNING"=B (.int 0 t)
 UP:∃t,mg "NAMING"=B (.int 1 t)
 UQ:∃t,mg "ENDED"=B (.int 2 t)
 UR:∃t,mg "LARGEST"=B (.int 3000 t)
 US:∃t,mg "STATE"=B (.int 0 t)
 UT:∃t,mg "LINK"=B (.int 1 t)
 UU:∃t,mg "UNLINK"=B (.int 2 t)
 UW:∃t,mg "DROP"=B (.int 3 t)
 SO:∃t,mg "SO"=B (.int 4 t)
 UX:∃t,mg "HOLDS"=B (.int 5 t)
 UY:∃t,mg "TRUTH"=B (.int 6 t)
 UZ:∃t,mg "REDUCE"=B (.int 7 t)
 Lq:∃t,mg "TELL"=B (.int 8 t)
 Lr:∃t,mg "WHISPER"=B (.int 9 t)
 Ls:∃t,mg "SHOW"=B (.int 10 t)
 Lu:∃t,mg "AGAIN"=B (.int 11 t)
 ahw:∃t,mg "ALIKE"=B (.int 12 t)
 U0:∃t,mg "LEAST"=B (.int 13 t)
 U1:∃t,mg "CHAIN"=B (.int 14 t)
 ahx:∃t,mg "MINDS"=B (.int 15 t)
 ahy:∃t,mg "UNDO"=B (.int 16 t)
 ahz:∃t,mg "DEEPEST"=B (.int 40 t)
 ahA:mg "all"=N
 ahB:mg "any"=N
 U2:mg "dict"=N
 tJ:mg "enumerate"=N
 ahC:mg "int"=N
 ahD:mg "isinstance"=N
 gP:mg "len"=N
 Lv:mg "list"=N
 ahE:mg "max"=N
 rH:mg "range"=N
 FE:mg "reversed"=N
 FG:mg "sorted"=N
 U3:mg "sum"=N
 ahF:mg "tuple"=N
 ahG:∃a,mg "NUMBERS"=B (.ref a)/\∀H:Hp,cW K H a ([1,3,3,1,1,0,0,0,0,1,1,0,2,0,0,0,0,0].map V.int)
def FH:ko "sorted"=B (.builtin "sorted"):=by decide+kernel
def ahH:ko "max"=B (.builtin "max"):=by decide+kernel
def U4:ko "sum"=B (.builtin "sum"):=by decide+kernel
def ahI:ko "any"=B (.builtin "any"):=by decide+kernel
def ahJ:ko "all"=B (.builtin "all"):=by decide+kernel
def ahK:ko "isinstance"=B (.builtin "isinstance"):=by decide+kernel
def U5:ko "dict"=B (.type "dict"):=by decide+kernel
def ahL:ko "tuple"=B (.type "tuple"):=by decide+kernel
def ahM:ko "int"=B (.type "int"):=by decide+kernel
section
variable{X:Cx}{x:ao}{p pos apos:Pos}
def aT (h:∃t,X.mg x=B (.int i t))(hg:Gl X x:=by rfl)(hd:(x==("__debug__":ao))=false:=by decide):PE X (.Name x pos) (tC (.int i)):=by obtain⟨t,h⟩:=h;exact Qy hg h ⟨t,O⟩ hd
end
structure cf (P:bx)(w:World)(K:aM)(mg:ao->Option aj)(ak:a9)(x:ao)(k:Nat)(ps:List ao)(sp:Sp):Prop where
 ex:∃f fd,bu P w K mg ak bI k f fd ps sp/\Binds K fd ps []/\mg x=B (.ref f)/\nO K (.ref f)=L
structure fC (P:bx)(w:World)(K:aM)(mg:ao->Option aj)(ak:a9)(C:J)(m:ao)(k:Nat)(ps:List ao)(sp:Sp):Prop where
 ex:∃f fd,bu P w K mg ak bI k f fd ps sp/\Binds K fd ps []/\Meth K C m f
 cl:jj K C
structure n6 (P:bx)(w:World)(K:aM)(mg:ao->Option aj)(ak:a9)(x:ao)(C:J)(k:Nat)(ps:List ao)(sp:Sp):Prop where
 ex:∃f fd,bu P w K mg ak bI k f fd ps sp/\Binds K fd ps []/\Mk K C f/\mg x=B (.ref C)
section
variable{X:Cx}{k n:Nat}{C:J}{ps:List ao}{sp:Sp}{x m:ao}{p pos apos:Pos}{e o:bK}{es:List bK}{ta:TE}{t:TA}
def b7 (D:cf X.prog X.w X.K X.mg X.ak x k ps sp)(hr:fU n X.A)(hg:Gl X x)(ha:PA X (e::es) t)(hk:k<=n:=by decide)(lN:(x==("__debug__":ao))=false:=by decide)
  (he:starEach (e::es) X.env=(aH,eval e X.env)::starEach es X.env:=by rfl) (gX:(backTo pos (starEach es X.env)).any (·.1)=false:=by rfl):PE X (.Call (.Name x p) (e::es) [] pos) (Q6 sp [] E0 t):=by obtain⟨f,fd,F,b,m,kp⟩:=D.ex;exact adC F (hr.mono hk) hg m kp b .nil Bv ha lN he gX
def gm (hO:PE X o ta)(D:fC X.prog X.w X.K X.mg X.ak C m k ps sp)(hr:fU n X.A)(ha:PA X (e::es) t)(hk:k<=n:=by decide)
  (eY:starEach (e::es) X.env=(aH,eval e X.env)::starEach es X.env:=by rfl) (gX:(backTo pos (starEach es X.env)).any (·.1)=false:=by rfl)
  (ht:eval (.Call (.Attribute o m apos) (e::es) [] pos) X.env=(do
    let ov<-eval o X.env
    standAt apos.atName;let(f,first)<-holding [ov] (getMethod ov m pl)
    callWith pos f first (backTo pos (starEach (e::es) X.env)) (backToKw pos (keywordEach [] X.env))):=by rfl):
  PE X (.Call (.Attribute o m apos) (e::es) [] pos) (Eh C m sp [] E0 ta t):=by obtain⟨f,fd,F,b,mt⟩:=D.ex;exact adD hO D.cl mt F (hr.mono hk) b .nil Bv ha eY gX ht
def FI (hO:PE X o ta)(D:fC X.prog X.w X.K X.mg X.ak C m k ps sp)(hr:fU n X.A)(hk:k<=n:=by decide)
  (ht:eval (.Call (.Attribute o m apos) [] [] pos) X.env=(do
    let ov<-eval o X.env
    standAt apos.atName;let(f,first)<-holding [ov] (getMethod ov m pl)
    callWith pos f first (backTo pos (starEach [] X.env)) (backToKw pos (keywordEach [] X.env))):=by rfl):
  PE X (.Call (.Attribute o m apos) [] [] pos) (Eh C m sp [] E0 ta A2):=by obtain⟨f,fd,F,b,mt⟩:=D.ex;exact adE hO D.cl mt F (hr.mono hk) b .nil Bv ht
def rJ (D:n6 X.prog X.w X.K X.mg X.ak x C k ps sp)(hr:fU n X.A)(hg:Gl X x)(ha:PA X (e::es) t)(hk:k+1<=n:=by decide)(lN:(x==("__debug__":ao))=false:=by decide)
  (he:starEach (e::es) X.env=(aH,eval e X.env)::starEach es X.env:=by rfl) (gX:(backTo pos (starEach es X.env)).any (·.1)=false:=by rfl):PE X (.Call (.Name x p) (e::es) [] pos) (Ei C sp [] E0 t):=by obtain⟨f,fd,F,b,aY,m⟩:=D.ex;exact adF aY F (hr.mono hk) hg m b .nil Bv ha lN he gX
def U6 (D:n6 X.prog X.w X.K X.mg X.ak x C k ps sp)(hr:fU n X.A)(hg:Gl X x)(hk:k+1<=n:=by decide)(lN:(x==("__debug__":ao))=false:=by decide):PE X (.Call (.Name x p) [] [] pos) (Ei C sp [] E0 A2):=by obtain⟨f,fd,F,b,aY,m⟩:=D.ex;exact adG aY F (hr.mono hk) hg m b .nil Bv lN
end
def Lw [Decidable a][Decidable b](h:a):decide b=decide (a/\b):=by grind
def aS (s:aw H H')(hp:H p=N):aw H (M H' p o):=λb u e=>by rw[aa (aK e hp)];exact s b u e
def bp (hp:H p=N):aw H (M H p o):=aS (aw.refl H) hp
structure n9 (K:aM)(C:J):Prop where
 cl:jj K C
 xc:e8 K C "numbers"
 f7:e8 K C "masks"
 Vb:e8 K C "all_states"
 Vc:e8 K C "atoms"
 tK:e8 K C "possible"
 BQ:e8 K C "anyone"
structure FN (K:aM)(C:J):Prop where
 cl:jj K C
 rK:e8 K C "sign"
 mY:e8 K C "only"
 zc:e8 K C "first"
structure zd (K:aM)(C:J):Prop where
 cl:jj K C
 BR:e8 K C "view"
 mY:e8 K C "only"
 BS:e8 K C "pending"
 LH:e8 K C "value"
structure LI (K:aM)(C:J):Prop where
 cl:jj K C
 BU:e8 K C "agent"
 LJ:e8 K C "place"
structure ip (K:aM)(C:J):Prop where
 cl:jj K C
 f7:e8 K C "masks"
 gY:e8 K C "links"
 gZ:e8 K C "actual"
 ze:e8 K C "last_number"
 BW:e8 K C "past"
structure va (K:aM)(C:J):Prop where
 cl:jj K C
 lW:e8 K C "signs"
 zf:e8 K C "wanting"
 rL:e8 K C "stage"
structure BY (K:aM)(C:J):Prop where
 cl:jj K C
 FW:e8 K C "size"
 BZ:e8 K C "guarded"
 lW:e8 K C "signs"
noncomputable def vi (l:List Int):List V:=l.map V.int
def Pk (K:aM):Sp:=λvs H Q _=>e_2 λ(cA:J)(l:List Int)=>vs=[.ref cA]/\aC K H cA (vi l)/\l.length<=30000/\Pl l=L/\∀(H':Hp)(S:J),H' S=B (.Z (vi (Po l)))->Q (.ref S) H'
def c7 (K:aM)(mg:ao->Option aj)(x nm qual:ao)(st:hX)(ps:List ao):Prop:=∃f fd,bG K nm qual st f fd/\Binds K fd ps []/\mg x=B (.ref f)/\nO K (.ref f)=L
def gA (K:aM)(C:J)(m qual:ao)(st:hX)(ps:List ao):Prop:=∃f fd,bG K m qual st f fd/\Binds K fd ps []/\Meth K C m f
def vV (K:aM)(mg:ao->Option aj)(x:ao)(C:J):Prop:=mg x=B (.ref C)/\A1 K C=L/\nO K (.ref C)=L
structure aa8 (K:aM)(mg:ao->Option aj)(C:J):Prop where
 c:n9 K C
 k:vV K mg "View" C
 anm:gA K C "__init__" "View.__init__" BO ["self","masks","links"]
structure aa9 (K:aM)(mg:ao->Option aj)(C:J):Prop where
 c:FN K C
 k:vV K mg "Pending" C
 ano:gA K C "__init__" "Pending.__init__" KW ["self","sign","only"]
structure aa' (K:aM)(mg:ao->Option aj)(C:J):Prop where
 c:zd K C
 k:vV K mg "Walk" C
 anp:gA K C "value_of" "Walk.value_of" K2 ["self","last","value"]
 anq:gA K C "end_formula" "Walk.end_formula" K0 ["self","value"]
 anr:gA K C "__init__" "Walk.__init__" KY ["self","view"]
 ant:gA K C "take" "Walk.take" KZ ["self","sign"]
structure aba (K:aM)(mg:ao->Option aj)(C:J):Prop where
 c:LI K C
 k:vV K mg "Lone" C
 anu:gA K C "__init__" "Lone.__init__" K3 ["self","agent","place"]
structure abb (K:aM)(mg:ao->Option aj)(C:J):Prop where
 c:ip K C
 k:vV K mg "Model" C
 anv:gA K C "add_state" "Model.add_state" Lb ["self","mask"]
 anw:gA K C "state" "Model.state" K5 ["self","mask"]
 anx:gA K C "so" "Model.so" K8 ["self","number"]
 anz:gA K C "link" "Model.link" K6 ["self","agent","start","end"]
 anA:gA K C "unlink" "Model.unlink" K7 ["self","agent","start","end"]
 anB:gA K C "where" "Model.where" Ld ["self","signs"]
 anC:gA K C "taken_for_possible" "Model.taken_for_possible" Fy ["self","agent"]
 anD:gA K C "keep_only" "Model.keep_only" Le ["self","numbers"]
 anE:gA K C "drop" "Model.drop" Fx ["self","number"]
 anF:gA K C "__init__" "Model.__init__" K4 ["self"]
 anG:gA K C "as_it_is" "Model.as_it_is" Lc ["self"]
 anH:gA K C "undo" "Model.undo" K9 ["self"]
 anI:gA K C "whole" "Model.whole" La ["self"]
structure abc (K:aM)(mg:ao->Option aj)(C:J):Prop where
 c:va K C
 k:vV K mg "Reader" C
 anJ:gA K C "__init__" "Reader.__init__" Lf ["self"]
 anK:gA K C "is_done" "Reader.is_done" Lk ["self"]
 anL:gA K C "names_agent" "Reader.names_agent" Li ["self","code"]
 anM:gA K C "begins" "Reader.begins" Lh ["self","code"]
 anN:gA K C "goes_on" "Reader.goes_on" Lj ["self","code"]
 anO:gA K C "takes" "Reader.takes" Lg ["self","code"]
structure abd (K:aM)(mg:ao->Option aj)(C:J):Prop where
 c:BY K C
 k:vV K mg "Piece" C
 anP:gA K C "__init__" "Piece.__init__" Ll ["self","size","guarded","signs"]
structure TopD (K:aM)(mg:ao->Option aj):Prop where
 anQ:c7 K mg "is_atom" "is_atom" "is_atom" Kf ["sign"]
 anR:c7 K mg "is_agent" "is_agent" "is_agent" Kg ["sign"]
 anS:c7 K mg "is_agent_number" "is_agent_number" "is_agent_number" Ku ["agent"]
 anT:c7 K mg "parts" "parts" "parts" Kh ["sign"]
 anU:c7 K mg "is_guarded" "is_guarded" "is_guarded" KG ["sign"]
 anV:c7 K mg "signs_of" "signs_of" "signs_of" Kz ["codes"]
 anW:c7 K mg "depth_of" "depth_of" "depth_of" KA ["signs"]
 anY:c7 K mg "end_formula" "end_formula" "end_formula" KD ["codes","wanted"]
 anZ:c7 K mg "codes_of" "codes_of" "codes_of" KC ["signs"]
 an0:c7 K mg "tells_common" "tells_common" "tells_common" Fs ["signs"]
 an1:c7 K mg "joined_reducing" "joined" "joined" BN ["sign","found"]
 an2:c7 K mg "behind" "behind" "behind" KH ["piece","told"]
 an3:c7 K mg "reduced" "reduced" "reduced" Ft ["signs"]
 an4:c7 K mg "states_with" "states_with" "states_with" Ki ["masks","atom"]
 an5:c7 K mg "knowing" "knowing" "knowing" Kl ["possible","value","only"]
 an6:c7 K mg "knowing_commonly" "knowing_commonly" "knowing_commonly" Km ["anyone","value","only"]
 an7:c7 K mg "states_where" "states_where" "states_where" Fn ["masks","links","signs"]
 an8:c7 K mg "holds" "holds" "holds" KI ["model","signs"]
 an9:c7 K mg "truth" "truth" "truth" KJ ["model","signs"]
 an':c7 K mg "reduction" "reduction" "reduction" KL ["signs"]
 aoa:c7 K mg "mind" "mind" "mind" Fv ["possible","where"]
 aob:c7 K mg "tell" "tell" "tell" Kv ["model","signs"]
 aoc:c7 K mg "show" "show" "show" Ky ["model","agent","signs"]
 aod:c7 K mg "again" "again" "again" s_again ["model","signs"]
 aoe:c7 K mg "minds" "minds" "minds" Fu ["model","signs"]
 aof:c7 K mg "links_of_copies" "links_of_copies" "links_of_copies" Kx ["links","agent","copies"]
 aog:c7 K mg "whisper" "whisper" "whisper" Kw ["model","agent","signs"]
 aoh:c7 K mg "chains_from" "chains_from" "chains_from" Kd ["links","start"]
 aoi:c7 K mg "chain_out_of" "chain_out_of" "chain_out_of" Ke ["links","start","kept"]
 aoj:c7 K mg "chain" "chain" "chain" KO ["model","signs"]
 aok:c7 K mg "places_in" "places_in" "places_in" Fp ["some"]
 aol:c7 K mg "paired_by" "paired_by" "paired_by" BL ["keys"]
 aom:c7 K mg "seen_from" "seen_from" "seen_from" Kn ["view","pairs","place"]
 aon:c7 K mg "round_gone" "round_gone" "round_gone" Ko ["rounds","first","second"]
 aoo:c7 K mg "rounds_of" "rounds_of" "rounds_of" Fo ["view"]
 aop:c7 K mg "least_alike" "least_alike" "least_alike" Kp ["view"]
 aoq:c7 K mg "least" "least" "least" Fq ["model"]
 aor:c7 K mg "atom_apart" "atom_apart" "atom_apart" Kr ["view","first","second"]
 aos:c7 K mg "without_partner" "without_partner" "without_partner" Ks ["view","pairs","here","there"]
 aot:c7 K mg "joined_likeness" "joined" "joined" Kt ["sign","empty","found"]
 aou:c7 K mg "pieces_apart" "pieces_apart" "pieces_apart" BM ["view","rounds","first","second"]
 aov:c7 K mg "parting" "parting" "parting" Kq ["view","rounds","first","second"]
 aow:c7 K mg "alike" "alike" "alike" KN ["model","first","second"]
 aox:c7 K mg "has_formula" "has_formula" "has_formula" KP ["call"]
 aoy:c7 K mg "question_answer" "question_answer" "question_answer" KR ["model","call","signs"]
 aoz:c7 K mg "remember" "remember" "remember" KS ["model","call","before"]
 aoA:c7 K mg "formula_answer" "formula_answer" "formula_answer" Fw ["model","call","numbers","codes"]
 aoB:c7 K mg "number_answer" "number_answer" "number_answer" KQ ["model","call","numbers"]
 aoC:c7 K mg "answers" "answers" "answers" KU ["calls"]
structure Z_ where(P:bx)(w:World)(K:aM)(m:ao->Option aj)(a:a9)(b c d e f g h:J)
def D_(z:Z_):=Txt z.K z.m->TopD z.K z.m->aa8 z.K z.m z.b->aa9 z.K z.m z.c->aa' z.K z.m z.d->aba z.K z.m z.e->abb z.K z.m z.f->abc z.K z.m z.g->abd z.K z.m z.h->∀f fd,bG z.K "answers" "answers" KU f fd->bu z.P z.w z.K z.m z.a bI 11 f fd ["calls"] (Pk z.K)
noncomputable section
instance:Nonempty Z_:=iW.elim λw=>⟨default,w,default,λ_=>N,default,0,0,0,0,0,0,0⟩
def z_:Z_:=Classical.epsilon λz=>¬D_ z
@[irreducible]def P:=z_.P
@[irreducible]def w_:=z_.w
@[irreducible]def K:=z_.K
@[irreducible]def mg:=z_.m
@[irreducible]def ak:=z_.a
@[irreducible]def br:=z_.b
@[irreducible]def cZ:=z_.c
@[irreducible]def dg:=z_.d
@[irreducible]def kF:=z_.e
@[irreducible]def aG:=z_.f
@[irreducible]def cM:=z_.g
@[irreducible]def eA:=z_.h
end
instance:Nonempty bo:=⟨.atom 0⟩
instance:Nonempty Vbtaag.Model:=⟨⟨[],[]⟩⟩
instance:Nonempty Pd:=⟨⟨0,0,N⟩⟩
instance:Nonempty Wk:=⟨⟨[],0,0⟩⟩
instance:Nonempty Pc:=⟨⟨0,0,N⟩⟩
instance:Nonempty RS:=⟨⟨[],[],0⟩⟩
abbrev b_:=bu P w_ K mg ak bI
abbrev c_:=cf P w_ K mg ak
abbrev f_:=fC P w_ K mg ak
abbrev n_:=n6 P w_ K mg ak
def Ly:Sp:=λvs H Q _=>∃c:Int,vs=[.int c]/\Q (.bl (decide (48<=c/\c<=55))) H
def Lz:Sp:=λvs H Q _=>∃c:Int,vs=[.int c]/\Q (.bl (decide (97<=c/\c<=100))) H
def LA:Sp:=λvs H Q _=>∃c:Int,vs=[.int c]/\Q (.bl (decide (0<=c/\c<4))) H
def xb:Sp:=λvs H Q _=>∃c:Nat,vs=[.int c]/\∀H',aw H H'->Q (.int (parts c)) H'
def LB:Sp:=λvs H Q _=>∃c:Nat,vs=[.int c]/\∀H',aw H H'->Q (.bl (dQ c)) H'
def U7:bZ ["sign"] ["sign"] (bb Kf):=⟨O,O,O,by simp,O,by decide+kernel,by decide+kernel⟩
def ahN (F:bG K "is_atom" "is_atom" Kf f fd)(T:Txt K mg):b_ 1 f fd ["sign"] (Ly):=by
 rcases F,U7 with⟨c,rfl,q⟩;refine⟨_,(aE (aW (ID wz wz (aT T.Fz) (pv 0) (aT T.ahm)))),?_⟩;refine⟨_,_,O,O,_,O,?_⟩;refine mV (λh1=>?_) (λh1=>?_)
 .refine⟨_,_,O,O,?_⟩;have:=of_decide_eq_true h1;rw[<-Lw this]at q;exact q
 .have:¬(48:Int)<=c:=λz=>h1 (cw z);rw[eG (λz=>this z.1)]at q;exact q
def U8:bZ ["sign"] ["sign"] (bb Kg):=⟨O,O,O,by simp,O,by decide+kernel,by decide+kernel⟩
def ahO (F:bG K "is_agent" "is_agent" Kg f fd)(T:Txt K mg):b_ 1 f fd ["sign"] (Lz):=by
 rcases F,U8 with⟨c,rfl,q⟩;refine⟨_,(aE (aW (ID wz wz (aT T.FA) (pv 0) (aT T.ahn)))),?_⟩;refine⟨_,_,O,O,_,O,?_⟩;refine mV (λh1=>?_) (λh1=>?_)
 .refine⟨_,_,O,O,?_⟩;have:=of_decide_eq_true h1;rw[<-Lw this]at q;exact q
 .have:¬(97:Int)<=c:=λz=>h1 (cw z);rw[eG (λz=>this z.1)]at q;exact q
def U9:bZ ["agent"] ["agent"] (bb Ku):=⟨O,O,O,by simp,O,by decide+kernel,by decide+kernel⟩
def ahP (F:bG K "is_agent_number" "is_agent_number" Ku f fd)(T:Txt K mg):b_ 1 f fd ["agent"] (LA):=by
 rcases F,U9 with⟨c,rfl,q⟩;refine⟨_,(aE (aW (ID wz AX aZ (pv 0) (aT T.AGENTS)))),?_⟩;refine⟨_,_,O,O,_,O,?_⟩;refine mV (λh1=>?_) (λh1=>?_)
 .refine⟨_,_,O,O,?_⟩;have:=of_decide_eq_true h1;rw[<-Lw this]at q;exact q
 .have:¬(0:Int)<=c:=λz=>h1 (cw z);rw[eG (λz=>this z.1)]at q;exact q
def LC (x:Int)(a b c:Int):ib (.int x) [.int a,.int b,.int c]=decide (x=a\/x=b\/x=c):=by show(a==x||(b==x||(c==x||false)))=_;rfl'
def LD (x:Int)(a b:Int):ib (.int x) [.int a,.int b]=decide (x=a\/x=b):=by show(a==x||(b==x||false))=_;rfl'
def U':bZ ["sign"] ["sign"] (bb Kh):=⟨O,O,O,by simp,O,by decide+kernel,by decide+kernel⟩
def ahQ (F:bG K "parts" "parts" Kh f fd)(T:Txt K mg)(y9:c_ "is_atom" 1 ["sign"] (Ly)):b_ 2 f fd ["sign"] (xb):=by
 rcases F,U' with⟨c,rfl,q⟩;refine⟨_,(az (bc (PW.pt (yn (bA cy (pv 0) (aT T.y4) (bY _)) (ym (lL (b7 y9 hr (by rfl) (af (pv 0) aq)))))) (aE (aW aZ)) bC) (az (bc (bA oQ (pv 0) (iZ (af (aT T.y6) (af (aT T.OR) (af (aT T.w9) aq)))) (by with_unfolding_all rfl)) (aE (aW aZ)) bC) (aE (aW aZ)))),?_⟩;refine⟨O,_,O,?_⟩;refine mV (λh1=>?_) (λh1=>?_)
 .have e:V.int c=V.int 84:=of_decide_eq_true h1;have e':c=84:=by grind
  subst e';exact bO (q H (aw.refl H))
 .have n84:¬c=84:=λz=>h1 (cw (by rw[z];rfl));refine⟨(c:Int),O,_,O,?_⟩;refine mV (λh2=>?_) (λh2=>?_)
  .have e:(48:Int)<=c/\(c:Int)<=55:=of_decide_eq_true h2;have:parts c=0:=sv (.inr (by lia));rw[this]at q;exact q H (aw.refl H)
  .have e:¬((48:Int)<=c/\(c:Int)<=55):=λz=>h2 (cw z);refine⟨a_3,λt ht=>⟨t,_,O,.inr (cW.of ah),O,O,_,O,?_⟩⟩;have s1:aw H (M H t (.tup [.int 38,.int 124,.int 91])):=bp ht;show if(ib (.int (c:Int)) [.int 38,.int 124,.int 91])=L then _ else _
   rw[LC];refine mV (λh3=>?_) (λh3=>?_)
   .have e3:=of_decide_eq_true h3;have:parts c=2:=iC (by lia);rw[this]at q;exact q _ s1
   .have e3:¬((c:Int)=38\/(c:Int)=124\/(c:Int)=91):=λz=>h3 (cw z)
    have:parts c=1:=by unfold parts;grind
    rw[this]at q;exact q _ s1
def Va:bZ ["sign"] ["sign"] (bb KG):=⟨O,O,O,by simp,O,by decide+kernel,by decide+kernel⟩
def ahR (F:bG K "is_guarded" "is_guarded" KG f fd)(T:Txt K mg):b_ 1 f fd ["sign"] (LB):=by
 rcases F,Va with⟨c,rfl,q⟩;refine⟨_,(aE (aW (sV Ba (pv 0) (iZ (af (aT T.y4) (af (aT T.y6) (af (aT T.OR) aq)))) (by with_unfolding_all rfl)))),?_⟩;refine⟨a_3,λt ht=>⟨t,_,O,.inr (cW.of ah),O,O,?_⟩⟩;have s1:aw H (M H t (.tup [.int 84,.int 38,.int 124])):=bp ht
 have e:dQ c=!ib (.int (c:Int)) [.int 84,.int 38,.int 124]:=by rw[LC];unfold dQ;rfl'
 rw[e]at q;exact q _ s1
noncomputable def u6 (x0 x1 x2 x3 x4 x5:V):List (ao×V):=[("numbers",x0),("masks",x1),("all_states",x2),("atoms",x3),("possible",x4),("anyone",x5)]
def za (x0 x1 x2 x3 x4 x5:V):(u6 x0 x1 x2 x3 x4 x5).lookup ("numbers":ao)=B x0:=rfl
def FJ (x0 x1 x2 x3 x4 x5:V):(u6 x0 x1 x2 x3 x4 x5).lookup ("masks":ao)=B x1:=rfl
def ahS (x0 x1 x2 x3 x4 x5:V):(u6 x0 x1 x2 x3 x4 x5).lookup ("all_states":ao)=B x2:=rfl
def ahT (x0 x1 x2 x3 x4 x5:V):(u6 x0 x1 x2 x3 x4 x5).lookup ("atoms":ao)=B x3:=rfl
def u7 (x0 x1 x2 x3 x4 x5:V):(u6 x0 x1 x2 x3 x4 x5).lookup ("possible":ao)=B x4:=rfl
def FK (x0 x1 x2 x3 x4 x5:V):(u6 x0 x1 x2 x3 x4 x5).lookup ("anyone":ao)=B x5:=rfl
noncomputable def tL (x0 x1 x2:V):List (ao×V):=[("sign",x0),("only",x1),("first",x2)]
def tM (x0 x1 x2:V):(tL x0 x1 x2).lookup ("sign":ao)=B x0:=rfl
def zb (x0 x1 x2:V):(tL x0 x1 x2).lookup ("only":ao)=B x1:=rfl
def FL (x0 x1 x2:V):(tL x0 x1 x2).lookup ("first":ao)=B x2:=rfl
noncomputable def mZ (x0 x1 x2 x3:V):List (ao×V):=[("view",x0),("only",x1),("pending",x2),("value",x3)]
def FO (x0 x1 x2 x3:V):(mZ x0 x1 x2 x3).lookup ("view":ao)=B x0:=rfl
def LF (x0 x1 x2 x3:V):(mZ x0 x1 x2 x3).lookup ("only":ao)=B x1:=rfl
def FP (x0 x1 x2 x3:V):(mZ x0 x1 x2 x3).lookup ("pending":ao)=B x2:=rfl
def ahU (x0 x1 x2 x3:V):(mZ x0 x1 x2 x3).lookup ("value":ao)=B x3:=rfl
def ahV (x0 x1 x2 x3:V):(mZ x0 x1 x2 x3).lookup ("take":ao)=none:=rfl
def Vd (x0 x1 x2 x3:V):(mZ x0 x1 x2 x3).lookup ("end_formula":ao)=none:=rfl
def ahW (x0 x1 x2 x3:V):(mZ x0 x1 x2 x3).lookup ("value_of":ao)=none:=rfl
def FQ (x0 x1:V):List (ao×V):=[("agent",x0),("place",x1)]
def FR (x0 x1:V):(FQ x0 x1).lookup ("agent":ao)=B x0:=rfl
def Ve (x0 x1:V):(FQ x0 x1).lookup ("place":ao)=B x1:=rfl
noncomputable def fX (x0 x1 x2 x3 x4:V):List (ao×V):=[("masks",x0),("links",x1),("actual",x2),("last_number",x3),("past",x4)]
def i8 (x0 x1 x2 x3 x4:V):(fX x0 x1 x2 x3 x4).lookup ("masks":ao)=B x0:=rfl
def jq (x0 x1 x2 x3 x4:V):(fX x0 x1 x2 x3 x4).lookup ("links":ao)=B x1:=rfl
def ahX (x0 x1 x2 x3 x4 y:V):fN "links" y (fX x0 x1 x2 x3 x4)=fX x0 y x2 x3 x4:=rfl
def jz (x0 x1 x2 x3 x4:V):(fX x0 x1 x2 x3 x4).lookup ("actual":ao)=B x2:=rfl
def ahY (x0 x1 x2 x3 x4 y:V):fN "actual" y (fX x0 x1 x2 x3 x4)=fX x0 x1 y x3 x4:=rfl
def FT (x0 x1 x2 x3 x4:V):(fX x0 x1 x2 x3 x4).lookup ("last_number":ao)=B x3:=rfl
def LK (x0 x1 x2 x3 x4:V):(fX x0 x1 x2 x3 x4).lookup ("past":ao)=B x4:=rfl
def ahZ (x0 x1 x2 x3 x4:V):(fX x0 x1 x2 x3 x4).lookup ("state":ao)=none:=rfl
def ah0 (x0 x1 x2 x3 x4:V):(fX x0 x1 x2 x3 x4).lookup ("link":ao)=none:=rfl
def ah1 (x0 x1 x2 x3 x4:V):(fX x0 x1 x2 x3 x4).lookup ("unlink":ao)=none:=rfl
def ah2 (x0 x1 x2 x3 x4:V):(fX x0 x1 x2 x3 x4).lookup ("drop":ao)=none:=rfl
def ah3 (x0 x1 x2 x3 x4:V):(fX x0 x1 x2 x3 x4).lookup ("so":ao)=none:=rfl
def ah4 (x0 x1 x2 x3 x4:V):(fX x0 x1 x2 x3 x4).lookup ("undo":ao)=none:=rfl
def ah5 (x0 x1 x2 x3 x4:V):(fX x0 x1 x2 x3 x4).lookup ("whole":ao)=none:=rfl
def Vf (x0 x1 x2 x3 x4:V):(fX x0 x1 x2 x3 x4).lookup ("add_state":ao)=none:=rfl
def ah6 (x0 x1 x2 x3 x4:V):(fX x0 x1 x2 x3 x4).lookup ("as_it_is":ao)=none:=rfl
def tO (x0 x1 x2 x3 x4:V):(fX x0 x1 x2 x3 x4).lookup ("where":ao)=none:=rfl
def ah7 (x0 x1 x2 x3 x4:V):(fX x0 x1 x2 x3 x4).lookup ("taken_for_possible":ao)=none:=rfl
def BV (x0 x1 x2 x3 x4:V):(fX x0 x1 x2 x3 x4).lookup ("keep_only":ao)=none:=rfl
def m6 (x0 x1 x2:V):List (ao×V):=[("signs",x0),("wanting",x1),("stage",x2)]
def u9 (x0 x1 x2:V):(m6 x0 x1 x2).lookup ("signs":ao)=B x0:=rfl
def BX (x0 x1 x2:V):(m6 x0 x1 x2).lookup ("wanting":ao)=B x1:=rfl
def LL (x0 x1 x2:V):(m6 x0 x1 x2).lookup ("stage":ao)=B x2:=rfl
def ah8 (x0 x1 x2:V):(m6 x0 x1 x2).lookup ("takes":ao)=none:=rfl
def ah9 (x0 x1 x2:V):(m6 x0 x1 x2).lookup ("begins":ao)=none:=rfl
def ah' (x0 x1 x2:V):(m6 x0 x1 x2).lookup ("names_agent":ao)=none:=rfl
def aia (x0 x1 x2:V):(m6 x0 x1 x2).lookup ("goes_on":ao)=none:=rfl
def aib (x0 x1 x2:V):(m6 x0 x1 x2).lookup ("is_done":ao)=none:=rfl
def vb (x0 x1 x2:V):List (ao×V):=[("size",x0),("guarded",x1),("signs",x2)]
def LM (x0 x1 x2:V):(vb x0 x1 x2).lookup ("size":ao)=B x0:=rfl
def FU (x0 x1 x2:V):(vb x0 x1 x2).lookup ("guarded":ao)=B x1:=rfl
def FV (x0 x1 x2:V):(vb x0 x1 x2).lookup ("signs":ao)=B x2:=rfl
noncomputable def aA (l:List Nat):List V:=l.map λn=>V.int (n:Nat)
def bP (l:List Nat):(aA l).length=l.length:=dj _
def kC (a b:List Nat):aA (a++b)=aA a++aA b:=f9
def LN (l:List Nat)(i:Nat):(aA l)[i]?=(l[i]?).map λn=>V.int (n:Nat):=ig
def iq {l:List Nat}{i n:Nat}(h:l[i]?=B n):(aA l)[i]?=B (V.int (n:Nat)):=by rw[LN,h];rfl
def rM (l:List Nat):(aA l).all mK=true:=by unfold aA;rw[Ew,iK];exact λ_ _=>rfl
def LO (l:List Nat)(i n:Nat):(aA l).set i (V.int (n:Nat))=aA (l.set i n):=by unfold aA;simp
def LP (l:List Nat):(aA l).dropLast=aA l.dropLast:=by unfold aA;simp
def vc (l:List Nat)(n:Nat):ib (.int (n:Nat)) (aA l)=l.contains n:=by
 unfold ib aA;rw[yC];induction l with
 |nil=>rfl
 |cons a l ih=>
  rw[rq,ih,LQ]
  have:nS (V.int (a:Nat)) (V.int (n:Nat))=(n==a):=by show((a:Int)==(n:Int))=(n==a);rfl'
  grind
def bQ (l:List J)(H H':Hp):Prop:=∀b o,H b=B o->b∉l->H' b=B o
def bQ.refl (l:List J)(H:Hp):bQ l H H:=λ_ _ e _=>e
def bQ.trans (a:bQ l H H1)(b:bQ l H1 H2):bQ l H H2:=λc o e h=>b c o (a c o e h) h
def bQ.jA (s:aw H H'):bQ l H H':=λb o e _=>s b o e
def bQ.M (k:bQ l H H')(h:p∈l\/H p=N):bQ l H (M H' p o):=λb u e hb=>by
 have:b≠p:=by grind
 rw[aa this];exact k b u e hb
def bQ.mono (k:bQ l H H')(h:∀b∈l,b∈m):bQ m H H':=λb o e hb=>k b o e λz=>hb (h b z)
def aw.kept (s:aw H H1)(k:bQ l H1 H2):bQ l H H2:=λb o e h=>k b o (s b o e) h
def bQ.free (k:bQ l H H')(h:H' p=N)(hp:p∉l):H p=none:=by
 cases e:H p with
 |none=>rfl
 |some o=>rw[k p o e hp]at h;cases h
def B0 (h:n<100000):n<aL:=JA h (by decide)
structure zg (r:RS):Prop where
 len:r.want.length<=r.bJ.length
 lt:∀x∈r.want,x<r.bJ.length
structure B1 (C:J)(H:Hp)(p S W:J)(r:RS):Prop where
 obj:∃dx,H p=B (.ins C dx (m6 (.ref S) (.ref W) (.int (r.g9:Nat))))
 sg:H S=B (.Z (aA r.bJ))
 wt:H W=B (.Z (aA r.want))
 ne:S≠W
def zg.takes (ok:zg r)(h:eC r c=B r'):zg r'/\r'.bJ.length<=r.bJ.length+1/\(r.g9<=2->r'.g9<=2):=by
 unfold eC at h;split at h
 .unfold j1 at h;split at h
  .cases h;exact⟨⟨ok.len,ok.lt⟩,A3 _,λ_=>by simp⟩
  split at h
  .cases h
   refine⟨⟨by simp only[cK,tQ];have:=ok.len;cutsat,λx hx=>?_⟩,by simp,λz=>z⟩;simp only[cK,tQ];rcases eX.mp hx with z|z
   .have:=ok.lt x z;cutsat
   all_goals grobner
  split at h
  .cases h
   exact⟨⟨by simp only[cK,tQ];have:=ok.len;cutsat,λx hx=>by simp only[cK,tQ];have:=ok.lt x hx;cutsat⟩,by simp,λ_=>by simp⟩
  split at h
  .cases h
   exact⟨⟨by simp only[cK,tQ];have:=ok.len;cutsat,λx hx=>by simp only[cK,tQ];have:=ok.lt x hx;cutsat⟩,by simp,λz=>z⟩
  .cases h
 split at h
 .unfold uk at h;split at h
  .cases h
   exact⟨⟨by simp only[cK,tQ];have:=ok.len;cutsat,λx hx=>by simp only[cK,tQ];have:=ok.lt x hx;cutsat⟩,by simp,λ_=>by simp⟩
  .cases h
 .unfold jK at h;split at h
  .cases h
  .rename_i p hp;have ck:r.want≠[]:=λz=>by rw[z]at hp;cases hp
   have yX:p∈r.want:=Vg hp;have gX:=ok.lt p yX
   have hdl:r.want.dropLast.length+1=r.want.length:=by grobner
   have hl:=ok.len;split at h
   .split at h
    .cases h
     refine⟨⟨by grobner,λx hx=>?_⟩,by simp,λ_=>by simp⟩;simp only[Jt];rcases eX.mp hx with z|z
     .exact ok.lt x ((LR _).subset z)
     all_goals grobner
    .cases h
   split at h
   .split at h
    .cases h
     exact⟨⟨by grobner,λx hx=>ok.lt x ((LR _).subset hx)⟩,A3 _,λ_=>by simp⟩
    .cases h
   .split at h
    .cases h
     exact⟨⟨by grobner,λx hx=>ok.lt x ((LR _).subset hx)⟩,A3 _,λz=>z⟩
    .cases h
def FX (g:RS->Nat->Option RS)(C:J)(g9:Nat->Prop):Sp:=λvs H Q _=>e_5 λ(p S W:J)(r:RS)(c:Nat)=>vs=[.ref p,.int (c:Nat)]/\B1 C H p S W r/\zg r/\r.bJ.length<1000/\g9 r.g9/\
 ∀(b:Bool)(H':Hp),bQ [p,S,W] H H'->b=(g r c).isSome->(∀r',g r c=B r'->B1 C H' p S W r')->Q (.bl b) H'
def Vh (C:J):Sp:=FX j1 C λk=>k=0
def Vi (C:J):Sp:=FX uk C λk=>k=1
def Vj (C:J):Sp:=FX jK C λk=>k=2
def Vk (C:J):Sp:=FX eC C λk=>k<=2
def Vl (C:J):Sp:=λvs H Q _=>e_2 λ(p dx:J)=>vs=[.ref p]/\H p=B (.ins C dx [])/\∀(S W:J)(H':Hp),H S=N->H W=N->bQ [p] H H'->B1 C H' p S W ⟨[],[],0⟩->Q .bB H'
def Vm (C:J):Sp:=λvs H Q _=>e_4 λ(p S W:J)(r:RS)=>vs=[.ref p]/\B1 C H p S W r/\Q (.bl (decide (r.g9=2/\r.want=[]))) H
def Vn:bZ ["self"] ["self"] (bb Lf):=⟨O,O,O,by simp,O,by decide+kernel,by decide+kernel⟩
def aic (TC:va K cM)(F:bG K "__init__" "Reader.__init__" Lf f fd)(T:Txt K mg):b_ 1 f fd ["self"] (Vl cM):=by
 rcases F,Vn with⟨p,dx,rfl,hp,k⟩;refine⟨_,(az (dk (pv 0) (bU aq) O) (az (dk (pv 0) (bU aq) O) (aE (dk (pv 0) (aT T.BP) O)))),?_⟩;refine⟨iP _,λS hS=>⟨p,cM,dx,[],O,?_,TC.cl,TC.lW,(by simp),?_⟩⟩
 .rw[aa (aK hp hS)];exact hp
 refine⟨iP _,λW hW=>⟨p,cM,dx,[("signs",.ref S)],O,?_,TC.cl,TC.zf,(by simp),?_⟩⟩
 .rw[aa (aK ah hW)];exact ah
 refine⟨p,cM,dx,[("signs",.ref S),("wanting",.ref W)],O,ah,TC.cl,TC.rL,(by simp),?_⟩;have pS:p≠S:=aK hp hS;have pW:p≠W:=aK ah hW;have SW:S≠W:=λz=>by rw[<-z,aa (aP pS),ah]at hW;cases hW
 have Vo:H W=none:=by rw[aa (aP pW),aa (aP SW)]at hW;exact hW
 refine k S W _ hS Vo ((((((bQ.refl _ _).M (.inr hS)).M (.inl (LS _))).M (.inr Vo)).M (.inl (LS _))).M (.inl (LS _))) ⟨⟨dx,ah⟩,?_,?_,SW⟩
 .rw[aa (aP pS),aa (aP pS),aa SW,aa (aP pS),ah];rfl
 .rw[aa (aP pW),aa (aP pW),ah];rfl
def Vp:bZ ["self"] ["self"] (bb Lk):=⟨O,O,O,by simp,O,by decide+kernel,by decide+kernel⟩
def aid (TC:va K cM)(F:bG K "is_done" "Reader.is_done" Lk f fd)(T:Txt K mg):b_ 1 f fd ["self"] (Vm cM):=by
 rcases F,Vp with⟨p,S,W,r,rfl,R,k⟩;obtain⟨dx,hp⟩:=R.obj;refine⟨_,(aE (aW (acm (sV cy (aQ (pv 0) O) (aT T.UQ) (bY _)) (QC (afK (aQ (pv 0) O)))))),?_⟩;refine⟨p,cM,dx,_,_,O,hp,TC.cl,TC.rL,LL _ _ _,O,_,O,?_⟩;refine mV (λh1=>?_) (λh1=>?_)
 .have e:r.g9=2:=by grind
  refine⟨p,cM,dx,_,_,O,hp,TC.cl,TC.zf,BX _ _ _,_,.inl ⟨_,aC.of R.wt,O⟩,?_⟩
  have e2:(!(!(aA r.want).isEmpty))=decide (r.g9=2/\r.want=[]):=by
   rw[Bool.not_not];cases hw:r.want with
   |nil=>rw[cw ⟨e,O⟩];rfl
   |cons a l=>rw[eG (λz=>by cases z.2)];rfl
  rw[e2];exact k
 .have e:¬r.g9=2:=λz=>h1 (cw (by rw[z];rfl));rw[eG (λz=>e z.1)]at k;exact k
def Vq:bZ ["self","code"] ["self","code"] (bb Li):=by left
def aie (TC:va K cM)(F:bG K "names_agent" "Reader.names_agent" Li f fd)(T:Txt K mg)(zh:c_ "is_agent" 1 ["sign"] (Lz)):b_ 2 f fd ["self","code"] (Vi cM):=by
 rcases F,Vq with⟨p,S,W,r,c,rfl,R,ok,hl,hs,k⟩;obtain⟨dx,hp⟩:=R.obj;have pS:p≠S:=bE hp R.sg nofun;have pW:p≠W:=bE hp R.wt nofun;refine⟨_,(az (dF (e9 dJ ic iF iE (aQ (pv 0) O) (af (pv 1) aq))) (az (dk (pv 0) (aT T.BP) O) (aE (aW (b7 zh hr (by rfl) (af (pv 1) aq)))))),?_⟩;refine⟨p,cM,dx,_,_,O,hp,TC.cl,TC.lW,u9 _ _ _,.inl ⟨O,_,aC.of R.sg⟩,S,_,_,O,O,R.sg,by rw[bP];exact B0 (by lia),?_⟩;refine⟨p,cM,dx,_,O,by rw[aa pS];exact hp,TC.cl,TC.rL,(by show 3<1000;decide),?_⟩;refine⟨(c:Int),O,?_⟩;refine k _ _ (((bQ.refl _ _).M (.inl (by simp))).M (.inl (by simp))) ?_ λr' e=>?_
 .unfold uk;by_cases h:97<=c/\c<=100
  .rw[aD h,cw (by lia)];rfl
  .rw[au h,eG (by lia)];rfl
 .unfold uk at e;split at e
  .cases e
   refine⟨⟨dx,ah⟩,?_,?_,R.ne⟩
   .rw[aa (aP pS),ah,kC];rfl
   .rw[aa (aP pW),aa (aP R.ne)];exact R.wt
  .cases e
def Vr:bZ ["self","code"] ["self","code"] (bb Lh):=by left
def aif (TC:va K cM)(F:bG K "begins" "Reader.begins" Lh f fd)(T:Txt K mg)(y9:c_ "is_atom" 1 ["sign"] (Ly)):b_ 2 f fd ["self","code"] (Vh cM):=by
 rcases F,Vr with⟨p,S,W,r,c,rfl,R,ok,hl,hs,k⟩;obtain⟨dx,hp⟩:=R.obj;have pS:p≠S:=bE hp R.sg nofun;have pW:p≠W:=bE hp R.wt nofun;have hlw:=ok.len;refine⟨_,(az (bc (bA cy (pv 1) (aT T.UI) (bY _)) (az (dk (pv 0) (aT T.UP) O) (aE (aW nN))) bC) (az (bc (bA oQ (pv 1) (iZ (af (aT T.Ln) (af (aT T.w9) aq))) (by with_unfolding_all rfl)) (aE (dF (e9 dJ ic iF iE (aQ (pv 0) O) (af (eJ nT (by rfl) T.gP gQ (af (aQ (pv 0) O) aq)) aq)))) (aE (bc (PW.pt (yn (bA cy (pv 1) (aT T.y4) (bY _)) (ym (lL (b7 y9 hr (by rfl) (af (pv 1) aq)))))) (aE (dk (pv 0) (aT T.UQ) O)) (aE (bc (bA Ba (pv 1) (iZ (af (aT T.w8) (af (aT T.UJ) (af (aT T.Lm) aq)))) (by with_unfolding_all rfl)) (aE (aW nN)) bC))))) (az (dF (e9 dJ ic iF iE (aQ (pv 0) O) (af (pv 1) aq))) (aE (aW nN))))),?_⟩;refine⟨O,_,O,?_⟩;refine mV (λh1=>?_) (λh1=>?_)
 .have e:c=75:=by grind
  subst e;refine⟨p,cM,dx,_,O,hp,TC.cl,TC.rL,(by show 3<1000;decide),?_⟩;refine k L _ ((bQ.refl _ _).M (.inl (by simp))) rfl λr' e=>?_;cases e
  exact⟨⟨dx,ah⟩,by rw[aa (aP pS)];exact R.sg,by rw[aa (aP pW)];exact R.wt,R.ne⟩
 .have Vs:¬c=75:=λz=>h1 (cw (by rw[z];rfl));refine⟨a_2,λt ht=>⟨t,_,O,.inr (cW.of ah),O,O,_,O,?_⟩⟩;have pt:p≠t:=aK hp ht;have St:S≠t:=aK R.sg ht;have Wt:W≠t:=aK R.wt ht;have fY:M H t (.tup [.int 40,.int 91]) p=B (.ins cM dx (m6 (.ref S) (.ref W) (.int (r.g9:Nat)))):=by rw[aa pt];exact hp
  have kZ:M H t (.tup [.int 40,.int 91]) S=B (.Z (aA r.bJ)):=by rw[aa St];exact R.sg
  have qu:M H t (.tup [.int 40,.int 91]) W=B (.Z (aA r.want)):=by rw[aa Wt];exact R.wt
  have k1:bQ [p,S,W] H (M H t (.tup [.int 40,.int 91])):=(bQ.refl _ _).M (.inr ht);show if(ib (.int (c:Int)) [.int 40,.int 91])=L then _ else _
  rw[LD];generalize hH1:M H t (.tup [.int 40,.int 91])=H1 at fY kZ qu k1;refine mV (λh2=>?_) (λh2=>?_)
  .have e2:c=40\/c=91:=by grind
   refine⟨p,cM,dx,_,_,O,fY,TC.cl,TC.zf,BX _ _ _,.inl ⟨O,_,aC.of qu⟩,p,cM,dx,_,_,O,fY,TC.cl,TC.lW,u9 _ _ _,S,_,O,.inl (aC.of kZ),W,_,_,O,O,qu,by rw[bP];exact B0 (by lia),?_⟩;refine⟨p,cM,dx,_,_,O,(aa pW).trans fY,TC.cl,TC.lW,u9 _ _ _,.inl ⟨O,_,aC.of (by rw[aa R.ne];exact kZ)⟩,S,_,_,O,O,by rw[aa R.ne];exact kZ,by rw[bP];exact B0 (by lia),?_⟩
   have er:j1 r c=B ⟨r.bJ++[c],r.want++[r.bJ.length],r.g9⟩:=by unfold j1;grind
   refine k L _ ((k1.M (.inl (by simp))).M (.inl (by simp))) (by rw[er];rfl) λr' e=>?_;rw[er]at e;cases e
   refine⟨⟨dx,by rw[aa pS,aa pW];exact fY⟩,by rw[ah,kC];rfl,?_,R.ne⟩;rw[aa (aP R.ne),ah,kC,bP];rfl
  .have e2:¬(c=40\/c=91):=λz=>h2 (cw (by lia));refine⟨O,_,O,?_⟩
   have fin:∀st:Nat,j1 r c=B ⟨r.bJ++[c],r.want,st⟩->∀H2:Hp,bQ [p,S,W] H H2->H2 p=B (.ins cM dx (m6 (.ref S) (.ref W) (.int (st:Nat))))->H2 S=B (.Z (aA r.bJ))->H2 W=B (.Z (aA r.want))->
     Q (.bl L) (M H2 S (.Z (aA r.bJ++[.int (c:Nat)]))):=by
    intro st er H2 k2 gk zi zj;refine k L _ (k2.M (.inl (by simp))) (by rw[er];rfl) λr' e=>?_;rw[er]at e;cases e
    exact⟨⟨dx,by rw[aa pS];exact gk⟩,by rw[ah,kC];rfl,by rw[aa (aP R.ne)];exact zj,R.ne⟩
   have ended:c=84\/(48<=c/\c<=55)->Q (.bl L) (M (M H1 p (.ins cM dx (m6 (.ref S) (.ref W) (.int 2)))) S (.Z (aA r.bJ++[.int (c:Nat)]))):=by
    intro e3;refine fin 2 (by unfold j1;grind) _ (k1.M (.inl (by simp))) ah ?_ ?_
    .rw[aa (aP pS)];exact kZ
    .rw[aa (aP pW)];exact qu
   have tail:∀(H2:Hp)(st:V),H2 p=B (.ins cM dx (m6 (.ref S) (.ref W) st))->H2 S=B (.Z (aA r.bJ))->Q (.bl L) (M H2 S (.Z (aA r.bJ++[.int (c:Nat)])))->
     Qv 0 (L2.start ["self","code"] [.ref p,.int (c:Nat)]) H2 λv H2=>Q0I K "signs" v H2 λx H2=>Er K "list" x H2/\Qv 1 (L2.start ["self","code"] [.ref p,.int (c:Nat)]) H2 λv H2=>RC x [v] H2 λ_ H3=>Q (.bl L) H3:=by intro H2 st gk zi q2;exact⟨p,cM,dx,_,_,O,gk,TC.cl,TC.lW,u9 _ _ _,.inl ⟨O,_,aC.of zi⟩,S,_,_,O,O,zi,by rw[bP];exact B0 (by lia),q2⟩
   refine mV (λh3=>?_) (λh3=>?_)
   .have e:c=84:=by grind
    refine bO ⟨p,cM,dx,_,O,fY,TC.cl,TC.rL,(by show 3<1000;decide),?_⟩;exact tail _ _ ah (by rw[aa (aP pS)];exact kZ) (ended (.inl e))
   .refine⟨(c:Int),O,_,O,?_⟩;refine mV (λh4=>?_) (λh4=>?_)
    .have e:48<=c/\c<=55:=by grind
     refine⟨p,cM,dx,_,O,fY,TC.cl,TC.rL,(by show 3<1000;decide),?_⟩;exact tail _ _ ah (by rw[aa (aP pS)];exact kZ) (ended (.inr e))
    .have n3:¬(c=84\/(48<=c/\c<=55)):=by grind
     refine⟨a_3,λt2 fD=>⟨t2,_,O,.inr (cW.of ah),O,O,_,O,?_⟩⟩;have gk:M H1 t2 (.tup [.int 126,.int 69,.int 67]) p=_:=(aa (aK fY fD)).trans fY;have zi:M H1 t2 (.tup [.int 126,.int 69,.int 67]) S=_:=(aa (aK kZ fD)).trans kZ;have zj:M H1 t2 (.tup [.int 126,.int 69,.int 67]) W=_:=(aa (aK qu fD)).trans qu
     have Vt:H t2=none:=k1.free fD (by grind)
     show if(!ib (.int (c:Int)) [.int 126,.int 69,.int 67])=L then _ else _
     rw[LC];by_cases h5:(c:Int)=126\/(c:Int)=69\/(c:Int)=67
     .rw[cw h5];refine bN ?_;exact tail _ _ gk zi (fin r.g9 (by unfold j1;rw[au Vs,au e2,au n3,aD (by lia)]) _ (k1.M (.inr Vt)) gk zi zj)
     .rw[eG h5];refine bO ?_;have er:j1 r c=none:=by unfold j1;rw[au Vs,au e2,au n3,au (by lia)]
      exact k aH _ (k1.M (.inr Vt)) (by rw[er];rfl) λr' e=>by rw[er]at e;cases e
def LU (h:j<n):qg n (j:Int)=B j:=by unfold qg;grind
def aii (h:l.getLast?=B x):(aA l)[(aA l).length-1]?=B (V.int (x:Nat)):=by rw[bP,LN,<-FY,h];rfl
def xf (h:¬a=b):decide (V.int a=V.int b)=false:=eG λz=>by grind
def vd (h:a=b):decide (V.int a=V.int b)=true:=cw (by rw[h])
def dC {a b:Int}{A di:Prop}(h:a=b)(x:A):if decide (V.int a=V.int b)=L then A else di:=by grind
def cX {a b:Int}{A di:Prop}(h:¬a=b)(x:di):if decide (V.int a=V.int b)=L then A else di:=by grind
def Vu:bZ ["self","code","place"] ["self","code"] (bb Lj):=by left
def aij (TC:va K cM)(F:bG K "goes_on" "Reader.goes_on" Lj f fd)(T:Txt K mg):b_ 1 f fd ["self","code"] (Vj cM):=by
 rcases F,Vu with⟨p,S,W,r,c,rfl,R,ok,hl,hs,k⟩;obtain⟨dx,hp⟩:=R.obj;have pS:p≠S:=bE hp R.sg nofun;have pW:p≠W:=bE hp R.wt nofun;have SW:=R.ne;have hlw:=ok.len;refine⟨_,(az (bc (uD (yp (aQ (pv 0) O) (λ_=>rfl))) (aE (aW nN)) bC) (az (bz 2 nd (rA dJ qj rN rC (aQ (pv 0) O))) (az (bc (bA cy (cG cP (aQ (pv 0) O) (pv 2) (λ_ _=>rfl)) (aT T.Ln) (bY _)) (az (Iu (pv 1) (Ir (aQ (pv 0) O) (pv 2) set_list)) (az (dF (e9 dJ ic iF iE (aQ (pv 0) O) (af (pv 2) aq))) (az (dk (pv 0) (aT T.BP) O) (aE (aW (sV oQ (pv 1) (iZ (af (aT T.y6) (af (aT T.OR) aq))) (by with_unfolding_all rfl))))))) bC) (az (bc (bA cy (cG cP (aQ (pv 0) O) (pv 2) (λ_ _=>rfl)) (aT T.w9) (bY _)) (az (dk (pv 0) (aT T.BP) O) (aE (aW (sV cy (pv 1) (aT T.aho) (bY _))))) bC) (aE (aW (sV cy (pv 1) (aT T.Lo) (bY _)))))))),?_⟩;refine⟨p,cM,dx,_,_,O,hp,TC.cl,TC.zf,BX _ _ _,_,.inl ⟨_,aC.of R.wt,O⟩,?_⟩;cases hg:r.want.getLast? with
 |none=>
  have hw:r.want=[]:=List.getLast?_eq_none_iff.mp hg;have er:jK r c=none:=by unfold jK;rw[hg]
  rw[hw];refine bO ?_;exact k aH _ (bQ.refl _ _) (by rw[er];rfl) λr' e=>by rw[er]at e;cases e
 |some q=>
  have hwe:(!(!(aA r.want).isEmpty))=false:=by
   cases hw:r.want with
   |nil=>rw[hw]at hg;cases hg
   |cons a l=>rfl
  rw[hwe];refine bN ?_;have hqm:q∈r.want:=Vg hg;have Vv:=ok.lt q hqm;obtain⟨x,hx⟩:∃x,r.bJ[q]?=B x:=⟨_,cc Vv⟩;refine⟨p,cM,dx,_,_,O,hp,TC.cl,TC.zf,BX _ _ _,.inl ⟨O,_,aC.of R.wt⟩,W,_,_,O,O,R.wt,aii hg,?_⟩;have fY:M H W (.Z (aA r.want).dropLast) p=_:=(aa pW).trans hp;have kZ:M H W (.Z (aA r.want).dropLast) S=_:=(aa SW).trans R.sg;have qu:M H W (.Z (aA r.want).dropLast) W=B (.Z (aA r.want.dropLast)):=by rw[ah,LP]
  have k1:bQ [p,S,W] H (M H W (.Z (aA r.want).dropLast)):=(bQ.refl _ _).M (.inl (by simp));generalize M H W (.Z (aA r.want).dropLast)=H1 at fY kZ qu k1 ⊢;refine⟨p,cM,dx,_,_,O,fY,TC.cl,TC.lW,u9 _ _ _,S,_,_,_,O,O,aC.of kZ,eP (iq hx),O,_,O,?_⟩;by_cases h40:x=40
  .refine dC (by lia) ?_;rw[h40]at hx;refine⟨p,cM,dx,_,_,O,fY,TC.cl,TC.lW,u9 _ _ _,S,_,_,q,O,O,kZ,by rw[bP];exact LU Vv,?_⟩;rw[LO];have gk:M H1 S (.Z (aA (r.bJ.set q c))) p=_:=(aa pS).trans fY;have zj:M H1 S (.Z (aA (r.bJ.set q c))) W=_:=(aa (aP SW)).trans qu;refine⟨p,cM,dx,_,_,O,gk,TC.cl,TC.zf,BX _ _ _,.inl ⟨O,_,aC.of zj⟩,W,_,_,O,O,zj,by rw[bP,List.length_dropLast];exact B0 (by lia),?_⟩;refine⟨p,cM,dx,_,O,(aa pW).trans gk,TC.cl,TC.rL,(by show 3<1000;decide),?_⟩;have k3:=((k1.M (p:=S) (o:=.Z (aA (r.bJ.set q c))) (.inl (by simp))).M (p:=W) (o:=.Z (aA r.want.dropLast++[.int (q:Nat)])) (.inl (by simp))).M (p:=p) (o:=.ins cM dx (m6 (.ref S) (.ref W) (.int 0))) (.inl (by simp));refine⟨a_2,λt ht=>⟨t,_,O,.inr (cW.of ah),O,O,?_⟩⟩;show Q (.bl (ib (.int (c:Int)) [.int 38,.int 124])) _;rw[LD];have hnp:H p≠none:=by rw[hp];intro z;cases z
   have LV:t∈[p,S,W]\/H t=none:=by
    by_cases z:t∈[p,S,W]
    .exact .inl z
    .exact .inr (k3.free ht z)
   have er:jK r c=if c=38\/c=124 then B ⟨r.bJ.set q c,r.want.dropLast++[q],0⟩else none:=by unfold jK;grind
   refine k _ _ (k3.M LV) ?_ λr' e=>?_
   .rw[er];by_cases h:c=38\/c=124
    .rw[aD h,cw (by lia)];rfl
    .rw[au h,eG (by lia)];rfl
   .rw[er]at e;split at e
    .cases e
     have e1:t≠p:=λz=>by rw[z]at ht;exact bT ht (by show¬M _ p _ p=N;rw[ah];intro z;cases z)
     have e2:t≠S:=λz=>by rw[z]at ht;exact bT ht (by show¬M _ p _ S=N;rw[aa (aP pS),aa SW,ah];intro z;cases z)
     have e3:t≠W:=λz=>by rw[z]at ht;exact bT ht (by show¬M _ p _ W=N;rw[aa (aP pW),ah];intro z;cases z)
     refine⟨⟨dx,by rw[aa (aP e1),ah];rfl⟩,?_,?_,SW⟩
     .rw[aa (aP e2),aa (aP pS),aa SW,ah]
     .rw[aa (aP e3),aa (aP pW),ah,kC];rfl
    .cases e
  .refine cX (by lia) ?_;refine⟨p,cM,dx,_,_,O,fY,TC.cl,TC.lW,u9 _ _ _,S,_,_,_,O,O,aC.of kZ,eP (iq hx),O,_,O,?_⟩;have Dy:¬r.bJ[q]?=B 40:=by grind
   by_cases k7:x=91
   .refine dC (by lia) ?_;rw[k7]at hx;refine⟨p,cM,dx,_,O,fY,TC.cl,TC.rL,(by show 3<1000;decide),?_⟩;refine⟨O,?_⟩
    have er:jK r c=if c=93 then B ⟨r.bJ,r.want.dropLast,0⟩else none:=by unfold jK;grind
    refine k _ _ (k1.M (.inl (by simp))) ?_ λr' e=>?_
    .rw[er];by_cases h:c=93
     .rw[aD h,vd (by lia)];rfl
     .rw[au h,xf (by lia)];rfl
    .rw[er]at e;split at e
     .cases e
      exact⟨⟨dx,ah⟩,(aa (aP pS)).trans kZ,(aa (aP pW)).trans qu,SW⟩
     .cases e
   .refine cX (by lia) ?_;have Dz:¬r.bJ[q]?=B 91:=by grind
    refine⟨O,?_⟩
    have er:jK r c=if c=41 then B ⟨r.bJ,r.want.dropLast,r.g9⟩else none:=by unfold jK;grind
    refine k _ _ k1 ?_ λr' e=>?_
    .rw[er];by_cases h:c=41
     .rw[aD h,vd (by lia)];rfl
     .rw[au h,xf (by lia)];rfl
    .rw[er]at e;split at e
     .cases e
      exact⟨⟨dx,fY⟩,kZ,qu,SW⟩
     .cases e
def Vx:bZ ["self","code"] ["self","code"] (bb Lg):=by left
def ain (TC:va K cM)(F:bG K "takes" "Reader.takes" Lg f fd)(T:Txt K mg)(LW:f_ cM "begins" 2 ["self","code"] (Vh cM))(LX:f_ cM "goes_on" 1 ["self","code"] (Vj cM))(LY:f_ cM "names_agent" 2 ["self","code"] (Vi cM)):b_ 3 f fd ["self","code"] (Vk cM):=by
 rcases F,Vx with⟨p,S,W,r,c,rfl,R,ok,hl,hs,k⟩;obtain⟨dx,hp⟩:=R.obj;refine⟨_,(az (bc (bA cy (aQ (pv 0) O) (aT T.BP) (bY _)) (aE (aW (gm (pv 0) LW hr (af (pv 1) aq)))) bC) (az (bc (bA cy (aQ (pv 0) O) (aT T.UP) (bY _)) (aE (aW (gm (pv 0) LY hr (af (pv 1) aq)))) bC) (aE (aW (gm (pv 0) LX hr (af (pv 1) aq)))))),?_⟩;refine⟨p,cM,dx,_,_,O,hp,TC.cl,TC.rL,LL _ _ _,O,_,O,?_⟩;by_cases h0:r.g9=0
 .refine dC (by lia) ⟨p,dx,_,O,hp,ah9 _ _ _,?_⟩;have er:eC r c=j1 r c:=by unfold eC;grind
  rw[er]at k;exact⟨p,S,W,r,c,O,R,ok,hl,h0,k⟩
 .refine cX (by lia) ⟨p,cM,dx,_,_,O,hp,TC.cl,TC.rL,LL _ _ _,O,_,O,?_⟩;by_cases h1:r.g9=1
  .refine dC (by lia) ⟨p,dx,_,O,hp,ah' _ _ _,?_⟩;have er:eC r c=uk r c:=by unfold eC;grind
   rw[er]at k;exact⟨p,S,W,r,c,O,R,ok,hl,h1,k⟩
  .refine cX (by lia) ⟨p,dx,_,O,hp,aia _ _ _,?_⟩;have er:eC r c=jK r c:=by unfold eC;grind
   rw[er]at k;exact⟨p,S,W,r,c,O,R,ok,hl,by lia,k⟩
theorem LZ:∀(a b:List Nat)(s:RS),iB s (a++b)=(iB s a).bind λs'=>iB s' b
 |[],b,s=>rfl
 |c::a,b,s=>by
  show(match eC s c with|some s'=>iB s' (a++b)|none=>N)=(match eC s c with|some s'=>iB s' a|none=>N).bind _;cases eC s c with
  |none=>rfl
  |some s'=>exact LZ a b s'
theorem take_snoc:∀{l:List α}{i:Nat}{x:α},l[i]?=B x->l.take (i+1)=l.take i++[x]
 |[],i,x,h=>by simp at h
 |a::l,0,x,h=>by grind
 |a::l,i+1,x,h=>by have ih:=take_snoc (l:=l) (i:=i) (x:=x) h;grind
def Vy (h:l[i]?=B x):l=l.take i++x::l.drop (i+1):=by
 have h1:i<l.length:=by grind
 have h2:l[i]=x:=by grind
 rw[<-h2,<-B2 h1,zk]
def jB {l:List Nat}{i:Nat}(h:(aA l)[i]?=B x):∃n,l[i]?=B n/\x=V.int (n:Nat):=by rw[LN]at h;rfl'
def Vz (K:aM):Sp:=λvs H Q _=>e_2 λ(a:J)(cs:List Nat)=>vs=[.ref a]/\aC K H a (aA cs)/\cs.length<=400/\
 (∀H',aw H H'->cO ⟨[],[],0⟩ cs=N->Q .bB H')/\∀(H':Hp)(S:J)(l:List Nat),aw H H'->cO ⟨[],[],0⟩ cs=B l->H' S=B (.Z (aA l))->H S=N->Q (.ref S) H'
def VA:bZ ["codes","reader","code"] ["codes"] (bb Kz):=by left
def aio (TC:va K cM)(F:bG K "signs_of" "signs_of" Kz f fd)(T:Txt K mg)(L3:n_ "Reader" cM 1 ["self"] (Vl cM))(L4:f_ cM "is_done" 1 ["self"] (Vm cM))(L5:f_ cM "takes" 3 ["self","code"] (Vk cM)):b_ 4 f fd ["codes"] (Vz K):=by
 rcases F,VA with⟨a,cs,rfl,hS,hlen,kn,ks⟩;refine⟨_,(az (bz 1 nd (U6 L3 hr (by rfl))) (az (eZ dR O (iY (pv 0)) (bX (i:=2) nd O (bM O)) (aE (bc (uD (lL (gm (pv 1) L5 hr (af (pv 2) aq)))) (aE (aW sN)) bC))) (az (bc (uD (lL (FI (pv 1) L4 hr))) (aE (aW sN)) bC) (aE (aW (aQ (pv 1) O)))))),?_⟩;intro p dx i9 eQ ck;refine⟨p,dx,O,ah,λS W H1 B3 B4 k1 R1=>⟨O,?_⟩⟩;have s1:aw H H1:=aw.made i9 eQ λb o e hb=>k1 b o e (by grind)
 have dS:H S=none:=by
  cases e:H S with
  |none=>rfl
  |some o=>have e1:S≠p:=aK e i9;have e2:S≠dx:=aK e eQ;rw[aa e1,aa e2,e]at B3;cases B3
 have xg:H W=none:=by
  cases e:H W with
  |none=>rfl
  |some o=>have e1:W≠p:=aK e i9;have e2:W≠dx:=aK e eQ;rw[aa e1,aa e2,e]at B4;cases B4
 have fr:∀{H' gJ:Hp},aw H H'->bQ [p,S,W] H' gJ->aw H gJ:=λs k b o e=>k b o (s b o e) (by grind)
 refine⟨a,O,⟨_,s1.seq hS⟩,mE (K:=K) (a:=a) (xs:=aA cs) (λi σ H'=>∃(v:Option V)(r:RS),σ=[B (.ref a),B (.ref p),v]/\aw H H'/\iB ⟨[],[],0⟩ (cs.take i)=B r/\B1 cM H' p S W r/\zg r/\r.bJ.length<=i/\r.g9<=2) ⟨N,⟨[],[],0⟩,O,s1,O,R1,⟨aX _,λ_ z=>nomatch z⟩,aX _,by simp⟩ (λi σ H' _ ⟨_,_,_,s2,_⟩=>s2.seq hS) ?_ ?_⟩
 .rintro i x σ H' hi ⟨v,r,rfl,s2,rO,R,ok,hl,eY⟩;obtain⟨c,hc,rfl⟩:=jB hi
  have dA:i<cs.length:=by grind
  obtain⟨FZ,gk⟩:=R.obj;refine⟨p,FZ,_,O,gk,ah8 _ _ _,p,S,W,r,c,O,R,ok,by lia,eY,λb H2 k2 eb kr=>⟨b,O,?_⟩⟩
  have VB:iB ⟨[],[],0⟩ (cs.take i++[c])=eC r c:=by rw[LZ,rO];show(match eC r c with|some s'=>iB s' []|none=>N)=_;cases eC r c<;>rfl
  cases et:eC r c with
  |none=>
   rw[et]at eb;cases eb
   refine bO ?_;refine kn H2 (fr s2 k2) ?_
   have e:iB ⟨[],[],0⟩ cs=none:=by rw[Vy hc,show cs.take i++c::cs.drop (i+1)=(cs.take i++[c])++cs.drop (i+1)by simp,LZ,VB,et];rfl
   unfold cO;rw[e]
  |some r'=>
   rw[et]at eb;cases eb
   refine bN ?_;obtain⟨ok',kQ,aiq⟩:=ok.takes et;exact⟨_,r',O,fr s2 k2,by rw[take_snoc hc,VB,et],kr r' et,ok',by lia,aiq eY⟩
 .rintro σ H' ⟨v,r,rfl,s2,rO,R,ok,hl,eY⟩;rw[bP,eE]at rO;obtain⟨FZ,gk⟩:=R.obj;refine⟨p,FZ,_,O,gk,aib _ _ _,p,S,W,r,O,R,_,O,?_⟩;by_cases hd:r.g9=2/\r.want=[]
  .rw[cw hd];refine bN ⟨p,cM,FZ,_,_,O,gk,TC.cl,TC.lW,u9 _ _ _,?_⟩;refine ks H' S r.bJ s2 ?_ R.sg dS;unfold cO;rw[rO];exact aD hd
  .rw[eG hd];refine bO (kn H' s2 ?_);unfold cO;rw[rO];exact au hd
def jr {cT:It}{n:Nat}{g:TG}{tb:TS}{D:Ends}{σ:L2.St}(Pv:Nat->L2.St->Hp->Prop)(h0:Pv 0 σ H)
  (L6:∀i σ H,i<n->Pv i σ H->cT.go i H) (air:∀σ H,Pv n σ H->cT.stop n H)
  (hs:∀i x σ H H',i<n->Pv i σ H->cT.sP i H x H'->g x σ H' λσ2 H2=>tb (D.lp (Pv (i+1))) σ2 H2)
  (hd:∀σ H,Pv n σ H->D.nx σ H):
  ∃W:Nat->Nat->L2.St->Hp->Prop,(∃m,W 0 m σ H)/\∀i m σ H,W i m σ H->
   (cT.stop i H/\D.nx σ H)\/(cT.go i H/\∃aR:L2.St->Hp->Prop,(∀σ' H',aR σ' H'->∃m',m'<m/\W (i+1) m' σ' H')/\∀x H',cT.sP i H x H'->g x σ H' λσ2 H2=>tb (D.lp aR) σ2 H2):=by
 refine⟨λi m σ H=>i<=n/\m=n-i/\Pv i σ H,⟨n,iP _,O,h0⟩,λi m σ H hw=>?_⟩;obtain⟨hi,hm,hp⟩:=hw;by_cases h:i=n
 .grind
 .have fM:i<n:=by lia
  exact .inr ⟨L6 i σ H fM hp,Pv (i+1),λσ' H' hn=>⟨n-(i+1),by lia,by lia,O,hn⟩,λx H' hy=>hs i x σ H H' fM hp hy⟩
def qv {cT:It}{n:Nat}{g:TG}{tt:TT}{te:TE}{vs:List Nat}{σ:L2.St}{Qd:Hp->Prop}(Pv:Nat->Hp->Prop)(h0:Pv 0 (M H1 D (.Z [])))
  (L6:∀i H,i<n->Pv i H->cT.go i H) (air:∀H,Pv n H->cT.stop n H)
  (hs:∀i x H H',i<n->Pv i H->cT.sP i H x H'->g x (wipe σ vs) H' λσ2 H2=>wipe σ2 vs=wipe σ vs/\tt σ2 H2 λb H3=>if b=L then te σ2 H3 λy H4=>∃acc,H4 D=B (.Z acc)/\acc.length<aL/\Pv (i+1) (M H4 D (.Z (acc++[y])))else Pv (i+1) H3)
  (hd:∀H,Pv n H->Qd H):
  ∃W:Nat->Nat->Hp->Prop,(∃m,W 0 m (M H1 D (.Z [])))/\∀i m H,W i m H->
   (cT.stop i H/\Qd H)\/(cT.go i H/\∃Nx:Hp->Prop,(∀H',Nx H'->∃m',m'<m/\W (i+1) m' H')/\∀x H',cT.sP i H x H'->g x (wipe σ vs) H' λσ2 H2=>wipe σ2 vs=wipe σ vs/\tt σ2 H2 λb H3=>if b=L then te σ2 H3 λy H4=>∃acc,H4 D=B (.Z acc)/\acc.length<aL/\Nx (M H4 D (.Z (acc++[y])))else Nx H3):=by
 refine⟨λi m H=>i<=n/\m=n-i/\Pv i H,⟨n,iP _,O,h0⟩,λi m H hw=>?_⟩;obtain⟨hi,hm,hp⟩:=hw;by_cases h:i=n
 .grind
 .have fM:i<n:=by cutsat
  exact .inr ⟨L6 i H fM hp,Pv (i+1),λH' hn=>⟨n-(i+1),by cutsat,by cutsat,O,hn⟩,λx H' hy=>hs i x H H' fM hp hy⟩
section
variable{X:Cx}{K:aM}
def zl (hK:X.K=K)(he:PE X e ta)(hb:qe e f X.env (eval e X.env)=eval e X.env):PE X (.Attribute e f pos) (Q0 K ta f):=by subst hK;exact aQ he hb
def VC {T:String}{id:String}{r:V->List V->Hp->VK->Prop}{to:TE}{apos dI:Pos}(hK:X.K=K)(pa:Jc T)(slot:Slot T name id)(Bb:typeOf (.builtin id)=pure (.type "method_descriptor"))(hm:A7 X id r)(ho:PE X o to)
  (qh:qe o name X.env (eval o X.env)=eval o X.env:=by rfl) (qi:(apos.endLine==dI.line)=true:=by rfl):PE X (.Call (.Attribute o name apos) [] [] dI) (Rv K T r to):=by subst hK;exact rA pa slot Bb hm ho qh qi
def VD (hK:X.K=K)(hc:X.calm=L)(h:AK X es t)
  (hn:(assignEach es X.env).length=n:=by rfl) (eY:(assignEach es X.env).findIdx? (·.1)=none:=by rfl):PG X (.Tuple es k pos) (QH K n t):=by subst hK;exact jP hc h hn eY
def ais (hK:X.K=K):gi X (compareOp .In) (Jb K aH):=by subst hK;exact oQ
end
def oa {σ:L2.St}{A di:Hp->Prop}(h:A H):RZ σ H λb H1=>if b=L then A H1 else di H1:=by
 show if L=L then A H else di H
 exact bO h
def L7 {b:Bool}{A X b6:Prop}(h1:(if b=L then X else b6)->A)(h2:b=L->X)(h3:b=aH->b6):A:=h1 (by grind)
open Vbtaag (Form)
def jC:List Nat->Nat
 |[]=>0
 |c::r=>jC r-parts c+1
def nc:List Nat->Prop
 |[]=>True
 |c::r=>parts c<=jC r/\nc r
theorem B5 (cS:Nat->List α->α):∀l:List Nat,(cJ cS l []).length=jC l
 |[]=>rfl
 |c::r=>by simp only[cJ,dY,ve,B5 cS r,jC]
def VE (h:parts c=0)(s:nc r):nc (c::r)/\jC (c::r)=jC r+1:=⟨⟨by lia,s⟩,by simp only[jC];lia⟩
def F0 (h:parts c=1)(s:nc l/\jC l=n+1):nc (c::l)/\jC (c::l)=n+1:=⟨⟨by lia,s.1⟩,by simp only[jC];lia⟩
def L8 (h:parts c=2)(s:nc l/\jC l=n+2):nc (c::l)/\jC (c::l)=n+1:=⟨⟨by lia,s.1⟩,by simp only[jC];lia⟩
theorem qw:∀(f:bo),Wf f->∀r,nc r->nc (enc f++r)/\jC (enc f++r)=jC r+1
 |.top,_,r,s=>VE (sv (by lia)) s
 |.atom i,h,r,s=>VE (sv (by have:i<8:=h;lia)) s
 |.no f,h,r,s=>F0 (jd (by lia)) (qw f h r s)
 |.every f,h,r,s=>F0 (jd (by lia)) (qw f h r s)
 |.common f,h,r,s=>F0 (jd (by lia)) (qw f h r s)
 |.know a f,⟨ha,h⟩,r,s=>F0 (jd (by lia)) (qw f h r s)
 |.and f g,⟨h1,h2⟩,r,s=>by have a:=qw g h2 r s;have b:=qw f h1 (enc g++r) a.1;rw[<-iD]at b;exact L8 (iC (by lia)) ⟨b.1,b.2.trans (by rw[a.2])⟩
 |.or f g,⟨h1,h2⟩,r,s=>by have a:=qw g h2 r s;have b:=qw f h1 (enc g++r) a.1;rw[<-iD]at b;exact L8 (iC (by lia)) ⟨b.1,b.2.trans (by rw[a.2])⟩
 |.after f g,⟨h1,h2⟩,r,s=>by have a:=qw g h2 r s;have b:=qw f h1 (enc g++r) a.1;rw[<-iD]at b;exact L8 (iC (by lia)) ⟨b.1,b.2.trans (by rw[a.2])⟩
def L9 (h:Wf f):nc (enc f)/\jC (enc f)=1:=by have:=qw f h [] trivial;rw[fV]at this;exact this
def F1:∀{l:List Nat}(k:Nat),nc l->nc (l.drop k)
 |[],k,_=>by grind
 |c::l,0,s=>s
 |c::l,k+1,s=>F1 k s.2
def B6 (c:Nat):parts c<=2:=by unfold parts;rfl'
def Ma (hi:i<l.length)(h:(aA l)[(aA l).length-1-i]?=B x):∃c,x=V.int (c:Nat)/\l.drop (l.length-(i+1))=c::l.drop (l.length-i):=by
 obtain⟨c,hc,e⟩:=jB h;rw[bP]at hc;refine⟨c,e,?_⟩;have fM:l.length-1-i<l.length:=by lia
 rw[cc fM]at hc;have:l.length-(i+1)=l.length-1-i:=by lia
 rw[this,B2 fM,iO hc,show l.length-1-i+1=l.length-i by lia]
def Mb (l:List α)(j:Nat):((l.drop j).reverse).dropLast=(l.drop (j+1)).reverse:=by simp
def Mc {α:Type}{l:List α}{j:Nat}{x:α}(h:l[j]?=B x):((l.drop j).reverse)[((l.drop j).reverse).length-1]?=B x:=by grind
def jD (h:n<=100000):n<=aL:=fJ h (by decide)
def cY (h:n<=100000):n<aL:=rE h (by decide)
def ait (a b:Nat):(if((b:Nat):Int)>((a:Nat):Int)then((b:Nat):Int)else((a:Nat):Int))=((max a b:Nat):Int):=by all_goals lia
def foldl_take_succ {l:List Nat}{j x:Nat}(h:l[j]?=B x):(l.take (j+1)).foldl max 0=max ((l.take j).foldl max 0) x:=by rw[take_snoc h,DI];rfl
def VF (K:aM):Sp:=λvs H Q _=>e_2 λ(a:J)(f:bo)=>vs=[.ref a]/\aC K H a (aA (enc f))/\Wf f/\(enc f).length<=400/\∀H',aw H H'->Q (.int (f.deep:Nat)) H'
def VG:bZ ["signs","depths","sign","deepest","part"] ["signs"] (bb KA):=by left
def aiu (F:bG K "depth_of" "depth_of" KA f fd)(T:Txt K mg)(j8:c_ "parts" 2 ["sign"] (xb)):b_ 3 f fd ["signs"] (VF K):=by
 rcases F,VG with⟨a,f,rfl,hS,hw,hl,k⟩;refine⟨_,(az (bz 1 nd (bU aq)) (az (eZ dR O (JH (by rfl) T.FE (af (pv 0) aq)) (bX (i:=2) nd O (bM O)) (az (bz 3 nd aZ) (az (eZ dR O (rh (by rfl) T.rH (af (b7 j8 hr (by rfl) (af (pv 2) aq)) aq)) (bX (i:=4) nd O (bM O)) (aE (bz 3 nd (eJ (adf O) (by rfl) T.ahE ahH (af (pv 3) (af (rA dJ qj rN rC (pv 1)) aq)))))) (aE (dF (e9 dJ ic iF iE (pv 1) (af (b5 ji (pv 3) aZ) aq))))))) (aE (aW (rA dJ qj rN rC (pv 1)))))),?_⟩;refine⟨by simp,λD hD=>?_⟩;have sf:=(L9 hw).1;refine⟨a,aA (enc f),O,(bp hD).seq hS,jr (n:=(aA (enc f)).length) (λi σ H'=>e_3 λv1 v2 v3=>σ=[B (.ref a),B (.ref D),v1,v2,v3]/\aw H H'/\H' D=B (.Z (aA (cJ kP ((enc f).drop ((enc f).length-i)) []).reverse))) ⟨N,N,N,O,bp hD,?_⟩ ?_ ?_ ?_ ?_⟩
 .rw[BC,Me];exact ah
 .rintro i σ H' hi ⟨v1,v2,v3,rfl,s1,h1⟩;exact⟨hi,_,_,s1.seq hS,cc (by lia)⟩
 .rintro σ H' _;exact aX _
 .rintro i x σ H' gJ hi ⟨v1,v2,v3,rfl,s1,h1⟩ ⟨rfl,hy⟩;rw[bP]at hi;obtain⟨c,rfl,hd⟩:=Ma hi (hy _ (s1.seq hS));have qx:=F1 ((enc f).length-(i+1)) sf;rw[hd]at qx;have B7:=B5 kP ((enc f).drop ((enc f).length-i));have en:cJ kP ((enc f).drop ((enc f).length-(i+1))) []=kP c ((cJ kP ((enc f).drop ((enc f).length-i)) []).take (parts c))::(cJ kP ((enc f).drop ((enc f).length-i)) []).drop (parts c):=by rw[hd];rfl
  generalize cJ kP ((enc f).drop ((enc f).length-i)) []=E' at h1 B7 en;refine⟨c,O,λH2 s2=>⟨(parts c:Nat),O,by lia,by have:=B6 c;lia,?_⟩⟩;have h2:=s2 _ _ h1
  refine jr (n:=parts c) (λj σ H'=>∃v3,σ=[B (.ref a),B (.ref D),B (.int (c:Nat)),B (.int (((E'.take j).foldl max 0:Nat):Int)),v3]/\aw H H'/\H' D=B (.Z (aA (E'.drop j).reverse)))
   ⟨_,O,s1.trans s2,h2⟩ ?_ ?_ ?_ ?_
  .intro j σ H' hj _;exact(show j<qy _ by rw[ij];exact hj)
  .intro σ H' _;exact(show qy _<=_ by rw[ij];exact aX _)
  .rintro j x σ H3 H4 hj ⟨v3,rfl,s3,h3⟩ ⟨rfl,rfl⟩;have gu:j<E'.length:=by have:=qx.1;lia
   have hx:E'[j]?=B E'[j]:=cc gu;refine⟨.inl ⟨O,_,aC.of h3⟩,D,_,_,O,O,h3,(by rw[bP];exact iq (Mc hx)),?_⟩;refine⟨_,_,O,?_⟩;rw[ait,<-foldl_take_succ hx];exact⟨_,O,aS s3 hD,by rw[ah,LP,Mb]⟩
  .rintro σ H3 ⟨v3,rfl,s3,h3⟩;refine⟨.inl ⟨O,_,aC.of h3⟩,_,_,O,O,D,_,_,O,O,h3,?_,_,_,_,O,aS s3 hD,?_⟩
   .rw[bP,tR,ve]
    have h5:jC ((enc f).drop ((enc f).length-i))<=((enc f).drop ((enc f).length-i)).length:=by
     generalize(enc f).drop ((enc f).length-i)=r;induction r with
     |nil=>exact aX _
     |cons c r ih=>simp only[jC,dY];lia
    rw[ve]at h5;exact cY (by lia)
   .rw[ah,en,qz,kC];rfl
 .rintro σ H' ⟨v1,v2,v3,rfl,s1,h1⟩;rw[bP,yT,F2]at h1;have e:=mw kP [] f hw [];rw[fV]at e;rw[e,pH]at h1;exact⟨.inl ⟨O,_,aC.of h1⟩,D,_,_,O,O,h1,O,k _ (aS s1 hD)⟩
def ng (l:List Nat)(n:Nat):aA l++[V.int (n:Nat)]=aA (l++[n]):=(kC l [n]).symm
noncomputable def iG:List Nat->Nat
 |[]=>0
 |c::w=>(if c=41 then 1 else 2)+iG w
def Mf:∀w:List Nat,w.length<=iG w
 |[]=>aX _
 |c::w=>by have:=Mf w;simp only[iG,dY];grind
theorem VH:∀(w cs:List Nat),(iM cs w).1.length+iG (iM cs w).2=cs.length+iG w
 |[],cs=>rfl
 |c::w,cs=>by
  rw[iM];by_cases h:c=41
  .rw[aD h,VH w,iG,aD h,cK];grind
  .rw[au h];simp only[iG,au h,cK,dY,mQ,aD];lia
def aiv (s:List Nat×List Nat)(c:Nat):(iN s c).1.length+iG (iN s c).2<=s.1.length+iG s.2+3:=by
 have q:∀t:List Nat×List Nat,t.1.length+iG t.2<=s.1.length+iG s.2+3->(if parts c=0 then iM t.1 t.2 else t).1.length+iG (if parts c=0 then iM t.1 t.2 else t).2<=s.1.length+iG s.2+3:=λt h=>by
  split
  .rw[VH];exact h
  .exact h
 unfold iN;refine q _ ?_;by_cases h:c=38\/c=124
 .rw[aD h];simp only[iG,cK,dY,mQ];split<;>lia
 rfl'
def VI:∀(l:List Nat)(s:List Nat×List Nat),(jg s l).1.length+iG (jg s l).2<=s.1.length+iG s.2+3*l.length
 |[],s=>aX _
 |c::l,s=>by have:=VI l (iN s c);have:=aiv s c;show(jg (iN s c) l).1.length+iG (jg (iN s c) l).2<=_;grind
def VJ:Sp:=λvs H Q _=>e_4 λ(a b:J)(cs w:List Nat)=>vs=[.ref a,.ref b]/\a≠b/\H a=B (.Z (aA cs))/\H b=B (.Z (aA w.reverse))/\cs.length+iG w<=90000/\
 ∀H',bQ [a,b] H H'->H' a=B (.Z (aA (iM cs w).1))->H' b=B (.Z (aA (iM cs w).2.reverse))->Q .bB H'
def Mg (K:aM):Sp:=λvs H Q _=>e_2 λ(a:J)(l:List Nat)=>vs=[.ref a]/\aC K H a (aA l)/\l.length<=3000/\
 ∀(H':Hp)(S:J),aw H H'->H S=N->H' S=B (.Z (aA (jg ([],[]) l).1))->Q (.ref S) H'
def VL:bZ ["codes","wanted","code"] ["codes","wanted"] (bb KD):=by left
def aiw (F:bG K "end_formula" "end_formula" KD f fd)(T:Txt K mg):b_ 1 f fd ["codes","wanted"] (VJ):=by
 rcases F,VL with⟨a,b,cs,w,rfl,ab,ha,hb,hl,k⟩;refine⟨_,(aE (uF dR (yp (pv 1) (λ_=>rfl)) (az (bz 2 nd (rA dJ qj rN rC (pv 1))) (az (dF (e9 dJ ic iF iE (pv 0) (af (pv 2) aq))) (aE (bc (bA AW (pv 2) (aT T.Lo) (bY _)) (az (dF (e9 dJ ic iF iE (pv 1) (af (aT T.Lo) aq))) (aE (QE))) bC)))))),?_⟩;refine⟨λm σ H'=>e_3 λv fP w'=>σ=[B (.ref a),B (.ref b),v]/\m=w'.length/\bQ [a,b] H H'/\H' a=B (.Z (aA fP))/\H' b=B (.Z (aA w'.reverse))/\fP.length+iG w'<=90000/\iM fP w'=iM cs w,⟨w.length,N,cs,w,O,O,bQ.refl _ _,ha,hb,hl,O⟩,?_⟩;rintro m σ H' ⟨v,fP,w',rfl,rfl,k1,VM,F3,dU,he⟩;refine⟨_,.inl ⟨_,aC.of F3,O⟩,?_⟩;cases w' with
 |nil=>refine bN ?_;rw[<-he]at k;exact k H' k1 VM F3
 |cons c w'=>
  have e1:(aA (c::w').reverse).isEmpty=false:=by rw[qz,kC];simp[aA]
  rw[e1];refine bO ⟨λσ' gJ=>∃m',m'<(c::w').length/\e_3 λv fP w'=>σ'=[B (.ref a),B (.ref b),v]/\m'=w'.length/\bQ [a,b] H gJ/\gJ a=B (.Z (aA fP))/\gJ b=B (.Z (aA w'.reverse))/\fP.length+iG w'<=90000/\iM fP w'=iM cs w,λ_ _ z=>z,?_⟩
  have e2:(aA (c::w').reverse)[(aA (c::w').reverse).length-1]?=B (.int (c:Nat)):=by rw[bP];refine iq ?_;simp
  refine⟨.inl ⟨O,_,aC.of F3⟩,b,_,_,O,O,F3,e2,?_⟩;have e3:(aA (c::w').reverse).dropLast=aA w'.reverse:=by rw[LP,Mh];rfl
  rw[e3];have Mi:M H' b (.Z (aA w'.reverse)) a=_:=(aa ab).trans VM;have VN:M H' b (.Z (aA w'.reverse)) b=_:=ah;have k2:bQ [a,b] H (M H' b (.Z (aA w'.reverse))):=k1.M (.inl (by simp));generalize M H' b (.Z (aA w'.reverse))=H2 at Mi VN k2 ⊢;have hp:fP.length<=90000:=by lia
  have hw:=Mf w';refine⟨.inl ⟨O,_,aC.of Mi⟩,a,_,_,O,O,Mi,by rw[bP];exact cY (by lia),?_⟩;have e4:aA fP++[V.int (c:Nat)]=aA (fP++[c]):=ng _ _;rw[e4];have Mj:M H2 a (.Z (aA (fP++[c]))) a=_:=ah;have F4:M H2 a (.Z (aA (fP++[c]))) b=_:=(aa (aP ab)).trans VN;have k3:bQ [a,b] H (M H2 a (.Z (aA (fP++[c])))):=k2.M (.inl (by simp));generalize M H2 a (.Z (aA (fP++[c])))=H3 at Mj F4 k3 ⊢;refine⟨O,_,O,?_⟩;by_cases h:c=41
  .have hc:((c:Nat):Int)=41:=by lia
   rw[vd hc];refine bN ⟨w'.length,rY _,_,_,_,O,O,k3,Mj,F4,?_,?_⟩
   .have:=dU;rw[iG,aD h]at this;rw[cK];simp only[dY,mQ];lia
   .rw[<-he];conv=>rhs;rw[iM,aD h]
  .have hc:¬((c:Nat):Int)=41:=by lia
   rw[xf hc];rw[iG,au h]at dU;refine bO ⟨.inl ⟨O,_,aC.of F4⟩,b,_,_,O,O,F4,by rw[bP,tR];exact cY (by lia),?_⟩;rw[<-he,iM,au h]at k;refine k _ (k3.M (.inl (by simp))) ((aa ab).trans Mj) ?_;rw[ah,qz,kC];rfl
def VO:bZ ["signs","codes","wanted","sign"] ["signs"] (bb KC):=by left
def aix (F:bG K "codes_of" "codes_of" KC f fd)(T:Txt K mg)(Ml:c_ "end_formula" 1 ["codes","wanted"] (VJ))(zh:c_ "is_agent" 1 ["sign"] (Lz))(j8:c_ "parts" 2 ["sign"] (xb)):b_ 3 f fd ["signs"] (Mg K):=by
 rcases F,VO with⟨a,l,rfl,hS,hlen,k⟩;refine⟨_,(az (bz 1 nd (bU aq)) (az (bz 2 nd (bU aq)) (az (eZ dR O (iY (pv 0)) (bX (i:=3) nd O (bM O)) (az (bc (bA oQ (pv 3) (iZ (af (aT T.y6) (af (aT T.OR) aq))) (by with_unfolding_all rfl)) (az (dF (e9 dJ ic iF iE (pv 1) (af (aT T.Ln) aq))) (aE (dF (e9 dJ ic iF iE (pv 2) (af (pv 3) aq))))) (aE (bc (lL (b7 zh hr (by rfl) (af (pv 3) aq))) (aE (dF (e9 dJ rB tT sZ (pv 1) (af (bU (af (aT T.UI) (af (pv 3) aq))) aq)))) (aE (dF (e9 dJ ic iF iE (pv 1) (af (pv 3) aq))))))) (aE (bc (bA cy (b7 j8 hr (by rfl) (af (pv 3) aq)) aZ (bY _)) (aE (dF (b7 Ml hr (by rfl) (af (pv 1) (af (pv 2) aq))))) bC)))) (aE (aW (pv 1)))))),?_⟩;refine⟨by simp,λS dS=>⟨by simp,λW xg=>?_⟩⟩;have F5:H W=none:=(bp dS).free xg;have SW:S≠W:=λz=>by rw[<-z,ah]at xg;cases xg
 refine⟨a,O,⟨_,(aS (bp dS) F5).seq hS⟩,mE (K:=K) (a:=a) (xs:=aA l) (λi σ H'=>∃v,σ=[B (.ref a),B (.ref S),B (.ref W),v]/\aw H H'/\H' S=B (.Z (aA (jg ([],[]) (l.take i)).1))/\H' W=B (.Z (aA (jg ([],[]) (l.take i)).2.reverse))) ⟨N,O,aS (bp dS) F5,(aa SW).trans ah,ah⟩ (λi σ H' _ ⟨_,_,s2,_⟩=>s2.seq hS) ?_ ?_⟩
 .rintro i x σ H' hi ⟨v,rfl,s2,h1,h2⟩;obtain⟨c,hc,rfl⟩:=jB hi
  have dA:i<l.length:=by grind
  have en:jg ([],[]) (l.take (i+1))=iN (jg ([],[]) (l.take i)) c:=by rw[take_snoc hc,HW];rfl
  have VP:=VI (l.take i) ([],[]);have tl:(l.take i).length<=3000:=by grind
  rw[en];generalize jg ([],[]) (l.take i)=st at h1 h2 VP ⊢;have apR:st.1.length+iG st.2<=9000:=by simp only[mQ,iG]at VP;lia
  have pw:=Mf st.2;refine⟨a_2,λp hp=>?_⟩;have i9:=s2.free hp;have s3:aw H (M H' p (.tup [.int 38,.int 124])):=aS s2 i9;have pS:S≠p:=aK h1 hp;have pW:W≠p:=aK h2 hp;have h3:=(aa (o:=.tup [.int 38,.int 124]) pS).trans h1;have h4:=(aa (o:=.tup [.int 38,.int 124]) pW).trans h2;refine⟨p,_,O,.inr (cW.of ah),O,O,_,O,?_⟩;generalize M H' p (.tup [.int 38,.int 124])=H2 at s3 h3 h4 ⊢;show if(ib (.int (c:Int)) [.int 38,.int 124])=L then _ else _
  rw[LD];have rP:iN st c=(if parts c=0 then iM (if c=38\/c=124 then(st.1++[40],c::st.2)else if 97<=c/\c<=100 then(st.1++[75,c],st.2)else(st.1++[c],st.2)).1 (if c=38\/c=124 then(st.1++[40],c::st.2)else if 97<=c/\c<=100 then(st.1++[75,c],st.2)else(st.1++[c],st.2)).2 else(if c=38\/c=124 then(st.1++[40],c::st.2)else if 97<=c/\c<=100 then(st.1++[75,c],st.2)else(st.1++[c],st.2))):=rfl;have l1:(aA st.1).length<aL:=by rw[bP];exact cY (by lia)
  by_cases hb:c=38\/c=124
  .rw[cw (by lia)];rw[aD hb,au (by rw[iC (by lia)];lia)]at rP;rw[rP];refine bO ⟨.inl ⟨O,_,aC.of h3⟩,S,_,_,O,O,h3,l1,?_⟩;have h5:M H2 S (.Z (aA st.1++[.int 40])) S=B (.Z (aA (st.1++[40]))):=by rw[ah,<-ng];rfl
   have h6:=(aa (H:=H2) (o:=.Z (aA st.1++[.int 40])) (aP SW)).trans h4;have s5:aw H (M H2 S (.Z (aA st.1++[.int 40]))):=aS s3 dS;generalize M H2 S (.Z (aA st.1++[.int 40]))=H3 at h5 h6 s5 ⊢;refine⟨.inl ⟨O,_,aC.of h6⟩,W,_,_,O,O,h6,by rw[bP,tR];exact cY (by lia),?_⟩;have h7:M H3 W (.Z (aA st.2.reverse++[.int (c:Nat)])) W=B (.Z (aA (c::st.2).reverse)):=by rw[ah,ng,qz]
   have h8:=(aa (H:=H3) (o:=.Z (aA st.2.reverse++[.int (c:Nat)])) SW).trans h5;have s7:aw H (M H3 W (.Z (aA st.2.reverse++[.int (c:Nat)]))):=aS s5 F5;generalize M H3 W (.Z (aA st.2.reverse++[.int (c:Nat)]))=H4 at h7 h8 s7 ⊢;refine⟨c,O,λH5 s8=>⟨O,_,O,cX (by rw[iC (by lia)];lia) ⟨_,O,s7.trans s8,s8 _ _ h8,s8 _ _ h7⟩⟩⟩
  .rw[eG (by lia)];rw[au hb]at rP;refine bN ⟨c,O,_,O,?_⟩;by_cases ha:97<=c/\c<=100
   .rw[cw (by lia)];rw[aD ha,au (by rw[jd (by lia)];lia)]at rP;rw[rP];refine bO ⟨.inl ⟨O,_,aC.of h3⟩,a_2,λq hq=>?_⟩;have xh:=s3.free hq;have qS:S≠q:=aK h3 hq;have qW:W≠q:=aK h4 hq;refine⟨S,q,_,_,O,O,(aa qS).trans h3,ah,by rw[bP];exact jD (show _+2<=_ by lia),?_⟩;refine⟨c,O,λH5 s8=>⟨O,_,O,cX (by rw[jd (by lia)];lia) ⟨_,O,(aS (aS s3 xh) dS).trans s8,s8 _ _ ?_,s8 _ _ ((aa (aP SW)).trans ((aa qW).trans h4))⟩⟩⟩;rw[ah,kC];rfl
   .rw[eG (by lia)];rw[au ha]at rP;refine bN ⟨.inl ⟨O,_,aC.of h3⟩,S,_,_,O,O,h3,l1,?_⟩;rw[ng];have h5:M H2 S (.Z (aA (st.1++[c]))) S=B (.Z (aA (st.1++[c]))):=ah;have h6:=(aa (H:=H2) (o:=.Z (aA (st.1++[c]))) (aP SW)).trans h4;have s5:aw H (M H2 S (.Z (aA (st.1++[c])))):=aS s3 dS;generalize M H2 S (.Z (aA (st.1++[c])))=H3 at h5 h6 s5 ⊢;refine⟨c,O,λH5 s8=>⟨O,_,O,?_⟩⟩;by_cases h0:parts c=0
    .rw[aD h0]at rP;rw[rP];refine dC (by rw[h0];rfl) ⟨S,W,st.1++[c],st.2,O,SW,s8 _ _ h5,s8 _ _ h6,by grind,λH6 k6 h9 B8=>⟨_,O,?_,h9,B8⟩⟩;refine λb o e=>k6 b o ((s5.trans s8) b o e) ?_;intro z;have:b=S\/b=W:=by simpa using z
     rcases this with z|z
     .rw[z,dS]at e;cases e
     .rw[z,F5]at e;cases e
    .rw[au h0]at rP;rw[rP];exact cX (by lia) ⟨_,O,s5.trans s8,s8 _ _ h5,s8 _ _ h6⟩
 .rintro σ H' ⟨v,rfl,s2,h1,h2⟩;rw[bP,eE]at h1;exact k H' S s2 dS h1
noncomputable def i6 (l:List Bool):List V:=l.map V.bl
def Mm (l:List Bool):(i6 l).length=l.length:=dj _
def aiy (l:List Bool)(i:Nat):(i6 l)[i]?=(l[i]?).map V.bl:=ig
def VQ {l:List Bool}{i:Nat}{b:Bool}(h:l[i]?=B b):(i6 l)[i]?=B (V.bl b):=by rw[aiy,h];rfl
def aiz (l:List Bool):(i6 l).dropLast=i6 l.dropLast:=by unfold i6;simp
def VR (l:List Bool)(b:Bool):i6 l++[V.bl b]=i6 (l++[b]):=(f9 (l₁:=l) (l₂:=[b])).symm
theorem VS:∀(l:List Nat)(k:Nat),flags (l.drop k)=L->flags l=L
 |[],k,h=>by grind
 |c::l,0,h=>h
 |c::l,k+1,h=>by have:=VS l k h;simp only[flags,this,Sa]
def Mn:∀r:List Nat,jC r<=r.length
 |[]=>aX _
 |c::r=>by have:=Mn r;simp only[jC,dY];lia
def VT (K:aM):Sp:=λvs H Q _=>e_2 λ(a:J)(f:bo)=>vs=[.ref a]/\aC K H a (aA (enc f))/\Wf f/\(enc f).length<=400/\∀H',aw H H'->Q (.bl (xi f)) H'
def Mo (C:J):Sp:=λvs H Q _=>e_5 λ(p dx:J)(x y z:V)=>vs=[.ref p,x,y,z]/\H p=B (.ins C dx [])/\Q .bB (M H p (.ins C dx (vb x y z)))
def VU:bZ ["self","size","guarded","signs"] ["self","size","guarded","signs"] (bb Ll):=by left
def aiA (TC:BY K eA)(F:bG K "__init__" "Piece.__init__" Ll f fd)(T:Txt K mg):b_ 1 f fd ["self","size","guarded","signs"] (Mo eA):=by rcases F,VU with⟨p,dx,x,y,z,rfl,hp,k⟩;refine⟨_,(az (dk (pv 0) (pv 1) O) (az (dk (pv 0) (pv 2) O) (aE (dk (pv 0) (pv 3) O)))),?_⟩;refine⟨p,eA,dx,_,O,hp,TC.cl,TC.FW,(by simp),?_⟩;refine⟨p,eA,dx,_,O,ah,TC.cl,TC.BZ,(by show 1<1000;decide),?_⟩;refine⟨p,eA,dx,_,O,ah,TC.cl,TC.lW,(by show 2<1000;decide),?_⟩;rw[mz,mz];exact k
def VW:bZ ["signs","with_common","sign","found","part"] ["signs"] (bb Fs):=by left
def aiB (F:bG K "tells_common" "tells_common" Fs f fd)(T:Txt K mg)(j8:c_ "parts" 2 ["sign"] (xb)):b_ 3 f fd ["signs"] (VT K):=by
 rcases F,VW with⟨a,f,rfl,hS,hw,hl,k⟩
 have Mp:flags (enc f)=xi f:=by have:=pJ f hw [];rw[fV]at this;rw[this];simp[flags]
 refine⟨_,(az (rG 1 nd (bU aq)) (az (eZ dR O (JH (by rfl) T.FE (af (pv 0) aq)) (bX (i:=2) nd O (bM O)) (az (ED (i:=3) O nd O O (EF O O O O) (rh (by rfl) T.rH (af (b7 j8 hr (by rfl) (af (pv 2) aq)) aq)) (jS (own:=[("part",4)]) (by show jn ["signs","with_common","sign","found","part"] (bb Fs) _ _=L;decide+kernel)) (λ_ _ _ _ _=>(bX (i:=4) nd O (bM O))) (λ_ _ _ _ _=>nU) (λ_ _ _ _ _=>(VC (K:=K) O dJ qj rN rC (pv 1)))) (az (bc (PW.pt (qa (bA cy (pv 2) (aT T.w9) (bY _)) (p9 (lL (cG cP (pv 3) aZ (λ_ _=>rfl)))))) (aE (aW nN)) bC) (aE (dF (e9 dJ ic iF iE (pv 1) (af (acn (sV cy (pv 2) (aT T.Lm) (bY _)) (QC (eJ (aen O) (by rfl) T.ahB ahI (af (pv 3) aq)))) aq))))))) (aE (aW nN)))),?_⟩;refine⟨by simp,λD hD=>?_⟩;have sf:=(L9 hw).1;refine⟨a,aA (enc f),O,(bp hD).seq hS,jr (n:=(aA (enc f)).length) (λi σ H'=>e_3 λv1 v2 v3=>σ=[B (.ref a),B (.ref D),v1,v2,v3]/\aw H H'/\flags ((enc f).drop ((enc f).length-i))=aH/\H' D=B (.Z (i6 (cJ gh ((enc f).drop ((enc f).length-i)) []).reverse))) ⟨N,N,N,O,bp hD,?_⟩ ?_ ?_ ?_ ?_⟩
 .rw[BC,Me];exact⟨O,ah⟩
 .rintro i σ H' hi ⟨v1,v2,v3,rfl,s1,_,h1⟩;exact⟨hi,_,_,s1.seq hS,cc (by cutsat)⟩
 .rintro σ H' _;exact aX _
 .rintro i x σ H' gJ hi ⟨v1,v2,v3,rfl,s1,B9,h1⟩ ⟨rfl,hy⟩;rw[bP]at hi;obtain⟨c,rfl,hd⟩:=Ma hi (hy _ (s1.seq hS));have qx:=F1 ((enc f).length-(i+1)) sf;rw[hd]at qx;have B7:=B5 gh ((enc f).drop ((enc f).length-i));have Mq:=Mn ((enc f).drop ((enc f).length-i));rw[ve]at Mq;have en:cJ gh ((enc f).drop ((enc f).length-(i+1))) []=gh c ((cJ gh ((enc f).drop ((enc f).length-i)) []).take (parts c))::(cJ gh ((enc f).drop ((enc f).length-i)) []).drop (parts c):=by rw[hd];rfl
  have fn:flags ((enc f).drop ((enc f).length-(i+1)))=(decide (c=91)&&((cJ gh ((enc f).drop ((enc f).length-i)) [])[1]?.getD aH)):=by rw[hd,flags,B9,EG]
  generalize cJ gh ((enc f).drop ((enc f).length-i)) []=E' at h1 B7 en fn;refine⟨c,O,λH2 s2=>⟨(parts c:Nat),O,by cutsat,by have:=B6 c;cutsat,?_⟩⟩;have h2:=s2 _ _ h1;intro G hG;have B':=(s1.trans s2).free hG;have DG:D≠G:=aK h2 hG
  refine qv (n:=parts c) (λj H'=>aw H H'/\H' G=B (.Z (i6 (E'.take j)))/\H' D=B (.Z (i6 (E'.drop j).reverse)))
   ⟨aS (s1.trans s2) B',ah,(aa DG).trans h2⟩ ?_ ?_ ?_ ?_
  .intro j H' hj _;exact(show j<qy _ by rw[ij];exact hj)
  .intro H' _;exact(show qy _<=_ by rw[ij];exact aX _)
  .rintro j x H3 H4 hj ⟨s3,h3,iH⟩ ⟨rfl,rfl⟩;have gu:j<E'.length:=by have:=qx.1;cutsat
   have hx:E'[j]?=B E'[j]:=cc gu;refine⟨O,?_⟩;refine oa ?_;refine⟨.inl ⟨O,_,aC.of iH⟩,D,_,_,O,O,iH,(by rw[Mm];exact VQ (Mc hx)),?_⟩;refine⟨_,(aa (aP DG)).trans h3,by rw[Mm,eF];exact cY (by cutsat),aS (aS s3 hD) B',?_,?_⟩
   .rw[ah,VR,take_snoc hx]
   .rw[aa DG,ah,aiz,Mb]
  .rintro H3 ⟨s3,h3,iH⟩
   have tail:∀(H5:Hp),aw H H5->H5 G=B (.Z (i6 (E'.take (parts c))))->H5 D=B (.Z (i6 (E'.drop (parts c)).reverse))->flags ((enc f).drop ((enc f).length-(i+1)))=aH->
     aw H (M H5 D (.Z (i6 (E'.drop (parts c)).reverse++[.bl (gh c (E'.take (parts c)))])))/\flags ((enc f).drop ((enc f).length-(i+1)))=aH/\M H5 D (.Z (i6 (E'.drop (parts c)).reverse++[.bl (gh c (E'.take (parts c)))])) D=B (.Z (i6 (cJ gh ((enc f).drop ((enc f).length-(i+1))) []).reverse)):=λH5 s5 g5 d5 hf=>by refine⟨aS s5 hD,hf,?_⟩;rw[ah,en,VR,qz]
   have hle:(i6 (E'.drop (parts c)).reverse).length<aL:=by rw[Mm,tR,ve];exact cY (by cutsat)
   refine⟨O,_,O,?_⟩;by_cases k7:c=91
   .have p2:parts c=2:=iC (by cutsat);have l2:2<=E'.length:=by have:=qx.1;cutsat
    rw[vd (show((c:Nat):Int)=91 by cutsat)]
    have g1:(i6 (E'.take (parts c)))[1]?=B (.bl E'[1]):=by refine VQ ?_;grobner
    refine bO ⟨G,_,1,_,O,O,aC.of h3,eP (j:=1) g1,_,O,?_⟩
    have fe:flags ((enc f).drop ((enc f).length-(i+1)))=E'[1]:=by grobner
    cases hb:E'[1]with
    |true=>rw[hb]at fe;have:=VS _ _ fe;rw[Mp]at this;rw[this]at k;exact bO (k _ s3)
    |false=>
     rw[hb]at fe;refine bN ⟨.inl ⟨O,_,aC.of iH⟩,O,_,O,?_⟩;refine cX (by cutsat) ⟨G,_,O,aC.of h3,D,_,_,O,O,iH,hle,_,_,_,O,?_⟩;have e:(E'.take (parts c)).any id=gh c (E'.take (parts c)):=by unfold gh;grobner
     rw[e];exact tail H3 s3 h3 iH fe
   .rw[xf (show¬((c:Nat):Int)=91 by cutsat)];have fe:flags ((enc f).drop ((enc f).length-(i+1)))=false:=by grobner
    refine bN ?_;refine bN ⟨.inl ⟨O,_,aC.of iH⟩,O,_,O,?_⟩;by_cases h67:c=67
    .refine dC (by cutsat) ⟨D,_,_,O,O,iH,hle,_,_,_,O,?_⟩;have e:L=gh c (E'.take (parts c)):=by unfold gh;grobner
     rw[e];exact tail H3 s3 h3 iH fe
    .refine cX (by cutsat) ⟨G,_,O,aC.of h3,D,_,_,O,O,iH,hle,_,_,_,O,?_⟩;have e:(E'.take (parts c)).any id=gh c (E'.take (parts c)):=by unfold gh;grobner
     rw[e];exact tail H3 s3 h3 iH fe
 .rintro σ H' ⟨v1,v2,v3,rfl,s1,B9,h1⟩;rw[bP,yT,F2]at B9;rw[Mp]at B9;rw[B9]at k;exact k _ s1
def vf (H:Hp)(v:V):Option (List Nat)->Prop
 |none=>v=.bB
 |some l=>∃S,v=.ref S/\H S=B (.Z (aA l))
def tU (C:J)(H:Hp)(p:J)(c:Pc):Prop:=∃dx v,H p=B (.ins C dx (vb (.int (c.size:Nat)) (.int (c.dy:Nat)) v))/\vf H v c.bJ
def vf.same (s:aw H H'):∀{o:Option (List Nat)},vf H v o->vf H' v o
 |none,h=>h
 |some l,⟨S,e,h⟩=>⟨S,e,s _ _ h⟩
def tU.same (s:aw H H')(h:tU C H p c):tU C H' p c:=by obtain⟨dx,v,h1,h2⟩:=h;exact⟨dx,v,s _ _ h1,h2.same s⟩
def zm (C:J)(H H':Hp)(p:J)(c:Pc):Prop:=H p=N/\∃dx v,H' p=B (.ins C dx (vb (.int (c.size:Nat)) (.int (c.dy:Nat)) v))/\vf H' v c.bJ/\∀S,v=.ref S->H S=N
def del (H:Hp)(D:J):Hp:=λb=>if b=D then N else H b
def kD (h:b≠D):del H D b=H b:=by unfold del;rw[au h]
def rQ:del H D D=none:=by unfold del;simp
def Ca (s:aw H H')(h:H D=N):aw H (del H' D):=λb o e=>by rw[kD (aK e h)];exact s b o e
def aiC:aw (del H D) (M H D o):=λb u e=>by
 by_cases h:b=D
 .rw[h,rQ]at e;cases e
 .rw[kD h]at e;rw[aa h];exact e
def zm.at_ (h:zm C H H' p c)(hD:H D=B o):tU C (del H' D) p c:=by
 obtain⟨hp,dx,v,h1,h2,h3⟩:=h;have n1:p≠D:=aP (aK hD hp);refine⟨dx,v,(kD n1).trans h1,?_⟩;cases e:c.bJ with
 |none=>rw[e]at h2;exact h2
 |some l=>rw[e]at h2;obtain⟨S,e1,e2⟩:=h2;exact⟨S,e1,(kD (aP (aK hD (h3 S e1)))).trans e2⟩
noncomputable def refs (l:List J):List V:=l.map V.ref
def la (l:List J):(refs l).length=l.length:=dj _
def VX (l:List J)(i:Nat):(refs l)[i]?=(l[i]?).map V.ref:=ig
def rS {l:List J}{i:Nat}(h:l[i]?=B b):(refs l)[i]?=B (V.ref b):=by rw[VX,h];rfl
def Mr (l:List J):(refs l).dropLast=refs l.dropLast:=by unfold refs;simp
def oe (l:List J)(b:J):refs l++[V.ref b]=refs (l++[b]):=(f9 (l₁:=l) (l₂:=[b])).symm
def Cb {l:List J}{i:Nat}(h:(refs l)[i]?=B x):∃p,l[i]?=B p/\x=V.ref p:=by rw[VX]at h;rfl'
structure lb (C:J)(H:Hp)(ps:List J)(l:List Pc):Prop where
 len:ps.length=l.length
 at_:∀(i:Nat)(p:J)(c:Pc),ps[i]?=B p->l[i]?=B c->tU C H p c
def lb.same (s:aw H H')(h:lb C H ps l):lb C H' ps l:=⟨h.len,λi p c e1 e2=>(h.at_ i p c e1 e2).same s⟩
def lb.cons (h:tU C H p c)(t:lb C H ps l):lb C H (p::ps) (c::l):=⟨by simp[t.len],λi q d e1 e2=>by
 cases i with
 |zero=>rfl'
 |succ i=>exact t.at_ i q d e1 e2⟩
def lb.drop (t:lb C H ps l)(k:Nat):lb C H (ps.drop k) (l.drop k):=⟨by simp[t.len],λi q d e1 e2=>by
 rw[List.getElem?_drop]at e1 e2
 exact t.at_ _ q d e1 e2⟩
def lb.take (t:lb C H ps l)(k:Nat):lb C H (ps.take k) (l.take k):=⟨by simp[t.len],λi q d e1 e2=>by
 have h:i<k:=by grobner
 rw[tV,aD h]at e1 e2
 exact t.at_ _ q d e1 e2⟩
def Good (c:Pc):Prop:=c.size<=3000->∃l,c.bJ=B l/\l.length=c.size/\cnt l=c.dy
def VY {l:List Nat}{x:Nat}(h:x∈l):x<=l.sum:=by
 induction l with
 |nil=>cases h
 |cons a l ih=>rfl'
def Ms (h:∀p∈l,Good p):Good (je c l):=λhs=>by
 rw[(Az c l).1]at hs;unfold je;rw[au (by lia)];refine⟨_,O,?_,?_⟩
 .rw[dY,DP];congr 1;clear c;induction l with
  |nil=>rfl
  |cons p l ih=>rw[dX,xj]at hs;obtain⟨s,e1,e2,e3⟩:=h p eR (by lia);grind
 .rw[cnt_cons,DP];congr 1;clear c;induction l with
  |nil=>rfl
  |cons p l ih=>rw[dX,xj]at hs;obtain⟨s,e1,e2,e3⟩:=h p eR (by lia);rw[kE,cnt_append,ih (λq hq=>h q (eD _ hq)) (by lia),dX,xj,e1];grind
def aiD (hp:Good p)(ht:Good t):Good (iL p t):=λhs=>by
 rw[(HY p t).1]at hs;obtain⟨s,e1,e2,e3⟩:=hp (by lia);unfold iL;rw[au (by lia)];refine⟨_,O,?_,?_⟩
 .rw[e1];show(eU _ s).length=p.size+p.dy*(t.size+2);rw[Ay,e2,e3];by_cases h0:p.dy=0
  .rw[h0];simp
  .have:t.size<=3000:=by have:1*(t.size+2)<=p.dy*(t.size+2):=we _ (by lia);lia
   obtain⟨s',f1,f2,f3⟩:=ht this;grind
 .rw[e1];show cnt (eU _ s)=p.dy*(t.dy+2);rw[HU,e3];by_cases h0:p.dy=0
  .rw[h0];simp
  .have:t.size<=3000:=by have:1*(t.size+2)<=p.dy*(t.size+2):=we _ (by lia);lia
   obtain⟨s',f1,f2,f3⟩:=ht this;grind
def VZ (C:J):Sp:=λvs H Q _=>e_4 λ(c:Nat)(a:J)(ps:List J)(l:List Pc)=>vs=[.int (c:Nat),.ref a]/\H a=B (.Z (refs ps))/\lb C H ps l/\l.length<=2/\(∀p∈l,Good p)/\
 ∀(H':Hp)(p:J),aw H H'->zm C H H' p (je c l)->Q (.ref p) H'
def V0 (l:List Nat):(l.map λn=>((n:Nat):Int)).sum=((l.sum:Nat):Int):=by
 induction l with
 |nil=>rfl
 |cons a l ih=>grind
def V1 (l:List Nat):aA l=(l.map λn=>((n:Nat):Int)).map V.int:=by unfold aA;simp
def F7 {α:Type}{l:List α}{g:α->Nat}{j:Nat}{x:α}(h:l[j]?=B x):aA ((l.take j).map g)++[V.int ((g x:Nat):Int)]=aA ((l.take (j+1)).map g):=by rw[take_snoc h,f9,kC];rfl
def zo (s:aw H H1)(hp:H1 p=N)(hd:H1 dx=N):aw H (M (M (M H1 dx (.own p)) p (.ins C dx [])) p o):=
 aS (aS (aS s (s.free hd)) (s.free hp)) (s.free hp)
def qA {X:L2.St->Hp->Prop}{A:Prop}{G:L2.St->Hp->Prop}(h1:(∀s H,G s H->X s H)->A)(h2:∀s H,G s H->X s H):A:=h1 h2
def V2:bZ ["sign","found","size","piece","guarded","signs"] ["sign","found"] (bb BN):=by left
def aiE (TC:BY K eA)(F:bG K "joined" "joined" BN f fd)(T:Txt K mg)(vg:n_ "Piece" eA 1 ["self","size","guarded","signs"] (Mo eA))(zp:c_ "is_guarded" 1 ["sign"] (LB)):b_ 3 f fd ["sign","found"] (VZ eA):=by
 rcases F,V2 with⟨c,a,ps,l,rfl,ha,hP,hl,hg,k⟩;refine⟨_,(az (bz 2 nd (b5 ji aZ (eJ (RI O) (by rfl) T.U3 U4 (af (lT O nd (iY (pv 1)) (jS (own:=[("piece",3)]) (by show jn ["sign","found","size","piece","guarded","signs"] (bb BN) _ _=L;decide+kernel)) (λ_ _ _ _ _=>(bX (i:=3) nd O (bM O))) (λ_ _ _ _ _=>nU) (λ_ _ _ _ _=>(zl (K:=K) O (pv 3) O))) aq)))) (az (bz 4 nd (eJ (RI O) (by rfl) T.U3 U4 (af (lT O nd (iY (pv 1)) (jS (own:=[("piece",3)]) (by show jn ["sign","found","size","piece","guarded","signs"] (bb BN) _ _=L;decide+kernel)) (λ_ _ _ _ _=>(bX (i:=3) nd O (bM O))) (λ_ _ _ _ _=>nU) (λ_ _ _ _ _=>(zl (K:=K) O (pv 3) O))) aq))) (az (bc (lL (b7 zp hr (by rfl) (af (pv 0) aq))) (aE (bz 4 nd (b5 ji (pv 4) aZ))) bC) (az (bc (bA wA (pv 2) (aT T.UR) (bY _)) (aE (aW (rJ vg hr (by rfl) (af (pv 2) (af (pv 4) (af sN aq)))))) bC) (az (bz 5 nd (bU (af (pv 0) aq))) (az (eZ dR O (iY (pv 1)) (bX (i:=3) nd O (bM O)) (aE (dF (e9 dJ rB tT sZ (pv 5) (af (aQ (pv 3) O) aq))))) (aE (aW (rJ vg hr (by rfl) (af (pv 2) (af (pv 4) (af (pv 5) aq)))))))))))),?_⟩
 have at2:∀{i:Nat}{x:V}{H':Hp},aw H H'->(refs ps)[i]?=B x->∃p c,l[i]?=B c/\x=.ref p/\tU eA H' p c:=λ{i x H'} s h=>by
  obtain⟨p,hp,rfl⟩:=Cb h
  have dA:i<ps.length:=by grind
  have:i<l.length:=by rw[<-hP.len];exact dA
  have e:=cc this;exact⟨p,_,e,O,(hP.at_ _ _ _ hp e).same s⟩
 have Cc:(refs ps).length=l.length:=by rw[la,hP.len]
 refine⟨a,O,⟨_,aC.of ha⟩,λG hG=>?_⟩;refine uT (K:=K) (a:=a) (xs:=refs ps) (λi H'=>aw H H'/\H' G=B (.Z (aA ((l.take i).map λp=>p.size)))) ⟨bp hG,ah⟩ (λi H' _ z=>aC.of (z.1 _ _ ha)) ?_ ?_
 .rintro i x H' hi ⟨s1,h1⟩;obtain⟨p,c',hc,rfl,dx,v,hp,hv⟩:=at2 s1 hi;refine⟨O,?_⟩;refine oa ?_;refine⟨p,eA,dx,_,_,O,hp,TC.cl,TC.FW,LM _ _ _,_,h1,by rw[bP,dj,eF];exact cY (by lia),aS s1 hG,?_⟩;rw[ah];exact cb B (cb HO.Z (F7 (g:=λp:Pc=>p.size) hc))
 .rintro H1 ⟨s1,h1⟩;rw[Cc,eE,V1]at h1;refine⟨G,_,O,aC.of h1,_,_,O,O,?_⟩;rw[V0];refine⟨a,O,⟨_,aC.of (s1 _ _ ha)⟩,λG2 hG2=>?_⟩;have V3:=s1.free hG2;refine uT (K:=K) (a:=a) (xs:=refs ps) (λi H'=>aw H H'/\H' G2=B (.Z (aA ((l.take i).map λp=>p.dy)))) ⟨aS s1 V3,ah⟩ (λi H' _ z=>aC.of (z.1 _ _ ha)) ?_ ?_
  .rintro i x H' hi ⟨s1,h1⟩;obtain⟨p,c',hc,rfl,dx,v,hp,hv⟩:=at2 s1 hi;refine⟨O,?_⟩;refine oa ?_;refine⟨p,eA,dx,_,_,O,hp,TC.cl,TC.BZ,FU _ _ _,_,h1,by rw[bP,dj,eF];exact cY (by lia),aS s1 V3,?_⟩;rw[ah];exact cb B (cb HO.Z (F7 (g:=λp:Pc=>p.dy) hc))
  .rintro H2 ⟨s2,h2⟩;rw[Cc,eE,V1]at h2;refine⟨G2,_,O,aC.of h2,?_⟩;rw[V0];have jf:=Az c l;apply qA (G:=λσ H3=>∃v,σ=[B (.int (c:Nat)),B (.ref a),B (.int (((je c l).size:Nat):Int)),v,B (.int (((je c l).dy:Nat):Int)),N]/\aw H H3)
   .intro rest;refine⟨c,O,λH3 s3=>⟨_,O,?_⟩⟩;cases zq:dQ c with
    |true=>refine bO ⟨_,_,O,O,rest _ _ ⟨N,?_,s2.trans s3⟩⟩;rw[jf.1,jf.2,zq];rfl
    |false=>refine bN (rest _ _ ⟨N,?_,s2.trans s3⟩);rw[jf.1,jf.2,zq];rfl
   .rintro σ H3 ⟨v,rfl,s3⟩;refine⟨_,_,O,O,_,O,?_⟩;by_cases hb:3000<(je c l).size
    .rw[cw (by lia)];refine bO (λp dx i9 eQ ck=>?_);refine⟨p,dx,_,_,_,O,ah,⟨O,?_⟩⟩;refine k _ p (zo s3 i9 eQ) ⟨s3.free i9,dx,_,ah,?_,λS z=>by cases z⟩
     have:(je c l).bJ=none:=by unfold je at hb ⊢;rfl'
     rw[this];rfl
    .rw[eG (by lia)];refine bN ⟨a_1,λS hS=>?_⟩;have dS:=s3.free hS;have wV:1+(l.map λp=>p.size).sum<=3000:=by lia
     have sg:∀p∈l,∃s,p.bJ=B s/\s.length<=3000:=λp hp=>by have:p.size<=(l.map λp=>p.size).sum:=VY (cx.mpr ⟨p,hp,O⟩);obtain⟨s,e1,e2,_⟩:=hg p hp (by lia);grind
     refine⟨a,O,⟨_,aC.of (aS s3 dS _ _ ha)⟩,mE (K:=K) (a:=a) (xs:=refs ps) (λi σ H'=>∃v,σ=[B (.int (c:Nat)),B (.ref a),B (.int (((je c l).size:Nat):Int)),v,B (.int (((je c l).dy:Nat):Int)),B (.ref S)]/\aw H H'/\H' S=B (.Z (aA (c::(l.take i).flatMap λp=>p.bJ.getD [])))/\((l.take i).flatMap λp=>p.bJ.getD []).length<=i*3000) ⟨_,O,aS s3 dS,ah,aX _⟩ (λi σ H' _ ⟨_,_,s2,_⟩=>aC.of (s2 _ _ ha)) ?_ ?_⟩
     .rintro i x σ H' hi ⟨v,rfl,s4,h4,hl4⟩
      have hi2:i<2:=by grind
      obtain⟨p,c',hc,rfl,dx,v',hp,hv⟩:=at2 s4 hi;obtain⟨s,e1,e2⟩:=sg c' (gG hc);rw[e1]at hv;obtain⟨S',rfl,jy⟩:=hv;have en:((l.take (i+1)).flatMap λp=>p.bJ.getD [])=((l.take i).flatMap λp=>p.bJ.getD [])++s:=by rw[take_snoc hc,tW];simp[e1]
      refine⟨.inl ⟨O,_,aC.of h4⟩,p,eA,dx,_,_,O,hp,TC.cl,TC.lW,FV _ _ _,S,S',_,_,O,O,h4,jy,?_,_,O,aS s4 dS,?_,?_⟩
      .rw[bP,bP,dY];exact jD (by lia)
      .rw[ah,en,<-kC];rfl
      .rw[en,cK];lia
     .rintro σ H' ⟨v,rfl,s4,h4,hl4⟩;rw[Cc,eE]at h4;refine λp dx i9 eQ ck=>?_;refine⟨p,dx,_,_,_,O,ah,⟨O,?_⟩⟩;have s5:=zo (C:=eA) (o:=.ins eA dx (vb (.int (((je c l).size:Nat):Int)) (.int (((je c l).dy:Nat):Int)) (.ref S))) (aw.refl H') i9 eQ;refine k _ p (s4.trans s5) ⟨s4.free i9,dx,_,ah,?_,λS z=>by cases z;exact dS⟩
      have:(je c l).bJ=B (c::l.flatMap λp=>p.bJ.getD []):=by unfold je;grind
      rw[this];exact⟨S,O,s5 _ _ h4⟩
end WK
set_option exponentiation.threshold 900
namespace WK
open PySem PySem.Spec PyProof.Rows L2
open Vbtaag (Form)
def V4 (ha:a+2<=4^400)(hb:b+2<=4^400):IntMulOk ((a:Nat):Int) (((b:Nat):Int)+2):=by
 have q:(4:Nat)^400=2^800:=by lia
 have z:(2:Nat)^800<2^801:=Nat.pow_lt_pow_right (by lia) (by lia);rw[q]at ha hb;generalize(2:Nat)^800=t at ha hb z;refine IntMulOk.of_le (m:=801) (n:=801) (intBits_le_iff.mpr ?_) (intBits_le_iff.mpr ?_) (by lia)
 .omega
 .omega
def V5 (C:J):Sp:=λvs H Q _=>e_4 λ(p t:J)(pc tc:Pc)=>vs=[.ref p,.ref t]/\tU C H p pc/\tU C H t tc/\Good pc/\Good tc/\pc.dy+2<=4^400/\tc.size+2<=4^400/\tc.dy+2<=4^400/\
 ∀(H':Hp)(q:J),aw H H'->zm C H H' q (iL pc tc)->Q (.ref q) H'
def V6:bZ ["piece","told","size","guarded","signs","sign"] ["piece","told"] (bb KH):=by left
def aiH (TC:BY K eA)(F:bG K "behind" "behind" KH f fd)(T:Txt K mg)(vg:n_ "Piece" eA 1 ["self","size","guarded","signs"] (Mo eA))(zp:c_ "is_guarded" 1 ["sign"] (LB)):b_ 3 f fd ["piece","told"] (V5 eA):=by
 rcases F,V6 with⟨p,t,pc,tc,rfl,⟨dp,vp,hp,V7⟩,⟨dt,vt,ht,V8⟩,gp,gt,b1,b2,b3,k⟩;refine⟨_,(az (bz 2 nd (b5 ji (aQ (pv 0) O) (b5 Ts (aQ (pv 0) O) (b5 ji (aQ (pv 1) O) aZ)))) (az (bz 3 nd (b5 Ts (aQ (pv 0) O) (b5 ji (aQ (pv 1) O) aZ))) (az (bc (bA wA (pv 2) (aT T.UR) (bY _)) (aE (aW (rJ vg hr (by rfl) (af (pv 2) (af (pv 3) (af sN aq)))))) bC) (az (bz 4 nd (bU aq)) (az (eZ dR O (iY (aQ (pv 0) O)) (bX (i:=5) nd O (bM O)) (az (bc (lL (b7 zp hr (by rfl) (af (pv 5) aq))) (az (dF (e9 dJ rB tT sZ (pv 4) (af (bU (af (aT T.OR) (af (aT T.w8) aq))) aq))) (aE (dF (e9 dJ rB tT sZ (pv 4) (af (aQ (pv 1) O) aq))))) bC) (aE (dF (e9 dJ ic iF iE (pv 4) (af (pv 5) aq)))))) (aE (aW (rJ vg hr (by rfl) (af (pv 2) (af (pv 3) (af (pv 4) aq))))))))))),?_⟩;have bf:=HY pc tc;refine⟨p,eA,dp,_,_,O,hp,TC.cl,TC.FW,LM _ _ _,p,eA,dp,_,_,O,hp,TC.cl,TC.BZ,FU _ _ _,t,eA,dt,_,_,O,ht,TC.cl,TC.FW,LM _ _ _,_,_,O,O,_,_,O,O,V4 b1 b2,_,_,O,O,?_⟩;refine⟨p,eA,dp,_,_,O,hp,TC.cl,TC.BZ,FU _ _ _,t,eA,dt,_,_,O,ht,TC.cl,TC.BZ,FU _ _ _,_,_,O,O,_,_,O,O,V4 b1 b3,?_⟩;have e1:((pc.size:Nat):Int)+((pc.dy:Nat):Int)*(((tc.size:Nat):Int)+2)=(((iL pc tc).size:Nat):Int):=by rw[bf.1];simp
 have e2:((pc.dy:Nat):Int)*(((tc.dy:Nat):Int)+2)=(((iL pc tc).dy:Nat):Int):=by rw[bf.2];simp
 apply qA (G:=λσ H3=>σ=[B (.ref p),B (.ref t),B (.int (((iL pc tc).size:Nat):Int)),B (.int (((iL pc tc).dy:Nat):Int)),N,N]/\H3=H)
 .intro rest;dsimp only[oJ];exact rest _ _ ⟨by rw[<-e1,<-e2];rfl,O⟩
 rintro σ H3 ⟨rfl,eH⟩;rw[eH];refine⟨_,_,O,O,_,O,?_⟩;by_cases hb:3000<(iL pc tc).size
 .rw[cw (by lia)];refine bO (λq dx i9 eQ ck=>?_);refine⟨q,dx,_,_,_,O,ah,⟨O,?_⟩⟩;refine k _ q (zo (aw.refl H) i9 eQ) ⟨i9,dx,_,ah,?_,λS z=>by cases z⟩
  have:(iL pc tc).bJ=none:=by rw[bf.1]at hb;unfold iL;grind
  rw[this];rfl
 .rw[eG (by lia)];refine bN ⟨by simp,λS hS=>?_⟩;have wV:pc.size+pc.dy*(tc.size+2)<=3000:=by lia
  obtain⟨s,f1,f2,f3⟩:=gp (by lia);rw[f1]at V7;obtain⟨V9,rfl,V'⟩:=V7;have s1:aw H (M H S (.Z [])):=bp hS
  have hlen:(eU (tc.bJ.getD []) s).length<=3000:=by
   rw[Ay,f2,f3];by_cases h0:pc.dy=0
   .grind
   .have:tc.size<=3000:=by have:1*(tc.size+2)<=pc.dy*(tc.size+2):=we _ (by lia);lia
    obtain⟨s',g1,g2,g3⟩:=gt this;grind
  refine⟨p,eA,dp,_,_,O,s1 _ _ hp,TC.cl,TC.lW,FV _ _ _,V9,O,⟨_,aC.of (s1 _ _ V')⟩,mE (K:=K) (a:=V9) (xs:=aA s) (λi σ H'=>∃v,σ=[B (.ref p),B (.ref t),B (.int (((iL pc tc).size:Nat):Int)),B (.int (((iL pc tc).dy:Nat):Int)),B (.ref S),v]/\aw H H'/\H' S=B (.Z (aA (eU (tc.bJ.getD []) (s.take i))))) ⟨N,O,s1,ah⟩ (λi σ H' _ ⟨_,_,s2,_⟩=>aC.of (s2 _ _ V')) ?_ ?_⟩
  .rintro i x σ H' hi ⟨v,rfl,s4,h4⟩;obtain⟨c,hc,rfl⟩:=jB hi;have en:eU (tc.bJ.getD []) (s.take (i+1))=eU (tc.bJ.getD []) (s.take i)++bh (tc.bJ.getD []) c:=by rw[take_snoc hc,DM];simp[eU]
   have jc:(eU (tc.bJ.getD []) (s.take i)).length+(bh (tc.bJ.getD []) c).length<=3000:=by
    have:eU (tc.bJ.getD []) s=eU (tc.bJ.getD []) (s.take (i+1))++eU (tc.bJ.getD []) (s.drop (i+1)):=by rw[<-DM,zk]
    grind
   refine⟨c,O,λH2 s2=>⟨_,O,?_⟩⟩;have s5:=s4.trans s2;have h5:=s2 _ _ h4;cases zq:dQ c with
   |false=>
    have eb:bh (tc.bJ.getD []) c=[c]:=by unfold bh;rw[zq];rfl
    rw[eb]at en jc;refine bN ⟨.inl ⟨O,_,aC.of h5⟩,S,_,_,O,O,h5,by rw[bP];exact cY (by lia),_,O,aS s5 hS,?_⟩;rw[ah,en,ng]
   |true=>
    have eb:bh (tc.bJ.getD []) c=124::126::(tc.bJ.getD []++[c]):=by unfold bh;rw[zq];rfl
    rw[eb]at en jc
    have Wa:1<=cnt s:=by rw[Vy hc,cnt_append,cnt_cons,zq,aD rfl];lia
    have Cd:tc.size<=3000:=by have:1*(tc.size+2)<=pc.dy*(tc.size+2):=we _ (by lia);lia
    obtain⟨s',g1,g2,g3⟩:=gt Cd;rw[g1]at V8 en jc;obtain⟨ST,rfl,hST⟩:=V8;have en:eU (tc.bJ.getD []) (s.take (i+1))=eU (tc.bJ.getD []) (s.take i)++(124::126::(s'++[c])):=by rw[g1];exact en
    have jc:(eU (tc.bJ.getD []) (s.take i)).length+(s'.length+3)<=3000:=by grind
    generalize eU (tc.bJ.getD []) (s.take i)=acc at h5 en jc;have aiJ:∀x:List Nat,x.length<=s'.length+3->(aA acc).length+(aA x).length<=aL:=λx hx=>by rw[bP,bP];exact jD (by lia)
    refine bO ⟨.inl ⟨O,_,aC.of h5⟩,a_2,λq hq=>?_⟩;have xh:=s5.free hq;have qS:S≠q:=aK h5 hq;refine⟨S,q,_,_,O,O,(aa qS).trans h5,ah,aiJ [124,126] (by simp),?_⟩;have s6:aw H (M (M H2 q (.Z [.int 124,.int 126])) S (.Z (aA acc++[.int 124,.int 126]))):=aS (aS s5 xh) hS;have h6:M (M H2 q (.Z [.int 124,.int 126])) S (.Z (aA acc++[.int 124,.int 126])) S=B (.Z (aA (acc++[124,126]))):=by rw[ah,kC];rfl
    generalize M (M H2 q (.Z [.int 124,.int 126])) S (.Z (aA acc++[.int 124,.int 126]))=H3 at s6 h6 ⊢;refine⟨.inl ⟨O,_,aC.of h6⟩,t,eA,dt,_,_,O,s6 _ _ ht,TC.cl,TC.lW,FV _ _ _,S,ST,_,_,O,O,h6,s6 _ _ hST,by rw[bP,bP,cK];exact jD (show _+2+_<=_ by lia),?_⟩;have s7:aw H (M H3 S (.Z (aA (acc++[124,126])++aA s'))):=aS s6 hS;have h7:M H3 S (.Z (aA (acc++[124,126])++aA s')) S=B (.Z (aA (acc++[124,126]++s'))):=by rw[ah,kC (acc++[124,126])]
    generalize M H3 S (.Z (aA (acc++[124,126])++aA s'))=H4 at s7 h7 ⊢;refine⟨.inl ⟨O,_,aC.of h7⟩,S,_,_,O,O,h7,by rw[bP,cK,cK];exact cY (show _+2+_<=_ by lia),_,O,aS s7 hS,?_⟩;rw[ah,en,ng];simp
  .rintro σ H' ⟨v,rfl,s4,h4⟩;rw[bP,eE]at h4;refine λq dx i9 eQ ck=>?_;refine⟨q,dx,_,_,_,O,ah,⟨O,?_⟩⟩;have s5:=zo (C:=eA) (o:=.ins eA dx (vb (.int (((iL pc tc).size:Nat):Int)) (.int (((iL pc tc).dy:Nat):Int)) (.ref S))) (aw.refl H') i9 eQ;refine k _ q (s4.trans s5) ⟨s4.free i9,dx,_,ah,?_,λS z=>by cases z;exact hS⟩
   have:(iL pc tc).bJ=B (eU (tc.bJ.getD []) s):=by unfold iL;grind
   rw[this];exact⟨S,O,s5 _ _ h4⟩
end WK
set_option exponentiation.threshold 900
namespace WK
open PySem PySem.Spec PyProof.Rows L2
open Vbtaag (Form)
def lg (_:Nat)(l:List Nat):Nat:=1+l.sum
def vh (E:List Pc)(W:List Nat):Prop:=E.length=W.length/\∀(i:Nat)(p:Pc)(n:Nat),E[i]?=B p->W[i]?=B n->Good p/\jL p n
def vh.tl (h:vh (p::E) (n::W)):(Good p/\jL p n)/\vh E W:=by refine⟨h.2 0 p n O O,by have:=h.1;grind,λi q m e1 e2=>h.2 (i+1) q m e1 e2⟩
def vh.cons (hp:Good p/\jL p n)(h:vh E W):vh (p::E) (n::W):=by
 refine⟨by simp[h.1],λi q m e1 e2=>?_⟩;cases i with
 |zero=>rfl'
 |succ i=>exact h.2 i q m e1 e2
def apU (h:q∈[p]):q=p:=by simpa using h
theorem Wb:∀r:List Nat,nc r->vh (cJ dW r []) (cJ lg r [])/\(cJ lg r []).sum=r.length
 |[],_=>⟨⟨O,λi p n e=>by simp[cJ]at e⟩,O⟩
 |c::r,s=>by
  obtain⟨h,hs⟩:=Wb r s.2;have hc:=s.1;rw[<-B5 lg r]at hc;have hp:=B6 c;show vh (dW c ((cJ dW r []).take (parts c))::(cJ dW r []).drop (parts c)) (lg c ((cJ lg r []).take (parts c))::(cJ lg r []).drop (parts c))/\(lg c ((cJ lg r []).take (parts c))::(cJ lg r []).drop (parts c)).sum=(c::r).length;generalize cJ lg r []=W at h hs hc ⊢;generalize cJ dW r []=E at h ⊢;have hE:=h.1;rcases nh 0 (parts c)with z|z
  .have An:c≠84:=λe=>by rw[e,sv (by lia)]at z;lia
   match W,E,hc,hs,h,hE with
   |[],_,hc,_,_,_=>grind
   |n::W,[],hc,hs,h,hE=>simp at hE
   |n::W,p::E,hc,hs,h,hE=>
    obtain⟨fY,h1⟩:=h.tl;rcases nh 1 (parts c)with y|y
    .have e2:parts c=2:=by lia
     match W,E,hc,hs,h1,hE with
     |[],_,hc,_,_,_=>grind
     |m::W,[],hc,hs,h,hE=>simp at hE
     |m::W,q::E,hc,hs,h1,hE=>
      obtain⟨gk,h2⟩:=h1.tl;rw[e2];refine⟨.cons ?_ h2,?_⟩
      .show Good (dW c [p,q])/\jL (dW c [p,q]) (1+[n,m].sum);have es:1+[n,m].sum=1+(n+m):=by simp
       rw[es];by_cases k7:c=91
       .rw[k7];exact⟨aiD gk.1 fY.1,abN fY.2 gk.2⟩
       .refine⟨?_,abM k7 fY.2 gk.2⟩;unfold dW;rw[au k7];refine Ms λx hx=>?_<;>grind
      .simp only[lg,Mt,Mu,xj,Mv,dY]at hs ⊢;lia
    .have e1:parts c=1:=by lia
     have k7:c≠91:=λe=>by rw[e,iC (by lia)]at e1;lia
     rw[e1];refine⟨.cons ?_ h1,?_⟩
     .show Good (dW c [p])/\jL (dW c [p]) (1+[n].sum);have es:1+[n].sum=1+n:=by simp
      rw[es];refine⟨?_,abL k7 fY.2⟩;unfold dW;rw[au k7];exact Ms λx hx=>by grind
     .simp only[lg,Mt,Mu,xj,Mv,dY]at hs ⊢;lia
  .have e0:parts c=0:=by lia
   have k7:c≠91:=λe=>by rw[e,iC (by lia)]at e0;lia
   rw[e0];refine⟨.cons ?_ h,?_⟩
   .show Good (dW c [])/\jL (dW c []) (1+0);unfold dW;rw[au k7];refine⟨Ms (λx hx=>nomatch hx),?_⟩;have jf:=Az c [];unfold jL;grind
   .simp only[lg,Mt,Mu,xj,Mv,dY]at hs ⊢;lia
def aiK (s:nc r)(hl:r.length<=400)(h:p∈cJ dW r []):Good p/\p.size+2<=4^400/\p.dy+2<=4^400:=by
 obtain⟨⟨e,q⟩,hs⟩:=Wb r s;obtain⟨i,hi⟩:=lX h
 have dA:i<(cJ lg r []).length:=by grind
 have hw:=cc dA;obtain⟨g,b1,b2⟩:=q i p _ hi hw
 have:(cJ lg r [])[i]<=400:=by have:=VY (Wd dA);lia
 have mono:(4:Nat)^(cJ lg r [])[i]<=4^400:=zr (by decide) this;grind
def We (K:aM):Sp:=λvs H Q _=>e_2 λ(a:J)(f:bo)=>vs=[.ref a]/\aC K H a (aA (enc f))/\Wf f/\xi f=aH/\(enc f).length<=400/\
 ∀(H':Hp)(v:V),aw H H'->vf H' v (if 3000<(Ce f).1 then N else B (enc (xk f)))->Q v H'
def Wg:bZ ["signs","pieces","sign","found","part"] ["signs"] (bb Ft):=by left
def aiL (TC:BY K eA)(F:bG K "reduced" "reduced" Ft f fd)(T:Txt K mg)(Mw:c_ "behind" 3 ["piece","told"] (V5 eA))(Mx:c_ "joined_reducing" 3 ["sign","found"] (VZ eA))(j8:c_ "parts" 2 ["sign"] (xb)):b_ 4 f fd ["signs"] (We K):=by
 rcases F,Wg with⟨a,f,rfl,hS,hw,eY,hl,k⟩;refine⟨_,(az (rG 1 nd (bU aq)) (az (eZ dR O (JH (by rfl) T.FE (af (pv 0) aq)) (bX (i:=2) nd O (bM O)) (az (ED (i:=3) O nd O O (EF O O O O) (rh (by rfl) T.rH (af (b7 j8 hr (by rfl) (af (pv 2) aq)) aq)) (jS (own:=[("part",4)]) (by show jn ["signs","pieces","sign","found","part"] (bb Ft) _ _=L;decide+kernel)) (λ_ _ _ _ _=>(bX (i:=4) nd O (bM O))) (λ_ _ _ _ _=>nU) (λ_ _ _ _ _=>(VC (K:=K) O dJ qj rN rC (pv 1)))) (aE (bc (bA cy (pv 2) (aT T.w9) (bY _)) (aE (dF (e9 dJ ic iF iE (pv 1) (af (b7 Mw hr (by rfl) (af (cG cP (pv 3) aZ (λ_ _=>rfl)) (af (cG cP (pv 3) aZ (λ_ _=>rfl)) aq))) aq)))) (aE (dF (e9 dJ ic iF iE (pv 1) (af (b7 Mx hr (by rfl) (af (pv 2) (af (pv 3) aq))) aq)))))))) (aE (aW (aQ (rA dJ qj rN rC (pv 1)) O))))),?_⟩;refine⟨by simp,λD hD=>?_⟩;have sf:=(L9 hw).1;refine⟨a,aA (enc f),O,(bp hD).seq hS,jr (n:=(aA (enc f)).length) (λi σ H'=>e_5 λv1 v2 v3 ps Hb=>σ=[B (.ref a),B (.ref D),v1,v2,v3]/\aw H Hb/\aw Hb H'/\Hb D=N/\H' D=B (.Z (refs (Wh ps)))/\lb eA Hb ps (cJ dW ((enc f).drop ((enc f).length-i)) [])) ⟨N,N,N,[],H,O,aw.refl H,bp hD,hD,ah,?_⟩ ?_ ?_ ?_ ?_⟩
 .rw[BC,Me];exact⟨O,λi p c e=>by simp at e⟩
 .rintro i σ H' hi ⟨v1,v2,v3,ps,Hb,rfl,s0,s1,_,_,h1⟩;exact⟨hi,_,_,(s0.trans s1).seq hS,cc (by cutsat)⟩
 .rintro σ H' _;exact aX _
 .rintro i x σ H' gJ hi ⟨v1,v2,v3,ps,Hb,rfl,s0,s1,F8,h1,hP⟩ ⟨rfl,hy⟩;rw[bP]at hi;obtain⟨c,rfl,hd⟩:=Ma hi (hy _ ((s0.trans s1).seq hS));have qx:=F1 ((enc f).length-(i+1)) sf;rw[hd]at qx;have B7:=B5 dW ((enc f).drop ((enc f).length-i));have Mq:=Mn ((enc f).drop ((enc f).length-i));have all:=λp=>aiK (r:=(enc f).drop ((enc f).length-i)) qx.2 (by rw[ve];cutsat) (p:=p);rw[ve]at Mq;have en:cJ dW ((enc f).drop ((enc f).length-(i+1))) []=dW c ((cJ dW ((enc f).drop ((enc f).length-i)) []).take (parts c))::(cJ dW ((enc f).drop ((enc f).length-i)) []).drop (parts c):=by rw[hd];rfl
  generalize cJ dW ((enc f).drop ((enc f).length-i)) []=E' at hP B7 en all;have Cc:=hP.len;refine⟨c,O,λH2 s2=>⟨(parts c:Nat),O,by cutsat,by have:=B6 c;cutsat,?_⟩⟩;have h2:=s2 _ _ h1;have t2:aw Hb H2:=s1.trans s2;intro G hG;have B':=t2.free hG;have DG:D≠G:=aK h2 hG
  refine qv (n:=parts c) (λj H'=>aw Hb H'/\H' G=B (.Z (refs (ps.take j)))/\H' D=B (.Z (refs (ps.drop j).reverse)))
   ⟨aS t2 B',ah,(aa DG).trans h2⟩ ?_ ?_ ?_ ?_
  .intro j H' hj _;exact(show j<qy _ by rw[ij];exact hj)
  .intro H' _;exact(show qy _<=_ by rw[ij];exact aX _)
  .rintro j x H3 H4 hj ⟨s3,h3,iH⟩ ⟨rfl,rfl⟩;have gu:j<ps.length:=by have:=qx.1;cutsat
   have hx:ps[j]?=B ps[j]:=cc gu;refine⟨O,?_⟩;refine oa ?_;refine⟨.inl ⟨O,_,aC.of iH⟩,D,_,_,O,O,iH,(by rw[la];exact rS (Mc hx)),?_⟩;refine⟨_,(aa (aP DG)).trans h3,by rw[la,eF];exact cY (by cutsat),aS (aS s3 F8) B',?_,?_⟩
   .rw[ah,oe,take_snoc hx]
   .rw[aa DG,ah,Mr,Mb]
  .rintro H3 ⟨s3,h3,iH⟩;have hle:(refs (ps.drop (parts c)).reverse).length<aL:=by rw[la,tR,ve];exact cY (by cutsat)
   have step:∀(H5:Hp)(p:J),aw H3 H5->zm eA H3 H5 p (dW c (E'.take (parts c)))->∃dG ir,aw H ir/\aw ir (M H5 D (.Z (refs (ps.drop (parts c)).reverse++[.ref p])))/\ir D=N/\M H5 D (.Z (refs (ps.drop (parts c)).reverse++[.ref p])) D=B (.Z (refs (Wh dG)))/\lb eA ir dG (cJ dW ((enc f).drop ((enc f).length-(i+1))) []):=λH5 p s5 hp=>by
    refine⟨p::ps.drop (parts c),del H5 D,Ca (s0.trans (s3.trans s5)) hD,aiC,rQ,?_,?_⟩
    .rw[ah,oe,qz]
    .rw[en];exact .cons (hp.at_ iH) ((hP.drop _).same (Ca (s3.trans s5) F8))
   have zt:lb eA H3 (ps.take (parts c)) (E'.take (parts c)):=(hP.take _).same s3;refine⟨O,_,O,?_⟩;by_cases k7:c=91
   .have p2:parts c=2:=iC (by cutsat);rw[p2]at zt h3;have l2:2<=E'.length:=by have:=qx.1;cutsat
    match ps,E',Cc,l2,zt,all,h3,iH,hle,step with
    |[],_,l,l2,_,_,_,_,_,_=>exact bT l (by simp;cutsat)
    |[_],_,l,l2,_,_,_,_,_,_=>exact bT l (by simp;cutsat)
    |_::_::_,[],l,l2,_,_,_,_,_,_=>simp at l2
    |_::_::_,[_],l,l2,_,_,_,_,_,_=>simp at l2
    |q1::q2::ps,c1::c2::E',l,l2,zt,all,h3,iH,hle,step=>
     obtain⟨g1,a1,b1⟩:=all c1 (by simp);obtain⟨g2,a2,b2⟩:=all c2 (by simp);refine dC (by cutsat) ⟨.inl ⟨O,_,aC.of iH⟩,G,_,1,_,O,O,aC.of h3,O,G,_,0,_,O,O,aC.of h3,O,q2,q1,c2,c1,O,zt.at_ 1 q2 c2 O O,zt.at_ 0 q1 c1 O O,g2,g1,b2,a1,b1,λH5 p s5 hp=>?_⟩;refine⟨D,_,_,O,O,s5 _ _ iH,hle,?_⟩
     have st:zm eA H3 H5 p (dW c [c1,c2]):=by unfold dW;rw[aD k7];exact hp
     obtain⟨dG,ir,r⟩:=step H5 p s5 (by rw[p2];exact st);exact⟨_,_,_,dG,ir,O,r⟩
   .refine cX (by cutsat) ⟨.inl ⟨O,_,aC.of iH⟩,c,G,_,_,O,h3,zt,by rw[eF];have:=B6 c;cutsat,λp hp=>(all p (Wi hp)).1,λH5 p s5 hp=>?_⟩;refine⟨D,_,_,O,O,s5 _ _ iH,hle,?_⟩;obtain⟨dG,ir,r⟩:=step H5 p s5 (by unfold dW;grobner);exact⟨_,_,_,dG,ir,O,r⟩
 .rintro σ H' ⟨v1,v2,v3,ps,Hb,rfl,s0,s1,F8,h1,hP⟩;rw[bP,yT,F2]at hP;have e:=mw dW [] f hw [];rw[fV]at e;rw[e]at hP;have is:=pieces f hw eY;match ps,hP,h1 with
  |[],hP,_=>exact bT hP.len (by simp[cJ])
  |_::_::_,hP,_=>exact bT hP.len (by simp[cJ])
  |[q],hP,h1=>obtain⟨dx,v,a1,a2⟩:=hP.at_ 0 q _ O rfl;have s2:aw Hb (M H' D (.Z (refs [q].reverse).dropLast)):=aS s1 F8;refine⟨.inl ⟨O,_,aC.of h1⟩,D,_,_,O,O,h1,O,q,eA,dx,_,_,O,s2 _ _ a1,TC.cl,TC.lW,FV _ _ _,k _ _ (s0.trans s2) ?_⟩;rw[<-is.bJ];exact a2.same s2
end WK
namespace WK
open PySem PySem.Spec PyProof.Rows L2
def tX (a b:Nat):sS ((a:Nat):Int) ((b:Nat):Int)=((a&&&b:Nat):Int):=by rw[bitAnd_pp (by lia) (by lia),ij,ij]
def qB (a b:Nat):sU ((a:Nat):Int) ((b:Nat):Int)=((a|||b:Nat):Int):=by unfold sU;rw[bitAnd_nn (by unfold AV;lia) (by unfold AV;lia),bitNot_bitNot,bitNot_bitNot,bitNot_bitNot,ij,ij]
def Wj (a b:Nat):(a|||b)+(a&&&b)=a+b:=by have h:=bitOr_and ((a:Nat):Int) ((b:Nat):Int);rw[qB,tX]at h;lia
def Wl (a v:Nat):oC a v+(a&&&v)=a:=by
 have h:=Wj (oC a v) (a&&&v)
 have e1:oC a v|||(a&&&v)=a:=nF λi=>by rw[rZ,Ao,mn];rfl'
 have e2:oC a v&&&(a&&&v)=0:=nF λi=>by rw[mn,Ao,mn,Cf];rfl'
 lia
def My (a v:Nat):sS ((a:Nat):Int) (AV ((v:Nat):Int))=((oC a v:Nat):Int):=by rw[bitAnd_not,tX];have:=Wl a v;lia
def aiM (a b:Nat):IB ((a:Nat):Int) ((b:Nat):Int)=((a^^^b:Nat):Int):=by
 unfold IB;rw[qB,tX];have h:=Wj (a^^^b) (a&&&b)
 have e1:(a^^^b)|||(a&&&b)=a|||b:=nF λi=>by grobner
 grobner
def F9 (x k:Nat):decide (V.int (sS (((x:Nat):Int)/2^((k:Nat):Int).toNat) 1)=V.int 1)=x.testBit k:=by rw[bitAnd_m1,ij,Wm];rfl'
def aiN (x k:Nat):decide (V.int (sS (((x:Nat):Int)/2^((k:Nat):Int).toNat) 1)=V.int 0)=!x.testBit k:=by rw[bitAnd_m1,ij,Wm];rfl'
def vj (k:Nat):(1:Int)*2^((k:Nat):Int).toNat=((2^k:Nat):Int):=by simp
def zu (h:k<=1000):QK 1 ((k:Nat):Int):=⟨by lia,by lia,by decide⟩
def aiO (o k:Nat):o&&&2^k=if o.testBit k=L then 2^k else 0:=nF λi=>by grind
def aiP (o k:Nat):(!decide (V.int (sS ((o:Nat):Int) ((2^k:Nat):Int))=V.int 0))=o.testBit k:=by rw[tX,aiO];all_goals simp
def aiQ (s o v:Nat):decide (V.int (sS (sS ((s:Nat):Int) ((o:Nat):Int)) (AV ((v:Nat):Int)))=V.int 0)=subB (s&&&o) v:=by rw[tX,My];unfold subB;have h:=Wl (s&&&o) v;rfl'
def Cg (p:Nat->Bool)(k:Nat):iI p (k+1)=if p k=L then iI p k|||2^k else iI p k:=by
 refine nF λj=>?_;rw[iJ];by_cases h:p k=L
 .rw[aD h,rZ,iJ,Wn];rfl'
 .rw[au h,iJ];rfl'
open Vbtaag (Form Link State1)
noncomputable def cQ (ss:List State1):List (Key×V):=ss.map λs=>(.inl (s.id:Int),.int (s.mask:Int))
noncomputable def fc (l:cD):List Key:=[.inl (l.a:Int),.inl (l.u:Int),.inl (l.v:Int)]
noncomputable def bw (ls:List cD):List (List Key×V):=ls.map λl=>(fc l,.bl L)
def jE (ss:List State1):(cQ ss).length=ss.length:=dj _
def lh (ls:List cD):(bw ls).length=ls.length:=dj _
def aiR (ss:List State1)(i:Nat):(cQ ss)[i]?=(ss[i]?).map λs=>(.inl (s.id:Int),.int (s.mask:Int)):=ig
def aiS (ls:List cD)(i:Nat):(bw ls)[i]?=(ls[i]?).map λl=>(fc l,.bl L):=ig
def Ga {ss:List State1}{i:Nat}{k:Key}(h:(cQ ss)[i]?=B (k,v)):∃s,ss[i]?=B s/\k=.inl (s.id:Int)/\v=.int (s.mask:Int):=by rw[aiR]at h;rfl'
def zv {ls:List cD}{i:Nat}{k:List Key}(h:(bw ls)[i]?=B (k,v)):∃l,ls[i]?=B l/\k=fc l/\v=.bl true:=by rw[aiS]at h;rfl'
def unlock (s:aw (M H d (.bF o u)) H')(h:H d=B u):aw H (M H' d u):=λb v e=>by
 by_cases z:b=d
 .rw[z]at e ⊢;rw[ah,<-e,h]
 .rw[aa z];exact s b v ((aa z).trans e)
def cR {α:Type}{l:List α}{i:Nat}{x:α}(h:l[i]?=B x):i<l.length:=by grind
def zw (ss:List State1)(i:Nat):Nat:=((ss[i]?).map λs=>s.mask).getD 0
def Wo:Sp:=λvs H Q _=>e_3 λ(d:J)(ss:List State1)(k:Nat)=>vs=[.ref d,.int (k:Nat)]/\H d=B (.dK (cQ ss))/\ss.length<=16/\∀H',aw H H'->Q (.int ((iI (λi=>(zw ss i).testBit k) ss.length:Nat):Int)) H'
def Mz (K:aM):Sp:=λvs H Q _=>e_4 λ(a:J)(row:List Nat)(v o:Nat)=>vs=[.ref a,.int (v:Nat),.int (o:Nat)]/\aC K H a (aA row)/\row.length<=16/\∀H',aw H H'->Q (.int ((gU (λi=>row.getD i 0) v o row.length:Nat):Int)) H'
def Wr (K:aM):Sp:=λvs H Q _=>e_4 λ(a:J)(row:List Nat)(v o:Nat)=>vs=[.ref a,.int (v:Nat),.int (o:Nat)]/\aC K H a (aA row)/\row.length<=16/\∀H',aw H H'->Q (.int ((wc (λi=>row.getD i 0) v o row.length:Nat):Int)) H'
def Ws (C:J):Sp:=λvs H Q _=>e_4 λ(p dx:J)(x y:V)=>vs=[.ref p,x,y]/\H p=B (.ins C dx [])/\Q .bB (M H p (.ins C dx (tL x y .bB)))
def Wu (C:J):Sp:=λvs H Q _=>e_4 λ(p dx:J)(x y:V)=>vs=[.ref p,x,y]/\H p=B (.ins C dx [])/\Q .bB (M H p (.ins C dx (FQ x y)))
def Wv:bZ ["masks","atom","found","place","mask"] ["masks","atom"] (bb Ki):=by left
def aiT (F:bG K "states_with" "states_with" Ki f fd)(T:Txt K mg):b_ 1 f fd ["masks","atom"] (Wo):=by
 rcases F,Wv with⟨d,ss,k,rfl,hd,hl,kk⟩;refine⟨_,(az (bz 2 nd aZ) (az (uW (eZ dR O (ag7 (by rfl) T.tJ (pv 0)) (jP O (df (bX (i:=3) nd O (bM O)) (df (bX (i:=4) nd O (bM O)) jx))) (aE (bc (bA cy (b5 mF (b5 AS (pv 4) (pv 1)) aZ) aZ (bY _)) (aE (bz 2 nd (b5 sT (pv 2) (b5 yo aZ (pv 3))))) bC)))) (aE (aW (pv 2))))),?_⟩;refine⟨d,_,hd,trivial,λod=>⟨d,od,_,O,ah,?_⟩⟩
 refine jr (n:=(cQ ss).length) (λi σ H'=>∃v1 v2,σ=[B (.ref d),B (.int (k:Nat)),B (.int ((iI (λi=>(zw ss i).testBit k) i:Nat):Int)),v1,v2]/\aw (M H d (.bF od (.dK (cQ ss)))) H')
  ⟨N,N,O,aw.refl _⟩ (λi σ H' hi ⟨_,_,_,s1⟩=>⟨s1 _ _ ah,hi⟩) (λσ H' ⟨_,_,_,s1⟩=>⟨s1 _ _ ah,aX _⟩) ?_ ?_
 .rintro i x σ H' gJ hi ⟨v1,v2,rfl,s1⟩ ⟨T',kx,y,rfl,hT,rfl,hk⟩;obtain⟨st,eY,rfl,rfl⟩:=Ga hk;have dA:=cR eY;refine⟨T',_,O,cW.of ah,O,_,_,O,_,_,O,O,?_⟩;refine⟨_,_,O,O,by lia,_,_,O,O,O,_,O,?_⟩;have em:zw ss i=st.mask:=by unfold zw;rw[eY];rfl
  rw[F9];have s2:=aS (p:=T') (o:=.tup [.int (i:Nat),.int (st.mask:Int)]) s1 (s1.free hT);cases hb:st.mask.testBit k with
  |true=>refine bO ⟨_,_,O,O,zu (by lia),_,_,O,O,B (.int (i:Nat)),B (.int (st.mask:Int)),?_,s2⟩;rw[Cg,aD (by grind),<-qB,<-vj];rfl
  |false=>refine bN ⟨B (.int (i:Nat)),B (.int (st.mask:Int)),?_,s2⟩;rw[Cg,au (by grind)];rfl
 .rintro σ H' ⟨v1,v2,rfl,s1⟩;refine⟨s1 _ _ ah,?_⟩;rw[jE];exact kk _ (unlock s1 hd)
def Ww:bZ ["possible","value","only","found","place","seen","bit"] ["possible","value","only"] (bb Kl):=by left
def aiU (F:bG K "knowing" "knowing" Kl f fd)(T:Txt K mg):b_ 1 f fd ["possible","value","only"] (Mz K):=by
 rcases F,Ww with⟨a,row,v,o,rfl,ha,hl,kk⟩;refine⟨_,(az (bz 3 nd aZ) (az (eZ dR O (wW (by rfl) T.tJ (af (pv 0) aq)) (jP O (df (bX (i:=4) nd O (bM O)) (df (bX (i:=5) nd O (bM O)) jx))) (az (bz 6 nd (b5 yo aZ (pv 4))) (aE (bc (PW.pt (qa (bA AW (b5 mF (pv 2) (pv 6)) aZ (bY _)) (p9 (bA cy (b5 mF (b5 mF (pv 5) (pv 2)) (uJ IC (pv 1))) aZ (bY _))))) (aE (bz 3 nd (b5 sT (pv 3) (pv 6)))) bC)))) (aE (aW (pv 3))))),?_⟩;refine⟨a,_,O,ha,?_⟩
 refine jr (n:=(aA row).length) (λi σ H'=>e_3 λv1 v2 v3=>σ=[B (.ref a),B (.int (v:Nat)),B (.int (o:Nat)),B (.int ((gU (λi=>row.getD i 0) v o i:Nat):Int)),v1,v2,v3]/\aw H H')
  ⟨N,N,N,O,aw.refl _⟩ (λi σ H' hi ⟨_,_,_,_,s1⟩=>⟨_,_,s1.seq ha,cc hi⟩) (λσ H' ⟨_,_,_,_,s1⟩=>⟨_,s1.seq ha,aX _⟩) ?_ ?_
 .rintro i x σ H' gJ hi ⟨v1,v2,v3,rfl,s1⟩ ⟨T',y,rfl,hT,rfl,hy⟩;obtain⟨r,rO,rfl⟩:=jB (hy _ (s1.seq ha));have dA:=cR rO;have s2:=aS (p:=T') (o:=.tup [.int (i:Nat),.int (r:Nat)]) s1 (s1.free hT);refine⟨T',_,O,cW.of ah,O,_,_,O,_,_,O,O,?_⟩;refine⟨_,_,O,O,zu (by lia),?_⟩;refine⟨_,_,O,O,O,_,O,?_⟩;rw[vj,aiP];have er:row.getD i 0=r:=by grind
  have step:gU (λi=>row.getD i 0) v o (i+1)=if(o.testBit i&&subB (r&&&o) v)=L then gU (λi=>row.getD i 0) v o i|||2^i else gU (λi=>row.getD i 0) v o i:=by unfold gU;rw[Cg];grind
  cases hb:o.testBit i with
  |false=>rw[hb,ye,au eN]at step;refine bN ?_;refine bN ⟨B (.int (i:Nat)),B (.int (r:Nat)),B (.int (2^i:Nat)),?_,s2⟩;rw[step];rfl
  |true=>
   rw[hb,gc]at step;refine bO ⟨_,_,O,O,_,O,_,_,O,O,O,_,O,?_⟩;rw[aiQ];cases hs:subB (r&&&o) v with
   |true=>rw[hs,aD rfl]at step;refine bO ⟨_,_,O,O,B (.int (i:Nat)),B (.int (r:Nat)),B (.int (1*2^((i:Nat):Int).toNat)),?_,s2⟩;rw[step,<-qB,<-vj];rfl
   |false=>rw[hs,au eN]at step;refine bN ⟨B (.int (i:Nat)),B (.int (r:Nat)),B (.int (2^i:Nat)),?_,s2⟩;rw[step];rfl
 .rintro σ H' ⟨v1,v2,v3,rfl,s1⟩;refine ?_;rw[bP];exact kk _ s1
def Wx:bZ ["anyone","value","only","found","fewer"] ["anyone","value","only"] (bb Km):=by left
def aiV (F:bG K "knowing_commonly" "knowing_commonly" Km f fd)(T:Txt K mg)(xl:c_ "knowing" 1 ["possible","value","only"] (Mz K)):b_ 2 f fd ["anyone","value","only"] (Wr K):=by
 rcases F,Wx with⟨a,row,v,o,rfl,ha,hl,kk⟩;refine⟨_,(az (bz 3 nd (pv 2)) (aE (uF dR (lL nN) (az (bz 4 nd (b7 xl hr (by rfl) (af (pv 0) (af (b5 mF (pv 1) (pv 3)) (af (pv 2) aq))))) (az (bc (bA cy (pv 4) (pv 3) (bY _)) (aE (aW (pv 3))) bC) (aE (bz 3 nd (pv 4)))))))),?_⟩;refine ?_;refine⟨λm σ H'=>∃v1 Fd,σ=[B (.ref a),B (.int (v:Nat)),B (.int (o:Nat)),B (.int ((Fd:Nat):Int)),v1]/\m=Fd/\aw H H'/\uo (λi=>row.getD i 0) v o row.length Fd/\fI (λi=>row.getD i 0) v o row.length Fd Fd=wc (λi=>row.getD i 0) v o row.length,⟨o,N,o,O,O,aw.refl _,P4,O⟩,?_⟩;rintro m σ H' ⟨v1,Fd,rfl,rfl,s1,hF,he⟩;refine⟨_,O,?_⟩;refine bO ⟨λσ' gJ=>∃m',m'<m/\∃v1 Fd,σ'=[B (.ref a),B (.int (v:Nat)),B (.int (o:Nat)),B (.int ((Fd:Nat):Int)),v1]/\m'=Fd/\aw H gJ/\uo (λi=>row.getD i 0) v o row.length Fd/\fI (λi=>row.getD i 0) v o row.length Fd Fd=wc (λi=>row.getD i 0) v o row.length,λ_ _ z=>z,?_⟩;refine⟨_,_,O,O,a,row,v&&&m,o,by rw[<-tX];rfl,s1.seq ha,hl,λH2 s2=>?_⟩;refine⟨O,_,O,?_⟩;by_cases hc:gE (λi=>row.getD i 0) v o row.length m=m
 .have D1:gU (λi=>row.getD i 0) (v&&&m) o row.length=m:=hc;refine dC (by rw[D1]) ?_;rw[abF hc]at he;rw[he];exact kk _ (s1.trans s2)
 .have D1:¬gU (λi=>row.getD i 0) (v&&&m) o row.length=m:=hc;obtain⟨e1,e2⟩:=abG hF hc;refine cX (by lia) ⟨gE (λi=>row.getD i 0) v o row.length m,e2,_,_,O,O,s1.trans s2,Ax hF,e1.trans he⟩
def Wy:bZ ["self","sign","only"] ["self","sign","only"] (bb KW):=by left
def aiW (TC:FN K cZ)(F:bG K "__init__" "Pending.__init__" KW f fd)(T:Txt K mg):b_ 1 f fd ["self","sign","only"] (Ws cZ):=by rcases F,Wy with⟨p,dx,x,y,rfl,hp,k⟩;refine⟨_,(az (dk (pv 0) (pv 1) O) (az (dk (pv 0) (pv 2) O) (aE (dk (pv 0) sN O)))),?_⟩;refine⟨p,cZ,dx,_,O,hp,TC.cl,TC.rK,(by simp),?_⟩;refine⟨p,cZ,dx,_,O,ah,TC.cl,TC.mY,(by show 1<1000;decide),?_⟩;refine⟨p,cZ,dx,_,O,ah,TC.cl,TC.zc,(by show 2<1000;decide),?_⟩;rw[mz,mz];exact k
def Wz:bZ ["self","agent","place"] ["self","agent","place"] (bb K3):=by left
def aiX (TC:LI K kF)(F:bG K "__init__" "Lone.__init__" K3 f fd)(T:Txt K mg):b_ 1 f fd ["self","agent","place"] (Wu kF):=by rcases F,Wz with⟨p,dx,x,y,rfl,hp,k⟩;refine⟨_,(az (dk (pv 0) (pv 1) O) (aE (dk (pv 0) (pv 2) O))),?_⟩;refine⟨p,kF,dx,_,O,hp,TC.cl,TC.BU,(by simp),?_⟩;refine⟨p,kF,dx,_,O,ah,TC.cl,TC.LJ,(by show 1<1000;decide),?_⟩;rw[mz];exact k
end WK
namespace WK
open PySem PySem.Spec PyProof.Rows L2
open Vbtaag (Form Link State1 ids maskOf)
noncomputable def eK (is:List Nat)(ls:List cD)(q:cD->Bool)(i:Nat):Nat:=iI (λj=>ls.any λl=>q l&&(l.u==is.getD i 0&&l.v==is.getD j 0)) is.length
noncomputable def gn (is:List Nat)(ls:List cD)(q:cD->Bool):List Nat:=(ez is.length).map (eK is ls q)
def rT (is:List Nat)(ls:List cD)(q:cD->Bool):(gn is ls q).length=is.length:=by simp[gn]
def oV (h:i<is.length):(gn is ls q)[i]?=B (eK is ls q i):=by unfold gn;grind
theorem MB:∀{k:Nat},(∀j,j<k->p j=aH)->iI p k=0
 |0,_=>rfl
 |k+1,h=>by rw[Cg,h k (rY _),au eN];exact MB λj hj=>h j (by lia)
def WA (is:List Nat)(q:cD->Bool):gn is [] q=iR is.length 0:=by
 refine yV λi=>?_;rcases nh i is.length with h|h
 .rw[oV h,List.getElem?_replicate,aD h];exact cb B (MB λj _=>rfl)
 .rw[yO (by rw[rT];exact h),yO (by grind)]
def getD_at {is:List Nat}{i x:Nat}(h:is[i]?=B x):is.getD i 0=x:=by grind
def zx {is:List Nat}(hn:is.Nodup){i j x:Nat}(h1:is[i]?=B x)(h2:is[j]?=B x):i=j:=by have a:=cR h1;have b:=cR h2;rw[cc a]at h1;rw[cc b]at h2;exact(yj hn).mp (iO (h1.trans h2.symm))
def getD_eq {is:List Nat}(hn:is.Nodup){i x u:Nat}(hi:i<is.length)(hx:is[x]?=B u):(u==is.getD i 0)=decide (i=x):=by
 have e:=cc hi;rw[getD_at e];by_cases h:i=x
 .grind
 .rw[eG h,beq_eq_false_iff_ne];intro z;subst z;exact h (zx hn e hx)
def aiY {is:List Nat}(hn:is.Nodup){ls:List cD}{q:cD->Bool}{x y i:Nat}(hx:is[x]?=B l.u)(hy:is[y]?=B l.v)(hi:i<is.length):eK is (ls++[l]) q i=if q l=L/\i=x then eK is ls q i|||2^y else eK is ls q i:=by
 have EE:=cR hy;refine nF λj=>?_
 have e1:∀j,j<is.length->((ls++[l]).any λl=>q l&&(l.u==is.getD i 0&&l.v==is.getD j 0))=((ls.any λl=>q l&&(l.u==is.getD i 0&&l.v==is.getD j 0))||(q l&&(decide (i=x)&&decide (j=y)))):=λj hj=>by rw[List.any_append,rq,List.any_nil,DA,getD_eq hn hi hx,getD_eq hn hj hy]
 have bit:(eK is (ls++[l]) q i).testBit j=(decide (j<is.length)&&((ls.any λl=>q l&&(l.u==is.getD i 0&&l.v==is.getD j 0))||(q l&&(decide (i=x)&&decide (j=y))))):=by unfold eK;rw[iJ];rfl'
 rw[bit];by_cases h:q l=L/\i=x
 .rw[aD h,rZ,Wn,h.1,cw h.2,gc,gc];unfold eK;rw[iJ];rfl'
 .rw[au h]
  have:(q l&&(decide (i=x)&&decide (j=y)))=false:=by grind
  rw[this,DA];unfold eK;rw[iJ]
def aiZ (hn:is.Nodup)(hx:is[x]?=B l.u)(hy:is[y]?=B l.v):gn is (ls++[l]) q=if q l=L then(gn is ls q).set x (eK is ls q x|||2^y)else gn is ls q:=by
 refine yV λi=>?_;rcases nh i is.length with h|h
 .rw[oV h,aiY hn hx hy h];by_cases hq:q l=L
  .rw[aD hq];by_cases hi:i=x
   .subst hi;rw[aD ⟨hq,O⟩,Ik (by rw[rT];exact h)]
   .rw[au (λz=>hi z.2),D0 (λz=>hi z.symm),oV h]
  .rw[au hq,au (λz=>hq z.1),oV h]
 .rw[yO (by rw[rT];exact h)];symm;apply yO;split<;>simp only[Jt,rT]<;>exact h
noncomputable def oX (is:List Nat):List (Key×V):=(ez is.length).map λi=>(.inl ((is.getD i 0:Nat):Int),.int (i:Nat))
def ai0 (is:List Nat):(oX is).length=is.length:=by simp[oX]
def xm {κ:Type}[DecidableEq κ]{kvs:List (κ×V)}{k:κ}(h:∀p∈kvs,p.1≠k):cE kvs k=none:=by unfold cE;grind
def WC:oX (is++[x])=oX is++[(.inl ((x:Nat):Int),.int (is.length:Nat))]:=by
 unfold oX;rw[cK,tQ,MC,f9];congr 1
 .refine lj λi hi=>?_;grind
 all_goals simp
def WE {is:List Nat}(hn:is.Nodup){x u:Nat}(h:is[x]?=B u):cE (oX is) (.inl ((u:Nat):Int))=B (.int (x:Nat)):=by
 have key:∀n,n<=is.length->cE (oX (is.take n)) (.inl ((u:Nat):Int))=if x<n then B (.int (x:Nat))else none:=by
  intro n;induction n with
  |zero=>intro _;rfl
  |succ n ih=>
   intro hle;have e:=cc (show n<is.length by cutsat)
   have j9:cE (oX (is.take n)) (.inl ((is[n]:Nat):Int))=none:=xm λp hp=>by
    obtain⟨i,hi,rfl⟩:=cx.mp hp;have hi:i<(is.take n).length:=oG.mp hi;rw[eF]at hi;intro z;have z':(is.take n).getD i 0=is[n]:=by grobner
    rw[List.getD_eq_getElem?_getD,tV,aD (by cutsat),cc (by cutsat)]at z';have:=(yj hn).mp (show is[i]=is[n]from z');cutsat
   rw[take_snoc e,WC,Jx _ _ _ _ j9,eF];by_cases hx:x=n
   .grind
   .have ck:¬(cC ((u:Nat):Int):Key)=cC ((is[n]:Nat):Int):=λz=>by
     have z':u=is[n]:=by grobner
     rw[z']at h;exact hx (zx hn h e)
    all_goals grobner
 grobner
def ai1 {is:List Nat}{u:Nat}(h:u∉is):cE (oX is) (.inl ((u:Nat):Int))=none:=xm λp hp=>by
 obtain⟨i,hi,rfl⟩:=cx.mp hp;have hi:i<is.length:=oG.mp hi;intro z;have z':is.getD i 0=u:=by grind
 grind
abbrev Md:=Vbtaag.Model
structure fg (m:Md):Prop where
 nd:(ae m).Nodup
 cz:m.states.length<=16
 ends:∀l∈m.links,l.u∈ae m/\l.v∈ae m
 agents:∀l∈m.links,l.a<4
 iS:m.links.length<=200
noncomputable def gz (m:Md):Vw:=⟨(ae m).length,λk=>iI (λi=>(zw m.states i).testBit k) m.states.length,λa i=>eK (ae m) m.links (λl=>l.a==a) i,λi=>eK (ae m) m.links (λ_=>L) i⟩
def xn (hn:(ae m).Nodup){i:Nat}{s:State1}(h:m.states[i]?=B s):cF m s.id=s.mask:=by
 unfold cF
 have:m.states.find? (λx=>x.id==s.id)=B s:=by
  unfold ae at hn;generalize m.states=ss at h hn;induction ss generalizing i with
  |nil=>simp at h
  |cons a ss ih=>rfl'
 rw[this];rfl
def ai2 (h:fg m):HM m (gz m)where
 nd:=h.nd
 n:=rfl
 atoms:=λk _ i=>by
  show(iI _ _).testBit i=_;rw[iJ,gD];by_cases hi:i<m.states.length
  .rw[cw hi,gc,gc];have e:=cc hi
   have ea:at_ m i=(m.states[i]).id:=by unfold at_;refine getD_at ?_;unfold ae;grind
   rw[ea,xn h.nd e];unfold zw;rw[e];rfl
  rfl'
 see:=λa _ i j hi=>by show(eK _ _ _ i).testBit j=_;unfold eK;rw[iJ];rfl
 any:=λi j hi=>by show(eK _ _ _ i).testBit j=_;unfold eK;rw[iJ];rfl
structure Gb (C:J)(H:Hp)(p:J)(m:Md)(dx aR aY A Pp b6:J)(Rs:List J):Prop where
 obj:H p=B (.ins C dx (u6 (.ref aR) (.ref aY) (.int ((2^m.states.length-1:Nat):Int)) (.ref A) (.ref Pp) (.ref b6)))
 qC:H aR=B (.Z (aA (ae m)))
 b0:H aY=B (.Z (aA (m.states.map λs=>s.mask)))
 atoms:H A=B (.Z (aA ((ez 8).map (gz m).atoms)))
 possible:H Pp=B (.Z (refs Rs))
 four:Rs.length=4
 rows:∀(a:Nat)(R:J),Rs[a]?=B R->H R=B (.Z (aA (gn (ae m) m.links λl=>l.a==a)))
 MD:H b6=B (.Z (aA (gn (ae m) m.links λ_=>L)))
def Gb.same (s:aw H H')(h:Gb C H p m dx aR aY A Pp b6 Rs):Gb C H' p m dx aR aY A Pp b6 Rs:=
 ⟨s _ _ h.obj,s _ _ h.qC,s _ _ h.b0,s _ _ h.atoms,s _ _ h.possible,h.four,λa R e=>s _ _ (h.rows a R e),s _ _ h.MD⟩
def ll (C:J)(H:Hp)(p:J)(m:Md):Prop:=e_7 λdx aR aY A Pp b6 Rs=>Gb C H p m dx aR aY A Pp b6 Rs
def ll.same (s:aw H H')(h:ll C H p m):ll C H' p m:=by obtain⟨dx,aR,aY,A,Pp,b6,Rs,h⟩:=h;exact⟨dx,aR,aY,A,Pp,b6,Rs,h.same s⟩
def Ge (C:J):Sp:=λvs H Q _=>e_5 λ(p dx dm dl:J)(m:Md)=>vs=[.ref p,.ref dm,.ref dl]/\H p=B (.ins C dx [])/\H dm=B (.dK (cQ m.states))/\H dl=B (.dT (bw m.links))/\fg m/\
 ∀H',bQ [p] H H'->ll C H' p m->Q .bB H'
noncomputable def jX (H:Hp)(l:List J):Hp:=λb=>if b∈l then N else H b
def oY (h:b∉l):jX H l b=H b:=by unfold jX;rw[au h]
def Ci (h:b∈l):jX H l b=none:=by unfold jX;rw[aD h]
def ai3 (ss:List State1):(cQ ss).map (λkv=>kV kv.1)=aA (ss.map λs=>s.id):=by unfold cQ aA;rw[gw,gw];rfl
def ai4 (ss:List State1):(cQ ss).map (·.2)=aA (ss.map λs=>s.mask):=by unfold cQ aA;simp
def WG (n:Nat):(iR (n:Int).toNat [V.int 0]).flatten=aA (iR n 0):=by rw[ij];unfold aA;simp
def ME (h:j<n):aA (((ez n).take j).map g)++[V.int ((g j:Nat):Int)]=aA (((ez n).take (j+1)).map g):=by have e:(ez n)[j]?=B j:=zy h;rw[take_snoc e,f9,kC];rfl
def WH:bZ ["self","masks","links","atom","agent","places","place","number","start","end","bit"] ["self","masks","links"] (bb BO):=by left
def ai5 (TC:n9 K br)(F:bG K "__init__" "View.__init__" BO f fd)(T:Txt K mg)(MF:c_ "states_with" 1 ["masks","atom"] (Wo)):b_ 2 f fd ["self","masks","links"] (Ge br):=by
 rcases F,WH with⟨p,dx,dm,dl,m,rfl,hp,hm,hl,ok,k⟩;have hu:=kX hr;have cz:=ok.cz;have pm:dm≠p:=bE hm hp nofun;have pl:dl≠p:=bE hl hp nofun
 have s0:aw (del H p) H:=λb o e=>by
  by_cases z:b=p
  .rw[z,rQ]at e;cases e
  .rw[kD z]at e;exact e
 have z0:del H p p=none:=rQ;have m0:del H p dm=B (.dK (cQ m.states)):=(kD pm).trans hm;have l0:del H p dl=B (.dT (bw m.links)):=(kD pl).trans hl;replace k:∀H',aw (del H p) H'->ll br H' p m->Q .bB H':=λH' s'=>k H' λb o e hb=>s' b o ((kD (by grind)).trans e);generalize del H p=H0 at s0 z0 m0 l0 k;refine⟨_,(az (dk (pv 0) (En (agi O) (by rfl) T.Lv J0 (af (pv 1) aq)) O) (az (dk (pv 0) (agl O (by rfl) T.Lv (pv 1)) O) (az (dk (pv 0) (b5 AR (b5 yo aZ (eJ tF (by rfl) T.gP gQ (af (pv 1) aq))) aZ) O) (az (dk (pv 0) (lT O nd (rh (by rfl) T.rH (af (aT T.ATOMS) aq)) (jS (own:=[("atom",3)]) (by show jn ["self","masks","links","atom","agent","places","place","number","start","end","bit"] (bb BO) _ _=L;decide+kernel)) (λ_ _ _ _ _=>(bX (i:=3) nd O (bM O))) (λ_ _ _ _ _=>nU) (λ_ _ _ _ _=>(b7 MF hr (by rfl) (af (pv 1) (af (pv 3) aq))))) O) (az (dk (pv 0) (lT O nd (rh (by rfl) T.rH (af (aT T.AGENTS) aq)) (jS (own:=[("agent",4)]) (by show jn ["self","masks","links","atom","agent","places","place","number","start","end","bit"] (bb BO) _ _=L;decide+kernel)) (λ_ _ _ _ _=>(bX (i:=4) nd O (bM O))) (λ_ _ _ _ _=>nU) (λ_ _ _ _ _=>(b5 RD (bU (af aZ aq)) (eJ tF (by rfl) T.gP gQ (af (pv 1) aq))))) O) (az (dk (pv 0) (b5 RD (bU (af aZ aq)) (eJ tF (by rfl) T.gP gQ (af (pv 1) aq))) O) (az (bz 5 nd yK) (az (eZ dR O (wW (by rfl) T.tJ (af (aQ (pv 0) O) aq)) (jP O (df (bX (i:=6) nd O (bM O)) (df (bX (i:=7) nd O (bM O)) jx))) (aE (nX hu (pv 5) (pv 7) (pv 6) O))) (aE (uW (eZ dR O (uY (pv 2)) (jP O (df (bX (i:=4) nd O (bM O)) (df (bX (i:=8) nd O (bM O)) (df (bX (i:=9) nd O (bM O)) jx)))) (az (bz 10 nd (b5 yo aZ (lU hu (pv 5) (pv 9) (λ_ _=>rfl)))) (az (bz 6 nd (lU hu (pv 5) (pv 8) (λ_ _=>rfl))) (az (Iu (b5 sT (cG cP (cG cP (aQ (pv 0) O) (pv 4) (λ_ _=>rfl)) (pv 6) (λ_ _=>rfl)) (pv 10)) (Ir (cG cP (aQ (pv 0) O) (pv 4) (λ_ _=>rfl)) (pv 6) set_list)) (aE (Iu (b5 sT (cG cP (aQ (pv 0) O) (pv 6) (λ_ _=>rfl)) (pv 10)) (Ir (aQ (pv 0) O) (pv 6) set_list))))))))))))))))),?_⟩;refine⟨dm,_,O,s0 _ _ m0,λaR hN=>?_⟩;have hN0:=s0.free hN;have pN:p≠aR:=aK hp hN;refine⟨p,br,dx,_,O,(aa pN).trans hp,TC.cl,TC.xc,(by simp),?_⟩;rw[ai3];have s1:aw H0 (M (M H aR (.Z (aA (m.states.map λs=>s.id)))) p (.ins br dx (fN "numbers" (.ref aR) []))):=aS (aS s0 hN0) z0;have n1:M (M H aR (.Z (aA (m.states.map λs=>s.id)))) p (.ins br dx (fN "numbers" (.ref aR) [])) aR=B (.Z (aA (ae m))):=(aa (aP pN)).trans ah;have p1:M (M H aR (.Z (aA (m.states.map λs=>s.id)))) p (.ins br dx (fN "numbers" (.ref aR) [])) p=_:=ah;generalize M (M H aR (.Z (aA (m.states.map λs=>s.id)))) p (.ins br dx (fN "numbers" (.ref aR) []))=H1 at s1 n1 p1 ⊢;refine⟨dm,_,O,s1 _ _ m0,λaY hM=>?_⟩;have pM:p≠aY:=aK p1 hM;have NM:aR≠aY:=aK n1 hM;refine⟨p,br,dx,_,O,(aa pM).trans p1,TC.cl,TC.f7,(by show 1<1000;decide),?_⟩;rw[ai4];have s2:aw H0 (M (M H1 aY (.Z (aA (m.states.map λs=>s.mask)))) p (.ins br dx (fN "masks" (.ref aY) (fN "numbers" (.ref aR) [])))):=aS (aS s1 (s1.free hM)) z0;have n2:=(aa (H:=M H1 aY (.Z (aA (m.states.map λs=>s.mask)))) (o:=.ins br dx (fN "masks" (.ref aY) (fN "numbers" (.ref aR) []))) (aP pN)).trans ((aa (o:=.Z (aA (m.states.map λs=>s.mask))) NM).trans n1);have m2:=(aa (H:=M H1 aY (.Z (aA (m.states.map λs=>s.mask)))) (o:=.ins br dx (fN "masks" (.ref aY) (fN "numbers" (.ref aR) []))) (aP pM)).trans ah;have p2:M (M H1 aY (.Z (aA (m.states.map λs=>s.mask)))) p (.ins br dx (fN "masks" (.ref aY) (fN "numbers" (.ref aR) []))) p=_:=ah;generalize M (M H1 aY (.Z (aA (m.states.map λs=>s.mask)))) p (.ins br dx (fN "masks" (.ref aY) (fN "numbers" (.ref aR) [])))=H2 at s2 n2 m2 p2 ⊢;refine⟨dm,_,O,s2 _ _ m0,_,_,O,O,zu (by rw[jE];lia),_,_,O,O,p,br,dx,_,O,p2,TC.cl,TC.Vb,(by show 2<1000;decide),?_⟩
 have e3:V.int ((1:Int)*2^(((cQ m.states).length:Nat):Int).toNat-1)=V.int ((2^m.states.length-1:Nat):Int):=by rw[vj,jE];grind
 apply qA (G:=λσ H3=>σ=[B (.ref p),B (.ref dm),B (.ref dl),N,N,N,N,N,N,N,N]/\aw H0 H3/\H3 aR=B (.Z (aA (ae m)))/\H3 aY=B (.Z (aA (m.states.map λs=>s.mask)))/\H3 p=B (.ins br dx [("numbers",.ref aR),("masks",.ref aY),("all_states",.int ((2^m.states.length-1:Nat):Int))]))
 .intro rest;refine rest _ _ ⟨O,aS s2 z0,(aa (aP pN)).trans n2,(aa (aP pM)).trans m2,?_⟩;rw[ah,<-e3];rfl
 rintro σ H3 ⟨rfl,s3,n3,m3,p3⟩;refine⟨8,O,by decide,by decide,λA hA=>?_⟩;have hA0:=s3.free hA;have pA:p≠A:=aK p3 hA;have NA:aR≠A:=aK n3 hA;have MA:aY≠A:=aK m3 hA;refine qv (n:=8) (λj H'=>aw H3 H'/\H' A=B (.Z (aA (((ez 8).take j).map (gz m).atoms)))) ⟨bp hA,ah⟩ (λj H' hj _=>hj) (λH' _=>aX _) ?_ ?_
 .rintro j x H4 H5 hj ⟨s4,a4⟩ ⟨rfl,rfl⟩;refine⟨O,?_⟩;refine oa ?_;refine⟨dm,m.states,j,by simp,s4 _ _ (s3 _ _ m0),cz,λH6 s6=>?_⟩;refine⟨_,s6 _ _ a4,by rw[bP,dj,eF];exact cY (by lia),aS (s4.trans s6) hA,?_⟩;rw[ah];exact cb B (cb HO.Z (ME (g:=(gz m).atoms) hj))
 rintro H4 ⟨Gf,a4⟩;have s4:=s3.trans Gf;rw[yB (by simp)]at a4;refine⟨p,br,dx,_,O,Gf _ _ p3,TC.cl,TC.Vc,(by simp),?_⟩;apply qA (G:=λσ H3=>σ=[B (.ref p),B (.ref dm),B (.ref dl),N,N,N,N,N,N,N,N]/\aw H0 H3/\H3 aR=B (.Z (aA (ae m)))/\H3 aY=B (.Z (aA (m.states.map λs=>s.mask)))/\H3 A=B (.Z (aA ((ez 8).map (gz m).atoms)))/\H3 p=B (.ins br dx [("numbers",.ref aR),("masks",.ref aY),("all_states",.int ((2^m.states.length-1:Nat):Int)),("atoms",.ref A)]))
 .intro rest;exact rest _ _ ⟨O,aS s4 z0,(aa (aP pN)).trans (Gf _ _ n3),(aa (aP pM)).trans (Gf _ _ m3),(aa (aP pA)).trans a4,ah⟩
 rintro σ H5 ⟨rfl,s5,n5,m5,a5,p5⟩;refine⟨4,O,by decide,by decide,λG hG=>?_⟩;have pG:p≠G:=aK p5 hG;refine qv (n:=4) (λj H'=>∃Rs:List J,Rs.length=j/\Rs.Nodup/\aw H5 H'/\H' G=B (.Z (refs Rs))/\∀R∈Rs,H5 R=N/\R≠G/\H' R=B (.Z (aA (iR m.states.length 0)))) ⟨[],O,j5,bp hG,ah,λR z=>nomatch z⟩ (λj H' hj _=>hj) (λH' _=>aX _) ?_ ?_
 .rintro j x H6 H7 hj ⟨Rs,rl,rn,s6,g6,r6⟩ ⟨rfl,rfl⟩;refine⟨O,?_⟩;refine oa ?_;refine⟨a_1,λq hq=>?_⟩;have s7:aw H5 (M H7 q (.Z [.int 0])):=aS s6 (s6.free hq);refine⟨dm,_,O,s7 _ _ (s5 _ _ m0),q,_,_,O,O,ah,by lia,by rw[jE];lia,by rw[jE];exact jD (show 1*_<=_ by lia),λR hR=>?_⟩;rw[jE,WG];have hRq:q≠R:=aK ah hR;have Gg:H7 R=none:=(aa (aP hRq)).symm.trans hR;have GR:G≠R:=aK g6 Gg;have Gq:G≠q:=aK g6 hq;refine⟨_,(aa GR).trans ((aa Gq).trans g6),by rw[la,rl];exact cY (by lia),Rs++[R],by simp[rl],?_,aS (aS s7 (s7.free hR)) hG,by rw[ah,oe],λR' qD=>?_⟩
  .rw[Cj];refine⟨rn,by simp,λa ha b hb=>?_⟩;have:b=R:=by simpa using hb
   subst this;exact aK (r6 a ha).2.2 Gg
  .rcases eX.mp qD with z|z
   .obtain⟨b1,b2,b3⟩:=r6 R' z;have c1:R'≠R:=aK b3 Gg;have c2:R'≠q:=aK b3 hq;exact⟨b1,b2,(aa b2).trans ((aa c1).trans ((aa c2).trans b3))⟩
   .have:R'=R:=by simpa using z
    subst this;exact⟨s6.free Gg,aP GR,(aa (aP GR)).trans ah⟩
 rintro H6 ⟨Rs,rl,rn,Ck,g6,r6⟩;have s6:=s5.trans Ck;have rp:∀R∈Rs,R≠p:=λR hR=>aP (aK p5 (r6 R hR).1);refine⟨p,br,dx,_,O,Ck _ _ p5,TC.cl,TC.tK,(by simp),?_⟩;apply qA (G:=λσ H3=>σ=[B (.ref p),B (.ref dm),B (.ref dl),N,N,N,N,N,N,N,N]/\aw H0 H3/\H3 aR=B (.Z (aA (ae m)))/\H3 aY=B (.Z (aA (m.states.map λs=>s.mask)))/\H3 A=B (.Z (aA ((ez 8).map (gz m).atoms)))/\H3 G=B (.Z (refs Rs))/\(∀R∈Rs,H3 R=B (.Z (aA (iR m.states.length 0))))/\H3 p=B (.ins br dx [("numbers",.ref aR),("masks",.ref aY),("all_states",.int ((2^m.states.length-1:Nat):Int)),("atoms",.ref A),("possible",.ref G)]))
 .intro rest;exact rest _ _ ⟨O,aS s6 z0,(aa (aP pN)).trans (Ck _ _ n5),(aa (aP pM)).trans (Ck _ _ m5),(aa (aP pA)).trans (Ck _ _ a5),(aa (aP pG)).trans g6,λR hR=>(aa (rp R hR)).trans (r6 R hR).2.2,ah⟩
 have rc:∀R∈Rs,R≠aR/\R≠aY/\R≠A/\R≠G/\H0 R=none:=λR hR=>⟨aP (aK n5 (r6 R hR).1),aP (aK m5 (r6 R hR).1),aP (aK a5 (r6 R hR).1),(r6 R hR).2.1,s5.free (r6 R hR).1⟩;rintro σ H7 ⟨rfl,s7,n7,m7,a7,g7,r7,p7⟩;refine⟨a_1,λq hq=>?_⟩;have s8:aw H7 (M H7 q (.Z [.int 0])):=bp hq;refine⟨dm,_,O,s8 _ _ (s7 _ _ m0),q,_,_,O,O,ah,by lia,by rw[jE];lia,by rw[jE];exact jD (show 1*_<=_ by lia),λb6 hY=>?_⟩;rw[jE,WG];have tY:H7 b6=none:=(aa (aP (aK ah hY))).symm.trans hY;have s9:aw H7 (M (M H7 q (.Z [.int 0])) b6 (.Z (aA (iR m.states.length 0)))):=aS s8 tY;have pY:p≠b6:=aK p7 tY;refine⟨p,br,dx,_,O,s9 _ _ p7,TC.cl,TC.BQ,(by simp),?_⟩;apply qA (G:=λσ H3=>σ=[B (.ref p),B (.ref dm),B (.ref dl),N,N,N,N,N,N,N,N]/\aw H0 H3/\H3 aR=B (.Z (aA (ae m)))/\H3 aY=B (.Z (aA (m.states.map λs=>s.mask)))/\H3 A=B (.Z (aA ((ez 8).map (gz m).atoms)))/\H3 G=B (.Z (refs Rs))/\(∀R∈Rs,H3 R=B (.Z (aA (iR m.states.length 0))))/\H3 b6=B (.Z (aA (iR m.states.length 0)))/\H3 p=B (.ins br dx (u6 (.ref aR) (.ref aY) (.int ((2^m.states.length-1:Nat):Int)) (.ref A) (.ref G) (.ref b6))))
 .intro rest;exact rest _ _ ⟨O,aS (s7.trans s9) z0,(aa (aP pN)).trans (s9 _ _ n7),(aa (aP pM)).trans (s9 _ _ m7),(aa (aP pA)).trans (s9 _ _ a7),(aa (aP pG)).trans (s9 _ _ g7),λR hR=>(aa (rp R hR)).trans (s9 _ _ (r7 R hR)),(aa (aP pY)).trans ah,ah⟩
 have yc:b6∉Rs/\b6≠aR/\b6≠aY/\b6≠A/\b6≠G/\b6≠p/\H0 b6=none:=⟨(λz=>by rw[r7 b6 z]at tY;cases tY),aP (aK n7 tY),aP (aK m7 tY),aP (aK a7 tY),aP (aK g7 tY),aP pY,s7.free tY⟩;clear s9 s8;rintro σ H8 ⟨rfl,s8,n8,m8,a8,g8,r8,y8,p8⟩;intro D hD;have il:(ae m).length=m.states.length:=gD m;have cI:=ok.nd;have s9:aw H8 (M H8 D (.dK [])):=bp hD;refine⟨p,br,dx,_,_,O,s9 _ _ p8,TC.cl,TC.xc,za _ _ _ _ _ _,aR,_,O,aC.of (s9 _ _ n8),?_⟩
 refine jr (n:=(aA (ae m)).length) (λi σ H'=>∃v6 v7,σ=[B (.ref p),B (.ref dm),B (.ref dl),N,N,B (.ref D),v6,v7,N,N,N]/\aw H8 H'/\H' D=B (.dK (oX ((ae m).take i))))
  ⟨N,N,O,s9,ah⟩ (λi σ H' hi ⟨_,_,_,s,_⟩=>⟨_,_,aC.of (s _ _ n8),cc hi⟩) (λσ H' ⟨_,_,_,s,_⟩=>⟨_,aC.of (s _ _ n8),aX _⟩) ?_ ?_
 .rintro i x σ H9 H9' hi ⟨v6,v7,rfl,jm,Cm⟩ ⟨T',y,rfl,hT,rfl,hy⟩;obtain⟨u,fh,rfl⟩:=jB (hy _ (aC.of (jm _ _ n8)));have dA:=cR fh;have DT:D≠T':=aK Cm hT;refine⟨T',_,O,cW.of ah,O,_,_,O,_,_,O,O,?_⟩;refine⟨D,_,O,qo.k (k:=.inl ((u:Nat):Int)) ((aa DT).trans Cm) (by rw[ai0,eF];exact cY (by lia)),_,_,O,aS (aS jm (jm.free hT)) hD,?_⟩
  have j9:cE (oX ((ae m).take i)) (.inl ((u:Nat):Int))=none:=ai1 λz=>by obtain⟨j,hj⟩:=lX z;have gu:=cR hj;rw[eF]at gu;rw[tV,aD (by lia)]at hj;have:=zx cI hj fh;lia
  rw[ah,wL _ j9,take_snoc fh,WC,eF,MG (by lia)]
 rintro σ H9 ⟨v6,v7,rfl,jm,Cm⟩;rw[bP,eE]at Cm;have lH:H9 dl=B (.dT (bw m.links)):=jm _ _ (s8 _ _ l0);have Dp:D≠p:=aP (aK p8 hD);have DR:∀R∈Rs,R≠D:=λR hR=>aK (r8 R hR) hD;have DY:b6≠D:=aK y8 hD;have lR:∀R∈Rs,R≠dl:=λR hR z=>by grind
 have lY:b6≠dl:=λz=>by grind
 have ld:D≠dl:=λz=>by rw[z,s8 _ _ l0]at hD;cases hD
 have sB:aw H0 (jX H9 (b6::Rs)):=λb o e=>by
  rw[oY]
  .exact jm _ _ (s8 _ _ e)
  rfl'
 have nm:∀b,b≠b6->b∉Rs->b∉b6::Rs:=λb h1 h2 z=>by grind
 have pB:jX H9 (b6::Rs) p=_:=(oY (nm p (aP yc.2.2.2.2.2.1) λz=>rp p z O)).trans (jm _ _ p8);have nB:jX H9 (b6::Rs) aR=_:=(oY (nm aR (aP yc.2.1) λz=>(rc aR z).1 O)).trans (jm _ _ n8);have mB:jX H9 (b6::Rs) aY=_:=(oY (nm aY (aP yc.2.2.1) λz=>(rc aY z).2.1 O)).trans (jm _ _ m8);have aB:jX H9 (b6::Rs) A=_:=(oY (nm A (aP yc.2.2.2.1) λz=>(rc A z).2.2.1 O)).trans (jm _ _ a8);have gB:jX H9 (b6::Rs) G=_:=(oY (nm G (aP yc.2.2.2.2.1) λz=>(rc G z).2.2.2.1 O)).trans (jm _ _ g8);have dB:jX H9 (b6::Rs) D=_:=(oY (nm D (aP DY) λz=>DR D z O)).trans Cm;have lB:jX H9 (b6::Rs) dl=_:=(oY (nm dl (aP lY) λz=>lR dl z O)).trans lH;have fB:∀b∈b6::Rs,jX H9 (b6::Rs) b=none:=λb hb=>Ci hb
 have WI:aw (jX H9 (b6::Rs)) H9:=λb o e=>by
  by_cases z:b∈b6::Rs
  .rw[Ci z]at e;cases e
  .rw[oY z]at e;exact e
 generalize jX H9 (b6::Rs)=HB at sB pB nB mB aB gB dB lB fB WI;refine⟨dl,_,lH,trivial,λod=>⟨dl,od,O,.inr ⟨_,ah,?_⟩⟩⟩
 have fL:∀b∈b6::Rs,b≠dl:=λb hb=>by grind
 have sL:∀{b:J}{o:HO},HB b=B o->b≠dl->M HB dl (.bF od (.dT (bw m.links))) b=B o:=λe h=>(aa h).trans e;have WJ:p≠dl:=bE pB lB nofun;have nGl:G≠dl:=bE gB lB nofun
 refine jr (n:=(bw m.links).length) (λi σ H'=>e_7 λv3 v4 v6 v7 v8 v9 v10=>σ=[B (.ref p),B (.ref dm),B (.ref dl),v3,v4,B (.ref D),v6,v7,v8,v9,v10]/\aw (M HB dl (.bF od (.dT (bw m.links)))) H'/\(∀(a:Nat)(R:J),Rs[a]?=B R->H' R=B (.Z (aA (gn (ae m) (m.links.take i) λl=>l.a==a))))/\H' b6=B (.Z (aA (gn (ae m) (m.links.take i) λ_=>L))))
  ⟨N,N,v6,v7,N,N,N,O,?_,?_,?_⟩ (λi σ H' hi ⟨_,_,_,_,_,_,_,_,s,_⟩=>⟨s _ _ ah,hi⟩) (λσ H' ⟨_,_,_,_,_,_,_,_,s,_⟩=>⟨s _ _ ah,aX _⟩) ?_ ?_
 .intro b o e;by_cases z:b=dl
  .rw[z]at e ⊢;rw[ah]at e ⊢;exact e
  .rw[aa z]at e ⊢;exact WI _ _ e
 .intro a R hR;have qD:=gG hR;rw[aa (lR R qD),jm _ _ (r8 R qD),MH,WA,il]
 .rw[aa lY,jm _ _ y8,MH,WA,il]
 .rintro i x σ H' gJ hi ⟨v3,v4,v6,v7,v8,v9,v10,rfl,mN,Cn,Gh⟩ ⟨rfl,kx,vx,q,hk,rfl,hq⟩;obtain⟨l,dU,rfl,rfl⟩:=zv hk;have Co:=gG dU;have WL:=ok.agents l Co;obtain⟨x,hx⟩:=lX (ok.ends l Co).1;obtain⟨y,hy⟩:=lX (ok.ends l Co).2;have Gi:=cR hx;have EE:=cR hy
  have MI:∀q,gn (ae m) (m.links.take (i+1)) q=if q l=L then(gn (ae m) (m.links.take i) q).set x (eK (ae m) (m.links.take i) q x|||2^y)else gn (ae m) (m.links.take i) q:=λq=>by rw[take_snoc dU,aiZ cI hx hy]
  have dL:gJ D=B (.dK (oX (ae m))):=mN _ _ (sL dB ld);refine⟨q,_,O,cW.of hq,O,_,_,O,_,_,O,_,_,O,O,?_⟩;refine⟨D,_,O,.inl ⟨_,.inl ((l.v:Nat):Int),.inl dL,O,(WE cI hy).symm⟩,_,_,O,O,zu (by lia),?_⟩;refine⟨D,_,O,.inl ⟨_,.inl ((l.u:Nat):Int),.inl dL,O,(WE cI hx).symm⟩,?_⟩;have WM:l.a<Rs.length:=by lia
  have hR:Rs[l.a]?=B Rs[l.a]:=cc WM;have Gj:Rs[l.a]∈Rs:=Wd WM;generalize Rs[l.a]=R at hR Gj;have rR:=Cn l.a R hR;have WN:gJ p=_:=mN _ _ (sL pB WJ);have Cq:gJ G=_:=mN _ _ (sL gB nGl);have gx:=iq (oV (is:=ae m) (ls:=m.links.take i) (q:=λl'=>l'.a==l.a) Gi);refine⟨p,br,dx,_,_,O,WN,TC.cl,TC.tK,u7 _ _ _ _ _ _,G,_,_,_,O,O,aC.of Cq,eP (rS hR),R,_,_,_,O,O,aC.of rR,eP gx,_,_,O,O,p,br,dx,_,_,O,WN,TC.cl,TC.tK,u7 _ _ _ _ _ _,G,_,_,_,O,O,aC.of Cq,eP (rS hR),R,_,_,x,O,O,rR,by rw[bP,rT];exact LU Gi,?_⟩;have e12:V.int (sU ((eK (ae m) (m.links.take i) (λl'=>l'.a==l.a) x:Nat):Int) ((1:Int)*2^((y:Nat):Int).toNat))=V.int ((eK (ae m) (m.links.take i) (λl'=>l'.a==l.a) x|||2^y:Nat):Int):=by rw[vj,qB]
  have WO:M gJ R (.Z ((aA (gn (ae m) (m.links.take i) λl'=>l'.a==l.a)).set x (V.int (sU ((eK (ae m) (m.links.take i) (λl'=>l'.a==l.a) x:Nat):Int) ((1:Int)*2^((y:Nat):Int).toNat))))) R=B (.Z (aA (gn (ae m) (m.links.take (i+1)) λl'=>l'.a==l.a))):=by rw[ah,e12,LO,MI,aD (by simp)]
  have dn:aw (M HB dl (.bF od (.dT (bw m.links)))) (M gJ R (.Z ((aA (gn (ae m) (m.links.take i) λl'=>l'.a==l.a)).set x (V.int (sU ((eK (ae m) (m.links.take i) (λl'=>l'.a==l.a) x:Nat):Int) ((1:Int)*2^((y:Nat):Int).toNat)))))):=aS mN ((aa (lR R Gj)).trans (fB R (eD _ Gj)));have MJ:∀b,b≠R->M gJ R (.Z ((aA (gn (ae m) (m.links.take i) λl'=>l'.a==l.a)).set x (V.int (sU ((eK (ae m) (m.links.take i) (λl'=>l'.a==l.a) x:Nat):Int) ((1:Int)*2^((y:Nat):Int).toNat))))) b=gJ b:=λb hb=>aa hb;generalize(M gJ R (.Z ((aA (gn (ae m) (m.links.take i) λl'=>l'.a==l.a)).set x (V.int (sU ((eK (ae m) (m.links.take i) (λl'=>l'.a==l.a) x:Nat):Int) ((1:Int)*2^((y:Nat):Int).toNat))))))=Cr at WO dn MJ ⊢;have YR:b6≠R:=λz=>yc.1 (z▸Gj);have WQ:Cr b6=_:=(MJ b6 YR).trans Gh;have WT:Cr p=_:=dn _ _ (sL pB WJ);have gy:=iq (oV (is:=ae m) (ls:=m.links.take i) (q:=λ_=>L) Gi);refine⟨p,br,dx,_,_,O,WT,TC.cl,TC.BQ,FK _ _ _ _ _ _,b6,_,_,_,O,O,aC.of WQ,eP gy,_,_,O,O,p,br,dx,_,_,O,WT,TC.cl,TC.BQ,FK _ _ _ _ _ _,b6,_,_,x,O,O,WQ,by rw[bP,rT];exact LU Gi,_,_,_,_,_,_,_,O,aS dn ((aa lY).trans (fB b6 eR)),λa R' qD=>?_,?_⟩
  .have rF:=gG qD;have nYR:R'≠b6:=λz=>yc.1 (z▸rF);rw[aa nYR];by_cases z:R'=R
   .have:a=l.a:=by have h1:=cR qD;have h2:=cR hR;rw[z]at qD;rw[cc h1]at qD;rw[cc h2]at hR;exact(yj rn).mp (iO (qD.trans hR.symm))
    rw[z,this];exact WO
   .have:¬(l.a==a)=true:=λe=>z (by grind)
    rw[MJ R' z,Cn a R' qD,MI,au this]
  .have ey:V.int (sU ((eK (ae m) (m.links.take i) (λ_=>L) x:Nat):Int) ((1:Int)*2^((y:Nat):Int).toNat))=V.int ((eK (ae m) (m.links.take i) (λ_=>L) x|||2^y:Nat):Int):=by rw[vj,qB]
   rw[ah];refine cb B (cb HO.Z ?_);refine(cb _ ey).trans ?_;rw[LO,MI,aD rfl]
 rintro σ H' ⟨v3,v4,v6,v7,v8,v9,v10,rfl,mN,Cn,Gh⟩;rw[lh,eE]at Cn Gh;refine⟨mN _ _ ah,?_⟩;have dn:aw HB (M H' dl (.dT (bw m.links))):=unlock mN lB;refine k _ (sB.trans dn) ⟨dx,aR,aY,A,G,b6,Rs,dn _ _ pB,dn _ _ nB,dn _ _ mB,dn _ _ aB,dn _ _ gB,rl,λa R hR=>?_,?_⟩
 .rw[aa (lR R (gG hR)),Cn a R hR]
 .rw[aa lY,Gh]
def WU:Option Nat->V
 |none=>.bB
 |some x=>.int (x:Nat)
def zz (C:J)(H:Hp)(q:J)(d:Pd):Prop:=∃dx,H q=B (.ins C dx (tL (.int (d.sign:Nat)) (.int (d.only:Nat)) (WU d.first)))
def zz.same (s:aw H H')(h:zz C H q d):zz C H' q d:=by obtain⟨dx,h⟩:=h;exact⟨dx,s _ _ h⟩
def ni (c:Nat):Prop:=c=126\/c=69\/c=67\/(97<=c/\c<=100)\/c=38\/c=124\/c=91
structure lZ (Cw Cp Cv:J)(Hb H:Hp)(p v Pn:J)(ps:List J)(m:Md)(st:Wk):Prop where
 obj:∃dx,H p=B (.ins Cw dx (mZ (.ref v) (.int (st.only:Nat)) (.ref Pn) (.int (st.value:Nat))))
 pend:H Pn=B (.Z (refs ps.reverse))
 same:aw Hb H
 np:Hb p=N
 nP:Hb Pn=N
 zA:∀q∈ps,Hb q=N
 nd:ps.Nodup
 len:ps.length=st.pend.length
 at_:∀(i:Nat)(q:J)(d:Pd),ps[i]?=B q->st.pend[i]?=B d->zz Cp H q d
 view:ll Cv Hb v m
 og:∀d∈st.pend,ni d.sign
def lZ.go {ps:List J}{st:Wk}(h:lZ Cw Cp Cv Hb H p v Pn ps m st)(s:aw H H'):lZ Cw Cp Cv Hb H' p v Pn ps m st:=by obtain⟨dx,ho⟩:=h.obj;exact⟨⟨dx,s _ _ ho⟩,s _ _ h.pend,h.same.trans s,h.np,h.nP,h.zA,h.nd,h.len,λi q d e1 e2=>(h.at_ i q d e1 e2).same s,h.view,h.og⟩
def lZ.aja {ps:List J}{st:Wk}(h:lZ Cw Cp Cv Hb H p v Pn ps m st)(hq:q∈ps):∃d,zz Cp H q d:=by obtain⟨i,hi⟩:=lX hq;have dA:=cR hi;rw[h.len]at dA;exact⟨_,h.at_ i q _ hi (cc dA)⟩
def ajb (h:i<is.length):(gn is ls q).getD i 0=eK is ls q i:=getD_at (oV h)
def MK (is:List Nat)(ls:List cD)(q:cD->Bool)(v o:Nat):gU (λi=>(gn is ls q).getD i 0) v o (gn is ls q).length=gU (λi=>eK is ls q i) v o is.length:=by unfold gU;rw[rT];refine Aq λj hj=>?_;show(o.testBit j&&subB ((gn is ls q).getD j 0&&&o) v)=_;rw[ajb hj]
def ajc (is:List Nat)(ls:List cD)(q:cD->Bool)(v o:Nat):wc (λi=>(gn is ls q).getD i 0) v o (gn is ls q).length=wc (λi=>eK is ls q i) v o is.length:=by
 have e:∀n F,fI (λi=>(gn is ls q).getD i 0) v o (gn is ls q).length n F=fI (λi=>eK is ls q i) v o is.length n F:=by
  intro n;induction n with
  |zero=>intro F;rfl
  |succ n ih=>intro F;have ek:gE (λi=>(gn is ls q).getD i 0) v o (gn is ls q).length F=gE (λi=>eK is ls q i) v o is.length F:=MK is ls q (v&&&F) o;simp only[fI,ek,ih]
 exact e o o
def WV (Cw Cp Cv:J):Sp:=λvs H Q _=>e_10 λ(p q v dx:J)(x1 x2 x3:V)(m:Md)(d:Pd)(e:Nat)=>vs=[.ref p,.ref q,.int (e:Nat)]/\H p=B (.ins Cw dx (mZ (.ref v) x1 x2 x3))/\ll Cv H v m/\fg m/\zz Cp H q d/\ni d.sign/\(parts d.sign=2->d.first≠N)/\∀H',aw H H'->Q (.int ((valueOf (gz m) d e:Nat):Int)) H'
def WW (Cw Cp Cv:J):Sp:=λvs H Q _=>e_8 λ(p v Pn:J)(ps:List J)(m:Md)(st:Wk)(e:Nat)(Hb:Hp)=>vs=[.ref p,.int (e:Nat)]/\lZ Cw Cp Cv Hb H p v Pn ps m st/\fg m/\
 ∀H' dG,dG.length<=ps.length->lZ Cw Cp Cv Hb H' p v Pn dG m (hU (gz m) st.pend st.only st.value e)->Q .bB H'
def WX (Cw Cp Cv:J):Sp:=λvs H Q _=>e_8 λ(p v Pn:J)(ps:List J)(m:Md)(st:Wk)(c:Nat)(Hb:Hp)=>vs=[.ref p,.int (c:Nat)]/\lZ Cw Cp Cv Hb H p v Pn ps m st/\fg m/\ps.length<=1000/\(ni c\/c=84\/(48<=c/\c<=55))/\
 ∀H' dG,dG.length<=ps.length+1->lZ Cw Cp Cv Hb H' p v Pn dG m (j3 (gz m) st c)->Q .bB H'
def WY (Cw Cv:J):Sp:=λvs H Q _=>e_4 λ(p dx v:J)(m:Md)=>vs=[.ref p,.ref v]/\H p=B (.ins Cw dx [])/\ll Cv H v m/\
 ∀H' Pn,bQ [p] H H'->H Pn=N->H' p=B (.ins Cw dx (mZ (.ref v) (.int ((2^m.states.length-1:Nat):Int)) (.ref Pn) (.int 0)))->H' Pn=B (.Z [])->Q .bB H'
def WZ:bZ ["self","last","value"] ["self","last","value"] (bb K2):=by left
def ajd (TW:zd K dg)(TP:FN K cZ)(TV:n9 K br)(F:bG K "value_of" "Walk.value_of" K2 f fd)(T:Txt K mg)(xl:c_ "knowing" 1 ["possible","value","only"] (Mz K))(ML:c_ "knowing_commonly" 2 ["anyone","value","only"] (Wr K)):b_ 3 f fd ["self","last","value"] (WV dg cZ br):=by
 rcases F,WZ with⟨p,q,v,dx,x1,x2,x3,m,d,e,rfl,hp,hv,ok,⟨dq,hq⟩,og,fst,k⟩;obtain⟨dv,aR,aY,A',Pp,b6,Rs,b4⟩:=hv;have cz:=ok.cz;refine⟨_,(az (bc (bA cy (aQ (pv 1) O) (aT T.w8) (bY _)) (aE (aW (b5 mF (aQ (pv 1) O) (uJ IC (pv 2))))) bC) (az (bc (bA cy (aQ (pv 1) O) (aT T.y6) (bY _)) (aE (aW (b5 mF (aQ (pv 1) O) (pv 2)))) bC) (az (bc (bA cy (aQ (pv 1) O) (aT T.OR) (bY _)) (aE (aW (b5 sT (aQ (pv 1) O) (pv 2)))) bC) (az (bc (bA cy (aQ (pv 1) O) (aT T.w9) (bY _)) (aE (aW (b5 sT (b5 mF (aQ (pv 1) O) (uJ IC (aQ (pv 1) O))) (pv 2)))) bC) (az (bc (bA cy (aQ (pv 1) O) (aT T.UJ) (bY _)) (aE (aW (b7 xl hr (by rfl) (af (aQ (aQ (pv 0) O) O) (af (pv 2) (af (aQ (pv 1) O) aq)))))) bC) (az (bc (bA cy (aQ (pv 1) O) (aT T.Lm) (bY _)) (aE (aW (b7 ML hr (by rfl) (af (aQ (aQ (pv 0) O) O) (af (pv 2) (af (aQ (pv 1) O) aq)))))) bC) (aE (aW (b7 xl hr (by rfl) (af (cG cP (aQ (aQ (pv 0) O) O) (b5 AR (aQ (pv 1) O) (aT T.FA)) (λ_ _=>rfl)) (af (pv 2) (af (aQ (pv 1) O) aq)))))))))))),?_⟩;refine⟨q,cZ,dq,_,_,O,hq,TP.cl,TP.rK,tM _ _ _,O,_,O,?_⟩;by_cases h1:d.sign=126
 .refine dC (by lia) ⟨q,cZ,dq,_,_,O,hq,TP.cl,TP.mY,zb _ _ _,_,O,_,_,O,O,?_⟩;have:=k _ (aw.refl H);unfold valueOf at this;rw[aD h1,<-My]at this;exact this
 refine cX (by lia) ⟨q,cZ,dq,_,_,O,hq,TP.cl,TP.rK,tM _ _ _,O,_,O,?_⟩;by_cases h2:d.sign=38
 .have hf:=fst (iC (by lia));obtain⟨x,hx⟩:=MM.mp hf;rw[hx]at hq;refine dC (by lia) ⟨q,cZ,dq,_,_,O,hq,TP.cl,TP.zc,FL _ _ _,_,_,O,O,?_⟩;have:=k _ (aw.refl H);unfold valueOf at this;rw[au h1,aD h2,hx,oZ,<-tX]at this;exact this
 refine cX (by lia) ⟨q,cZ,dq,_,_,O,hq,TP.cl,TP.rK,tM _ _ _,O,_,O,?_⟩;by_cases h3:d.sign=124
 .have hf:=fst (iC (by lia));obtain⟨x,hx⟩:=MM.mp hf;rw[hx]at hq;refine dC (by lia) ⟨q,cZ,dq,_,_,O,hq,TP.cl,TP.zc,FL _ _ _,_,_,O,O,?_⟩;have:=k _ (aw.refl H);unfold valueOf at this;rw[au h1,au h2,aD h3,hx,oZ,<-qB]at this;exact this
 refine cX (by lia) ⟨q,cZ,dq,_,_,O,hq,TP.cl,TP.rK,tM _ _ _,O,_,O,?_⟩;by_cases h4:d.sign=91
 .have hf:=fst (iC (by lia));obtain⟨x,hx⟩:=MM.mp hf;rw[hx]at hq;refine dC (by lia) ⟨q,cZ,dq,_,_,O,hq,TP.cl,TP.mY,zb _ _ _,q,cZ,dq,_,_,O,hq,TP.cl,TP.zc,FL _ _ _,_,O,_,_,O,O,_,_,O,O,?_⟩;have:=k _ (aw.refl H);unfold valueOf at this;rw[au h1,au h2,au h3,aD h4,hx,oZ,<-qB,<-My]at this;exact this
 refine cX (by lia) ⟨q,cZ,dq,_,_,O,hq,TP.cl,TP.rK,tM _ _ _,O,_,O,?_⟩;by_cases h5:d.sign=69
 .refine dC (by lia) ⟨p,dg,dx,_,_,O,hp,TW.cl,TW.BR,FO _ _ _ _,v,br,dv,_,_,O,b4.obj,TV.cl,TV.BQ,FK _ _ _ _ _ _,q,cZ,dq,_,_,O,hq,TP.cl,TP.mY,zb _ _ _,?_⟩;refine⟨b6,_,e,d.only,O,aC.of b4.MD,by rw[rT,gD];lia,λH' s'=>?_⟩;have:=k _ s';unfold valueOf at this;rw[au h1,au h2,au h3,au h4,aD h5]at this;rw[MK];exact this
 refine cX (by lia) ⟨q,cZ,dq,_,_,O,hq,TP.cl,TP.rK,tM _ _ _,O,_,O,?_⟩;by_cases h6:d.sign=67
 .refine dC (by lia) ⟨p,dg,dx,_,_,O,hp,TW.cl,TW.BR,FO _ _ _ _,v,br,dv,_,_,O,b4.obj,TV.cl,TV.BQ,FK _ _ _ _ _ _,q,cZ,dq,_,_,O,hq,TP.cl,TP.mY,zb _ _ _,?_⟩;refine⟨b6,_,e,d.only,O,aC.of b4.MD,by rw[rT,gD];lia,λH' s'=>?_⟩;have:=k _ s';unfold valueOf at this;rw[au h1,au h2,au h3,au h4,au h5,aD h6]at this;rw[ajc];exact this
 .have h7:97<=d.sign/\d.sign<=100:=by unfold ni at og;lia
  have ha:d.sign-97<Rs.length:=by rw[b4.four];lia
  have hR:Rs[d.sign-97]?=B Rs[d.sign-97]:=cc ha
  have gC:j4 (refs Rs) (((d.sign:Nat):Int)-97)=B (.ref Rs[d.sign-97]):=by rw[show((d.sign:Nat):Int)-97=((d.sign-97:Nat):Int)by lia];exact eP (rS hR)
  refine cX (by lia) ⟨p,dg,dx,_,_,O,hp,TW.cl,TW.BR,FO _ _ _ _,v,br,dv,_,_,O,b4.obj,TV.cl,TV.tK,u7 _ _ _ _ _ _,q,cZ,dq,_,_,O,hq,TP.cl,TP.rK,tM _ _ _,_,_,O,O,Pp,_,_,_,O,O,aC.of b4.possible,gC,q,cZ,dq,_,_,O,hq,TP.cl,TP.mY,zb _ _ _,?_⟩
  .refine⟨Rs[d.sign-97],_,e,d.only,O,aC.of (b4.rows _ _ hR),by rw[rT,gD];lia,λH' s'=>?_⟩;have:=k _ s';unfold valueOf at this;rw[au h1,au h2,au h3,au h4,au h5,au h6]at this;rw[MK];exact this
def W2:bZ ["self","value","ended","last"] ["self","value"] (bb K0):=by left
def aje (TW:zd K dg)(TP:FN K cZ)(F:bG K "end_formula" "Walk.end_formula" K0 f fd)(T:Txt K mg)(MN:f_ dg "value_of" 3 ["self","last","value"] (WV dg cZ br))(j8:c_ "parts" 2 ["sign"] (xb)):b_ 4 f fd ["self","value"] (WW dg cZ br):=by
 rcases F,W2 with⟨p,v,Pn,ps,m,st,e,Hb,rfl,S0,ok,k⟩;refine⟨_,(az (bz 2 nd (pv 1)) (az (uF dR (yp (aQ (pv 0) O) (λ_=>rfl)) (az (bz 3 nd (cG cP (aQ (pv 0) O) (uJ AU aZ) (λ_ _=>rfl))) (az (bc (PW.pt (qa (iX (yl (aQ (pv 3) O))) (p9 (bA cy (b7 j8 hr (by rfl) (af (aQ (pv 3) O) aq)) aZ (bY _))))) (az (dk (pv 3) (pv 2) O) (az (bc (bA cy (aQ (pv 3) O) (aT T.w9) (bY _)) (aE (dk (pv 0) (pv 2) O)) bC) (aE (QE)))) bC) (az (dF (rA dJ qj rN rC (aQ (pv 0) O))) (az (dk (pv 0) (aQ (pv 3) O) O) (aE (bz 2 nd (gm (pv 0) MN hr (af (pv 3) (af (pv 2) aq)))))))))) (aE (dk (pv 0) (pv 2) O)))),?_⟩;refine ?_;refine⟨λn σ H'=>e_5 λv3 dG l5 o' e'=>n=lO dG/\lO dG<=ps.length/\σ=[B (.ref p),B (.int (e:Nat)),B (.int ((e':Nat):Int)),v3]/\lZ dg cZ br Hb H' p v Pn dG m ⟨l5,o',st.value⟩/\hU (gz m) l5 o' st.value e'=hU (gz m) st.pend st.only st.value e,⟨_,N,ps,st.pend,st.only,e,O,aX _,O,S0,O⟩,?_⟩;rintro n σ H' ⟨v3,dG,l5,o',e',rfl,hle,rfl,S,he⟩;obtain⟨dw,hp⟩:=S.obj;refine⟨p,dg,dw,_,_,O,hp,TW.cl,TW.BS,FP _ _ _ _,_,.inl ⟨_,aC.of S.pend,O⟩,?_⟩;match dG,l5,S,he,hle with
 |[],_::_,S,he,hle=>exact bT S.len (by simp)
 |_::_,[],S,he,hle=>exact bT S.len (by simp)
 |[],[],S,he,hle=>refine bN ⟨p,dg,dw,_,O,hp,TW.cl,TW.LH,(by show 4<1000;decide),?_⟩;have pP:Pn≠p:=bE S.pend hp nofun;refine k _ [] hle ?_;rw[<-he];exact⟨⟨dw,ah⟩,(aa pP).trans S.pend,aS S.same S.np,S.np,S.nP,S.zA,S.nd,S.len,λi q d e1=>by simp at e1,S.view,λd z=>nomatch z⟩
 |q::dG,d::l5,S,he,hle=>
  obtain⟨dq,hq⟩:=S.at_ 0 q d O rfl;have og:=S.og d eR;have qp:q≠p:=bE hq hp (by intro z;injection z with _ _ z;cases z);have qP:q≠Pn:=bE hq S.pend nofun;have pP:Pn≠p:=bE S.pend hp nofun;have e1:(refs (q::dG).reverse).isEmpty=false:=by rw[qz,<-oe];simp
  rw[e1];refine bO ⟨λσ' gJ=>∃m',m'<(q::dG).length/\e_5 λv3 dG l5 o' e'=>m'=lO dG/\lO dG<=ps.length/\σ'=[B (.ref p),B (.int (e:Nat)),B (.int ((e':Nat):Int)),v3]/\lZ dg cZ br Hb gJ p v Pn dG m ⟨l5,o',st.value⟩/\hU (gz m) l5 o' st.value e'=hU (gz m) st.pend st.only st.value e,λ_ _ z=>z,?_⟩;have ht:j4 (refs (q::dG).reverse) (-1)=B (.ref q):=by rw[qz,<-oe];exact Eo _ _
  refine⟨p,dg,dw,_,_,O,hp,TW.cl,TW.BS,FP _ _ _ _,_,O,Pn,_,_,_,O,O,aC.of S.pend,ht,?_⟩;apply qA (G:=λσ H3=>σ=[B (.ref p),B (.int (e:Nat)),B (.int ((e':Nat):Int)),B (.ref q)]/\aw H' H3/\¬(d.first=N/\parts d.sign=2))
  .intro rest;refine⟨q,cZ,dq,_,_,O,hq,TP.cl,TP.zc,FL _ _ _,_,O,?_⟩;cases hf:d.first with
   |some x=>refine bN ?_;exact bN (rest _ _ ⟨O,aw.refl _,λz=>by rw[hf]at z;cases z.1⟩)
   |none=>
    refine bO ⟨q,cZ,dq,_,_,O,hq,TP.cl,TP.rK,tM _ _ _,d.sign,O,λH2 s2=>⟨O,_,O,?_⟩⟩;by_cases h2:parts d.sign=2
    .refine dC (by lia) ⟨q,cZ,dq,_,O,s2 _ _ hq,TP.cl,TP.zc,(by show 3<1000;decide),?_⟩;have S2:=S.go s2;have gk:=s2 _ _ hp;have ef:hU (gz m) (d::l5) o' st.value e'=⟨⟨d.sign,d.only,B e'⟩::l5,if d.sign=91 then e' else o',st.value⟩:=by rw[hU,aD ⟨hf,h2⟩]
     have nq:∀b∈dG,b≠q:=λb hb z=>(fW.mp S.nd).1 (z▸hb)
     have fin:∀(oo:Nat)(H4:Hp),(∃dx,H4 p=B (.ins dg dx (mZ (.ref v) (.int (oo:Nat)) (.ref Pn) (.int (st.value:Nat)))))->(∀b,b≠p->H4 b=M H2 q (.ins cZ dq (fN "first" (.int ((e':Nat):Int)) (tL (.int (d.sign:Nat)) (.int (d.only:Nat)) .bB))) b)->lZ dg cZ br Hb H4 p v Pn (q::dG) m ⟨⟨d.sign,d.only,B e'⟩::l5,oo,st.value⟩:=λoo H4 ho hb=>by
      refine⟨ho,(hb Pn pP).trans ((aa (aP qP)).trans S2.pend),λb o eb=>?_,S2.np,S2.nP,S2.zA,S2.nd,S2.len,λi q' d' e1 e2=>?_,S2.view,λd' qX=>?_⟩
      .have n1:b≠p:=aK eb S2.np;have n2:b≠q:=aK eb (S2.zA q eR);rw[hb b n1,aa n2];exact S2.same _ _ eb
      .cases i with
       |zero=>
        cases e1;cases e2
        exact⟨dq,(hb q qp).trans ah⟩
       |succ i=>obtain⟨zC,h'⟩:=S2.at_ (i+1) q' d' e1 e2;have n1:q'≠p:=bE h' gk (by intro z;injection z with _ _ z;cases z);have n2:q'≠q:=nq q' (gG e1);exact⟨zC,(hb q' n1).trans ((aa n2).trans h')⟩
      .rcases dz.mp qX with z|z
       .rw[z];exact og
       .exact S2.og d' (eD _ z)
     rw[<-he,ef]at k;refine⟨q,cZ,dq,_,_,O,ah,TP.cl,TP.rK,(by rw[hf];exact tM _ _ _),O,_,O,?_⟩;by_cases k7:d.sign=91
     .refine dC (by lia) ⟨p,dg,dw,_,O,(aa (aP qp)).trans gk,TW.cl,TW.mY,(by show 4<1000;decide),?_⟩;rw[aD k7]at k;exact k _ (q::dG) hle (fin e' _ ⟨dw,ah⟩ λb hb=>by rw[hf];exact aa hb)
     .rw[au k7]at k;exact cX (by lia) (k _ (q::dG) hle (fin o' _ ⟨dw,(aa (aP qp)).trans gk⟩ λb hb=>by rw[hf];rfl))
    .refine cX (by lia) (rest _ _ ⟨O,s2,λz=>h2 z.2⟩)
  rintro σ H3 ⟨rfl,s3,oA⟩;have S3:=S.go s3;have MO:=s3 _ _ hp;have W3:=s3 _ _ hq
  have el:(refs (q::dG).reverse)[(refs (q::dG).reverse).length-1]?=B (.ref q):=by rw[<-FY];unfold refs;simp
  have ed:(refs (q::dG).reverse).dropLast=refs dG.reverse:=by rw[Mr,Mh];rfl
  refine⟨p,dg,dw,_,_,O,MO,TW.cl,TW.BS,FP _ _ _ _,.inl ⟨O,_,aC.of S3.pend⟩,Pn,_,_,O,O,S3.pend,el,?_⟩;rw[ed];refine⟨q,cZ,dq,_,_,O,(aa qP).trans W3,TP.cl,TP.mY,zb _ _ _,p,dg,dw,_,O,(aa (aP pP)).trans MO,TW.cl,TW.mY,(by show 4<1000;decide),?_⟩
  have S4:lZ dg cZ br Hb (M (M H3 Pn (.Z (refs dG.reverse))) p (.ins dg dw (mZ (.ref v) (.int (d.only:Nat)) (.ref Pn) (.int (st.value:Nat))))) p v Pn dG m ⟨l5,d.only,st.value⟩:=by
   refine⟨⟨dw,ah⟩,(aa pP).trans ah,aS (aS S3.same S3.nP) S3.np,S3.np,S3.nP,λb hb=>S3.zA b (eD _ hb),(fW.mp S3.nd).2,?_,λi q' d' e1 e2=>?_,S3.view,λd' qX=>S3.og d' (eD _ qX)⟩
   .have:=S3.len;simpa using this
   .obtain⟨zC,h'⟩:=S3.at_ (i+1) q' d' e1 e2;have n1:q'≠p:=bE h' MO (by intro z;injection z with _ _ z;cases z);have n2:q'≠Pn:=bE h' S3.pend nofun;exact⟨zC,(aa n1).trans ((aa n2).trans h')⟩
  have hq4:M (M H3 Pn (.Z (refs dG.reverse))) p (.ins dg dw (mZ (.ref v) (.int (d.only:Nat)) (.ref Pn) (.int (st.value:Nat)))) q=_:=(aa qp).trans ((aa qP).trans W3);have hp4:M (M H3 Pn (.Z (refs dG.reverse))) p (.ins dg dw (mZ (.ref v) (.int (d.only:Nat)) (.ref Pn) (.int (st.value:Nat)))) p=_:=ah;refine⟨p,dw,_,O,ah,ahW _ _ _ _,?_⟩;refine⟨p,q,v,dw,_,_,_,m,d,e',O,hp4,S4.view.same S4.same,ok,⟨dq,hq4⟩,og,λz1 z2=>oA ⟨z2,z1⟩,λH5 s5=>?_⟩;have ef:hU (gz m) (d::l5) o' st.value e'=hU (gz m) l5 d.only st.value (valueOf (gz m) d e'):=by rw[hU,au oA]
  exact⟨dG.length,rY _,_,dG,l5,d.only,_,O,RY hle,O,S4.go s5,ef.symm.trans he⟩
end WK
namespace WK
open PySem PySem.Spec PyProof.Rows L2
open Vbtaag (Form Link State1 ids maskOf sat)
def MP (c:Nat):Prop:=ni c\/c=84\/(48<=c/\c<=55)
theorem qE:∀(f:bo),Wf f->∀c∈enc f,MP c
 |.top,_,c,h=>by
   have:c=84:=by simpa[enc]using h
   exact .inr (.inl this)
 |.atom i,hi,c,h=>by
   have:c=48+i:=by simpa[enc]using h
   have hi:i<8:=hi;exact .inr (.inr (by cutsat))
 |.no f,hf,c,h=>by
  rcases dz.mp h with z|z
  .exact .inl (by unfold ni;cutsat)
  .exact qE f hf c z
 |.every f,hf,c,h=>by
  rcases dz.mp h with z|z
  .exact .inl (by unfold ni;cutsat)
  .exact qE f hf c z
 |.common f,hf,c,h=>by
  rcases dz.mp h with z|z
  .exact .inl (by unfold ni;cutsat)
  .exact qE f hf c z
 |.know a f,⟨ha,hf⟩,c,h=>by
  rcases dz.mp h with z|z
  .exact .inl (by unfold ni;cutsat)
  .exact qE f hf c z
 |.and f g,⟨hf,hg⟩,c,h=>by
  rcases dz.mp h with z|z
  .exact .inl (by unfold ni;cutsat)
  .rcases eX.mp z with z|z
   .exact qE f hf c z
   .exact qE g hg c z
 |.or f g,⟨hf,hg⟩,c,h=>by
  rcases dz.mp h with z|z
  .exact .inl (by unfold ni;cutsat)
  .rcases eX.mp z with z|z
   .exact qE f hf c z
   .exact qE g hg c z
 |.after f g,⟨hf,hg⟩,c,h=>by
  rcases dz.mp h with z|z
  .exact .inl (by unfold ni;cutsat)
  .rcases eX.mp z with z|z
   .exact qE f hf c z
   .exact qE g hg c z
def ajh (h:MP c)(hp:0<parts c):ni c:=by
 rcases h with h|h
 .exact h
 .rw[sv h]at hp;lia
def aji (h:MP c)(hp:¬0<parts c):c=84\/(48<=c/\c<=55):=by
 rcases h with h|h
 .unfold ni at h;by_cases z:c=38\/c=124\/c=91
  .rw[iC z]at hp;lia
  .rw[jd (by lia)]at hp;lia
 .exact h
def W4 (K:aM):Sp:=λvs H Q _=>e_5 λ(dm dl a:J)(m:Md)(f:bo)=>vs=[.ref dm,.ref dl,.ref a]/\H dm=B (.dK (cQ m.states))/\H dl=B (.dT (bw m.links))/\fg m/\aC K H a (aA (enc f))/\Wf f/\(enc f).length<=400/\
 ∀(H':Hp)(S:J),aw H H'->H S=N->H' S=B (.Z (aA (aU f m)))->Q (.ref S) H'
def W5:bZ ["self","view"] ["self","view"] (bb KY):=by left
def ajj (TW:zd K dg)(TV:n9 K br)(F:bG K "__init__" "Walk.__init__" KY f fd)(T:Txt K mg):b_ 1 f fd ["self","view"] (WY dg br):=by rcases F,W5 with⟨p,dx,v,m,rfl,hp,⟨dv,aR,aY,A',Pp,b6,Rs,b4⟩,k⟩;have vp:v≠p:=bE b4.obj hp (by intro z;injection z with _ _ z;cases z);refine⟨_,(az (dk (pv 0) (pv 1) O) (az (dk (pv 0) (aQ (pv 1) O) O) (az (dk (pv 0) (bU aq) O) (aE (dk (pv 0) aZ O))))),?_⟩;refine⟨p,dg,dx,_,O,hp,TW.cl,TW.BR,(by simp),?_⟩;refine⟨v,br,dv,_,_,O,(aa vp).trans b4.obj,TV.cl,TV.Vb,ahS _ _ _ _ _ _,p,dg,dx,_,O,ah,TW.cl,TW.mY,(by show 1<1000;decide),?_⟩;rw[mz];refine⟨by simp,λPn zD=>⟨p,dg,dx,_,O,(aa (aK ah zD)).trans ah,TW.cl,TW.BS,(by show 2<1000;decide),?_⟩⟩;have pP:p≠Pn:=aK ah zD;have W6:H Pn=none:=(aa (aP pP)).symm.trans zD;refine⟨p,dg,dx,_,O,ah,TW.cl,TW.LH,(by show 3<1000;decide),?_⟩;rw[mz];exact k _ Pn ((((bQ.refl [p] H).M (.inl (by simp))).M (.inr W6)).M (.inl (by simp))) W6 ah ((aa (aP pP)).trans ah)
def W7:bZ ["self","sign"] ["self","sign"] (bb KZ):=by left
def ajk (TW:zd K dg)(TV:n9 K br)(F:bG K "take" "Walk.take" KZ f fd)(T:Txt K mg)(MQ:n_ "Pending" cZ 1 ["self","sign","only"] (Ws cZ))(Gk:f_ dg "end_formula" 4 ["self","value"] (WW dg cZ br))(j8:c_ "parts" 2 ["sign"] (xb)):b_ 5 f fd ["self","sign"] (WX dg cZ br):=by
 rcases F,W7 with⟨p,v,Pn,ps,m,st,c,Hb,rfl,S0,ok,hl,og,k⟩;refine⟨_,(aE (bc (bA wA (b7 j8 hr (by rfl) (af (pv 1) aq)) aZ (bY _)) (aE (dF (e9 dJ ic iF iE (aQ (pv 0) O) (af (rJ MQ hr (by rfl) (af (pv 1) (af (aQ (pv 0) O) aq))) aq)))) (aE (bc (bA cy (pv 1) (aT T.y4) (bY _)) (aE (dF (gm (pv 0) Gk hr (af (aQ (pv 0) O) aq)))) (aE (dF (gm (pv 0) Gk hr (af (b5 mF (cG cP (aQ (aQ (pv 0) O) O) (b5 AR (pv 1) (aT T.Fz)) (λ_ _=>rfl)) (aQ (pv 0) O)) aq)))))))),?_⟩;refine⟨c,O,λH1 s1=>⟨_,_,O,O,_,O,?_⟩⟩;have S:=S0.go s1;obtain⟨dw,hp⟩:=S.obj;by_cases h0:0<parts c
 .rw[cw (by lia)];refine bO ⟨p,dg,dw,_,_,O,hp,TW.cl,TW.BS,FP _ _ _ _,.inl ⟨O,_,aC.of S.pend⟩,p,dg,dw,_,_,O,hp,TW.cl,TW.mY,LF _ _ _ _,λq dq xh eQ ck=>?_⟩;refine⟨q,dq,_,_,O,ah,⟨O,?_⟩⟩;have s2:=zo (C:=cZ) (o:=.ins cZ dq (tL (.int (c:Nat)) (.int (st.only:Nat)) .bB)) (aw.refl H1) xh eQ;have jW:M (M (M H1 dq (.own q)) q (.ins cZ dq [])) q (.ins cZ dq (tL (.int (c:Nat)) (.int (st.only:Nat)) .bB)) q=_:=ah;have S2:=S.go s2;generalize M (M (M H1 dq (.own q)) q (.ins cZ dq [])) q (.ins cZ dq (tL (.int (c:Nat)) (.int (st.only:Nat)) .bB))=H2 at s2 jW S2 ⊢;obtain⟨dw2,gk⟩:=S2.obj;refine⟨Pn,_,_,O,O,S2.pend,by rw[la,tR];exact cY (by lia),?_⟩;have qP:q≠Pn:=bE jW S2.pend nofun;have pP:p≠Pn:=bE gk S2.pend nofun;have e:j3 (gz m) st c=⟨⟨c,st.only,N⟩::st.pend,st.only,st.value⟩:=uq h0;rw[e]at k;refine k _ (q::ps) (aX _) ⟨⟨dw2,(aa pP).trans gk⟩,?_,aS S2.same S2.nP,S2.np,S2.nP,λb hb=>?_,?_,by simp[S2.len],λi q' d' e1 e2=>?_,S2.view,λd' qX=>?_⟩
  .rw[ah,oe,qz]
  .rcases dz.mp hb with z|z
   .rw[z];exact S.same.free xh
   .exact S2.zA b z
  .refine fW.mpr ⟨λz=>?_,S2.nd⟩;obtain⟨d',h'⟩:=S.aja z;obtain⟨zC,h'⟩:=h';rw[xh]at h';cases h'
  .cases i with
   |zero=>cases e1;cases e2;exact⟨dq,(aa qP).trans jW⟩
   |succ i=>obtain⟨zC,h'⟩:=S2.at_ i q' d' e1 e2;exact⟨zC,(aa (bE h' S2.pend nofun)).trans h'⟩
  .rcases dz.mp qX with z|z
   .rw[z];exact ajh og h0
   .exact S2.og d' z
 .rw[eG (by lia)];have lz:=aji og h0;refine bN ⟨O,_,O,?_⟩;by_cases An:c=84
  .have e:j3 (gz m) st c=hU (gz m) st.pend st.only st.value st.only:=by unfold j3;grind
   rw[e]at k;refine dC (by lia) ⟨p,dw,_,O,hp,Vd _ _ _ _,p,dg,dw,_,_,O,hp,TW.cl,TW.mY,LF _ _ _ _,?_⟩;exact⟨p,v,Pn,ps,m,st,st.only,Hb,O,S,ok,λH' dG hle S'=>k H' dG (by lia) S'⟩
  .have e:j3 (gz m) st c=hU (gz m) st.pend st.only st.value ((gz m).atoms (c-48)&&&st.only):=by unfold j3;grind
   rw[e]at k;obtain⟨dv,aR,aY,A',Pp,b6,Rs,b4⟩:=S.view.same S.same;have hc:48<=c/\c<=55:=by lia
   have gC:j4 (aA ((ez 8).map (gz m).atoms)) (((c:Nat):Int)-48)=B (.int (((gz m).atoms (c-48):Nat):Int)):=by rw[show((c:Nat):Int)-48=((c-48:Nat):Int)by lia];refine eP (iq ?_);grind
   refine cX (by lia) ⟨p,dw,_,O,hp,Vd _ _ _ _,p,dg,dw,_,_,O,hp,TW.cl,TW.BR,FO _ _ _ _,v,br,dv,_,_,O,b4.obj,TV.cl,TV.Vc,ahT _ _ _ _ _ _,_,_,O,O,A',_,_,_,O,O,aC.of b4.atoms,gC,p,dg,dw,_,_,O,hp,TW.cl,TW.mY,LF _ _ _ _,_,_,O,O,?_⟩;refine⟨p,v,Pn,ps,m,st,(gz m).atoms (c-48)&&&st.only,Hb,by rw[<-tX];rfl,S,ok,λH' dG hle S'=>k H' dG (by lia) S'⟩
def W8:bZ ["masks","links","signs","view","walk","sign","place","number"] ["masks","links","signs"] (bb Fn):=by left
def ajm (TW:zd K dg)(TV:n9 K br)(F:bG K "states_where" "states_where" Fn f fd)(T:Txt K mg)(tZ:n_ "View" br 2 ["self","masks","links"] (Ge br))(MR:n_ "Walk" dg 1 ["self","view"] (WY dg br))(MS:f_ dg "take" 5 ["self","sign"] (WX dg cZ br)):b_ 6 f fd ["masks","links","signs"] (W4 K):=by
 rcases F,W8 with⟨dm,dl,a,m,f',rfl,hm,hl,ok,hS,hw,hlen,k⟩;refine⟨_,(az (bz 3 nd (rJ tZ hr (by rfl) (af (pv 0) (af (pv 1) aq)))) (az (rG 4 nd (rJ MR hr (by rfl) (af (pv 3) aq))) (az (eZ dR O (iY (pv 2)) (bX (i:=5) nd O (bM O)) (aE (dF (gm (pv 4) MS hr (af (pv 5) aq))))) (aE (aW (lT O nd (wW (by rfl) T.tJ (af (aQ (pv 3) O) aq)) (jS (own:=[("place",6),("number",7)]) (by show jn ["masks","links","signs","view","walk","sign","place","number"] (bb Fn) _ _=L;decide+kernel)) (λ_ _ _ _ _=>(VD (K:=K) (n:=2) O O (df (bX (i:=6) nd O (bM O)) (df (bX (i:=7) nd O (bM O)) jx)))) (λ_ _ _ _ _=>(yE (bA cy (b5 mF (b5 AS (zl (K:=K) O (pv 4) O) (pv 6)) aZ) aZ (bY _)))) (λ_ _ _ _ _=>(pv 7)))))))),?_⟩;refine λv dv vk eQ ck=>?_;have md:dm≠dv:=aK hm eQ;have mv:dm≠v:=aK hm vk;have ld:dl≠dv:=aK hl eQ;have lv:dl≠v:=aK hl vk;refine⟨v,dv,dm,dl,m,O,ah,(aa mv).trans ((aa md).trans hm),(aa lv).trans ((aa ld).trans hl),ok,λH1 k1 hv=>⟨O,?_⟩⟩;have s1:aw H H1:=aw.made vk eQ λb o e hb=>k1 b o e (by grind);refine λp dp i9 MT apX=>?_;have vm:ll br (M (M H1 dp (.own p)) p (.ins dg dp [])) v m:=hv.same (aS (bp MT) i9);refine⟨p,dp,v,m,O,ah,vm,λH2 Pn k2 zD gk hP2=>⟨O,?_⟩⟩;have s2:aw H1 H2:=aw.made i9 MT λb o e hb=>k2 b o e (by simpa using hb)
 have ajo:H1 Pn=none:=by
  cases e:H1 Pn with
  |none=>rfl
  |some o=>have e1:Pn≠p:=aK e i9;have e2:Pn≠dp:=aK e MT;rw[aa e1,aa e2,e]at zD;cases zD
 have S0:lZ dg cZ br H1 H2 p v Pn [] m ⟨[],2^(ae m).length-1,0⟩:=⟨⟨dp,by rw[gD];exact gk⟩,hP2,s2,i9,ajo,(λq z=>nomatch z),j5,O,(λi q d e=>by simp at e),hv,(λd z=>nomatch z)⟩;refine⟨a,O,⟨_,(s1.trans s2).seq hS⟩,mE (K:=K) (a:=a) (xs:=aA (enc f')) (λi σ H'=>∃v5 ps,σ=[B (.ref dm),B (.ref dl),B (.ref a),B (.ref v),B (.ref p),v5,N,N]/\lO ps<=i/\lZ dg cZ br H1 H' p v Pn ps m (mr (gz m) ⟨[],2^(ae m).length-1,0⟩ ((enc f').take i))) ⟨N,[],O,aX _,S0⟩ (λi σ H' _ ⟨_,_,_,_,S⟩=>(s1.trans S.same).seq hS) ?_ ?_⟩
 .rintro i x σ H' hi ⟨v5,ps,rfl,BH,S⟩;obtain⟨c,hc,rfl⟩:=jB hi;have dA:=cR hc;obtain⟨dw,hp⟩:=S.obj;refine⟨p,dw,_,O,hp,ahV _ _ _ _,p,v,Pn,ps,m,_,c,H1,O,S,ok,by lia,qE f' hw c (gG hc),λH3 dG hle S'=>?_⟩;refine⟨_,dG,O,by lia,?_⟩;rw[take_snoc hc,DH];exact S'
 .rintro σ H' ⟨v5,ps,rfl,BH,S⟩;rw[bP,eE]at S;have wv:=abJ (ai2 ok) ok.ends hw;generalize mr (gz m) ⟨[],2^(ae m).length-1,0⟩ (enc f')=st at S wv;obtain⟨dv',aR,aY,A',Pp,b6,Rs,b4⟩:=S.view.same S.same;obtain⟨dw,hp⟩:=S.obj;refine⟨v,br,dv',_,_,O,b4.obj,TV.cl,TV.xc,za _ _ _ _ _ _,aR,_,O,aC.of b4.qC,λG hG=>?_⟩;refine qv (n:=(aA (ae m)).length) (λj H4=>aw H' H4/\H4 G=B (.Z (aA (((ae m).take j).filter λu=>(aU f' m).contains u)))) ⟨bp hG,ah⟩ (λi H4 hi z=>⟨_,_,aC.of (z.1 _ _ b4.qC),cc hi⟩) (λH4 z=>⟨_,aC.of (z.1 _ _ b4.qC),aX _⟩) ?_ ?_
  .rintro j x H4 H5 hj ⟨s4,g4⟩ ⟨T',y,rfl,hT,rfl,hy⟩;obtain⟨u,fh,rfl⟩:=jB (hy _ (aC.of (s4 _ _ b4.qC)));have gu:=cR fh;have GT:G≠T':=aK g4 hT;have s5:aw H' (M H4 T' (.tup [.int (j:Nat),.int (u:Nat)])):=aS s4 (s4.free hT);refine⟨T',_,O,cW.of ah,O,_,_,O,_,_,O,O,O,?_⟩;refine⟨p,dg,dw,_,_,O,s5 _ _ hp,TW.cl,TW.LH,ahU _ _ _ _,_,_,O,O,by lia,_,_,O,O,O,_,O,?_⟩;rw[F9,wv j gu];have ea:at_ m j=u:=getD_at fh;rw[ea]
   have en:((ae m).take (j+1)).filter (λu=>(aU f' m).contains u)=((ae m).take j).filter (λu=>(aU f' m).contains u)++(if(aU f' m).contains u=L then[u]else[]):=by rw[take_snoc fh,nj];rfl'
   cases hb:(aU f' m).contains u with
   |true=>
    rw[hb,aD rfl]at en;refine bO ⟨_,(aa GT).trans g4,?_,aS s5 hG,?_⟩
    .rw[bP];exact rE (jT _ _) (by rw[eF];exact cY (by have:=ok.cz;rw[gD]at gu;lia))
    .rw[ah,en,ng]
   |false=>rw[hb,au eN,fV]at en;refine bN ⟨s5,?_⟩;rw[en];exact(aa GT).trans g4
  .rintro H4 ⟨s4,g4⟩;rw[bP,eE,<-nG]at g4;exact k H4 G (s1.trans (S.same.trans s4)) (s1.free (S.same.free hG)) g4
def zE (l:List Nat):aA l=vi (Vbtaag.ints l):=by unfold aA vi Vbtaag.ints;simp
def zF (a b:List Int):vi (a++b)=vi a++vi b:=f9
def o3 (l:List Int):(vi l).length=l.length:=dj _
def dr (m m':Md):Prop:=m.states=m'.states/\m.links.Perm m'.links
def dr.refl (m:Md):dr m m:=⟨O,List.Perm.refl _⟩
structure Core (C:J)(H:Hp)(p dx dm dl pl:J)(m:Md)(at_ last:Nat):Prop where
 obj:H p=B (.ins C dx (fX (.ref dm) (.ref dl) (.int (at_:Nat)) (.int (last:Nat)) (.ref pl)))
 b0:H dm=B (.dK (cQ m.states))
 links:H dl=B (.dT (bw m.links))
def Core.same {C:J}{H H':Hp}{p dx dm dl pl:J}{m:Md}{a n:Nat}(h:Core C H p dx dm dl pl m a n)(s:aw H H'):Core C H' p dx dm dl pl m a n:=⟨s _ _ h.obj,s _ _ h.b0,s _ _ h.links⟩
structure cg (m:Md)(at_ last:Nat):Prop extends fg m where
 le:∀u∈ae m,1<=u/\u<=last
 so:at_=0\/at_∈ae m
 up:(ae m).Pairwise (·<·)
 gq:m.links.Nodup
 byte:∀s∈m.states,s.mask<256
def W0 (m:Md)(at_ last:Nat):fi:={model:=m,last:=last,at_:=at_,past:=[]}
def j' (C:J)(H:Hp)(p dx dm dl pl:J)(r:fi×List Int)(Q:VK):Prop:=∀(H':Hp)(S eM fj:J)(m':Md),bQ [p,dm,dl] H H'->(eM=dm\/H eM=N)->(fj=dl\/H fj=N)->dr m' r.1.model->Core C H' p dx eM fj pl m' r.1.at_ r.1.last->H S=N->H' S=B (.Z (vi r.2))->Q (.ref S) H'
def j'.ask {C:J}{H:Hp}{p dx dm dl pl:J}{m:Md}{a n:Nat}{ans:List Int}{Q:VK}(h:j' C H p dx dm dl pl (W0 m a n,ans) Q)(c:Core C H p dx dm dl pl m a n){H':Hp}{S:J}(s:aw H H')(hS:H S=N)(hs:H' S=B (.Z (vi ans))):Q (.ref S) H':=
 h H' S dm dl m (.jA s) (.inl O) (.inl O) (dr.refl m) (c.same s) hS hs
def vn (m:Md)(u:Int):(cE (cQ m.states) (.inl u)).isSome=eB m u:=by rw[<-uU];unfold cQ eB;rw[yC];rfl'
def Gn (m:Md)(a u v:Int):(cE (bw m.links) [.inl a,.inl u,.inl v]).isSome=lq m a u v:=by
 rw[<-uU];unfold bw lq;rw[yC];refine List.any_congr rfl λx=>?_;show decide (fc x=[cC a,cC u,cC v])=((x.a:Int)==a&&((x.u:Int)==u&&(x.v:Int)==v));by_cases h:(x.a:Int)=a/\(x.u:Int)=u/\(x.v:Int)=v
 .rw[cw (by unfold fc;grind),h.1,h.2.1,h.2.2];simp
 .rw[eG (λz=>h (by unfold fc at z;grind))];rfl'
def oh:eB m u=L↔∃n∈ae m,(n:Int)=u:=by unfold eB ae;all_goals grobner
def ajq (h:n∉ae m):cE (cQ m.states) (.inl (n:Int))=none:=by
 cases e:cE (cQ m.states) (.inl (n:Int))with
 |none=>rfl
 |some v=>
  have:eB m (n:Int)=true:=by rw[<-vn,e];rfl
  obtain⟨k,hk,e'⟩:=oh.mp this;grind
def W9 {n k:Nat}(h:n∉ae m):putK (cQ m.states) (.inl (n:Int)) (.int (k:Int))=cQ (m.states++[⟨n,k⟩]):=by rw[wL _ (ajq h)];unfold cQ;simp
def MU (C:J):Sp:=λvs H Q _=>e_9 λ(p dx dm dl pl:J)(m:Md)(at_ last k:Nat)=>vs=[.ref p,.int (k:Nat)]/\Core C H p dx dm dl pl m at_ last/\(∀u∈ae m,u<=last)/\m.states.length<=100/\
 ∀H',bQ [p,dm] H H'->Core C H' p dx dm dl pl ⟨m.states++[⟨last+1,k⟩],m.links⟩ at_ (last+1)->Q (.int ((last+1:Nat):Int)) H'
def W' (C:J):Sp:=λvs H Q _=>e_9 λ(p dx dm dl pl:J)(m:Md)(at_ last:Nat)(k:Int)=>vs=[.ref p,.int k]/\Core C H p dx dm dl pl m at_ last/\cg m at_ last/\j' C H p dx dm dl pl (aO (W0 m at_ last) (.state k)) Q
def Xa (C:J):Sp:=λvs H Q _=>e_11 λ(p dx dm dl pl:J)(m:Md)(at_ last:Nat)(a u v:Int)=>vs=[.ref p,.int a,.int u,.int v]/\Core C H p dx dm dl pl m at_ last/\cg m at_ last/\j' C H p dx dm dl pl (aO (W0 m at_ last) (.link a u v)) Q
def Xb (C:J):Sp:=λvs H Q _=>e_11 λ(p dx dm dl pl:J)(m:Md)(at_ last:Nat)(a u v:Int)=>vs=[.ref p,.int a,.int u,.int v]/\Core C H p dx dm dl pl m at_ last/\cg m at_ last/\j' C H p dx dm dl pl (aO (W0 m at_ last) (.unlink a u v)) Q
def Xc (C:J):Sp:=λvs H Q _=>e_9 λ(p dx dm dl pl:J)(m:Md)(at_ last:Nat)(u:Int)=>vs=[.ref p,.int u]/\Core C H p dx dm dl pl m at_ last/\cg m at_ last/\j' C H p dx dm dl pl (aO (W0 m at_ last) (.so u)) Q
def Xd:bZ ["self","mask"] ["self","mask"] (bb Lb):=by left
def ajr (TM:ip K aG)(F:bG K "add_state" "Model.add_state" Lb f fd)(T:Txt K mg):b_ 1 f fd ["self","mask"] (MU aG):=by
 rcases F,Xd with⟨p,dx,dm,dl,pl,m,at_,last,k,rfl,c,hle,hlen,q⟩;have hu:=kX hr;have mp:dm≠p:=bE c.b0 c.obj nofun;have lp:dl≠p:=bE c.links c.obj nofun;have ml:dl≠dm:=bE c.links c.b0 nofun;refine⟨_,(az (dk (pv 0) (b5 ji (aQ (pv 0) O) aZ) O) (az (nX hu (aQ (pv 0) O) (aQ (pv 0) O) (pv 1) O) (aE (aW (aQ (pv 0) O))))),?_⟩;refine⟨p,aG,dx,_,_,O,c.obj,TM.cl,TM.ze,FT _ _ _ _ _,_,_,O,O,p,aG,dx,_,O,c.obj,TM.cl,TM.ze,(by show 5<1000;decide),?_⟩;have fY:M H p (.ins aG dx (fX (.ref dm) (.ref dl) (.int (at_:Nat)) (.int ((last:Nat)+1)) (.ref pl))) p=_:=ah;have zG:M H p (.ins aG dx (fX (.ref dm) (.ref dl) (.int (at_:Nat)) (.int ((last:Nat)+1)) (.ref pl))) dm=_:=(aa mp).trans c.b0;have dU:M H p (.ins aG dx (fX (.ref dm) (.ref dl) (.int (at_:Nat)) (.int ((last:Nat)+1)) (.ref pl))) dl=_:=(aa lp).trans c.links;have k1:bQ [p,dm] H (M H p (.ins aG dx (fX (.ref dm) (.ref dl) (.int (at_:Nat)) (.int ((last:Nat)+1)) (.ref pl)))):=(bQ.refl _ _).M (.inl (by simp));apply qA (G:=λσ H1=>σ=[B (.ref p),B (.int (k:Nat))]/\H1 p=B (.ins aG dx (fX (.ref dm) (.ref dl) (.int (at_:Nat)) (.int ((last+1:Nat):Int)) (.ref pl)))/\H1 dm=B (.dK (cQ m.states))/\H1 dl=B (.dT (bw m.links))/\bQ [p,dm] H H1)
 .intro rest;exact rest _ _ ⟨O,fY,zG,dU,k1⟩
 clear fY zG dU k1;rintro σ H1 ⟨rfl,fY,zG,dU,k1⟩;refine⟨p,aG,dx,_,_,O,fY,TM.cl,TM.f7,i8 _ _ _ _ _,p,aG,dx,_,_,O,fY,TM.cl,TM.ze,FT _ _ _ _ _,dm,_,O,qo.k (k:=.inl ((last+1:Nat):Int)) zG (by rw[jE];exact cY (by lia)),?_⟩;have hn:last+1∉ae m:=λz=>by grind
 rw[W9 hn];refine⟨p,aG,dx,_,_,O,(aa (aP mp)).trans fY,TM.cl,TM.ze,FT _ _ _ _ _,?_⟩;exact q _ (k1.M (.inl (by simp))) ⟨(aa (aP mp)).trans fY,ah,(aa ml).trans dU⟩
def Xe:bZ ["self","mask"] ["self","mask"] (bb K5):=by left
def ajs {f:J}{fd:jk}(TM:ip K aG)(F:bG K "state" "Model.state" K5 f fd)(T:Txt K mg)(zH:f_ aG "add_state" 1 ["self","mask"] (MU aG)):b_ 2 f fd ["self","mask"] (W' aG):=by
 rcases F,Xe with⟨p,dx,dm,dl,pl,m,at_,last,k,rfl,c,ok,q⟩;have cz:=ok.cz;refine⟨_,(az (bc (uD (adb wz AX aZ (pv 1) (aT T.ahv))) (aE (aW (bU (af (aT T.FC) aq)))) bC) (az (bc (bA QR (eJ tF (by rfl) T.gP gQ (af (aQ (pv 0) O) aq)) (aT T.UN) (bY _)) (aE (aW (bU (af (aT T.Lp) aq)))) bC) (aE (aW (bU (af aZ (af (gm (pv 0) zH hr (af (pv 1) aq)) aq))))))),?_⟩;refine⟨_,_,O,O,_,O,?_⟩;by_cases h0:0<=k
 .rw[cw h0];refine bO ⟨_,_,O,O,_,O,?_⟩;by_cases h1:k<256
  .rw[cw h1];refine bN ⟨p,aG,dx,_,_,O,c.obj,TM.cl,TM.f7,i8 _ _ _ _ _,dm,_,O,c.b0,_,_,O,O,_,O,?_⟩;rw[jE];by_cases h2:16<=m.states.length
   .rw[cw (by lia)];rw[show aO (W0 m at_ last) (.state k)=(W0 m at_ last,[-3])from(au (by lia)).trans (aD h2)]at q;exact bO ⟨a_1,λS hS=>q.ask c (bp hS) hS ah⟩
   .rw[eG (by lia)];rw[show aO (W0 m at_ last) (.state k)=({W0 m at_ last with model:={m with states:=m.states++[{id:=last+1,mask:=k.toNat}]},last:=last+1},[0,(last:Int)+1])from(au (by lia)).trans (au h2)]at q;refine bN ⟨p,dx,_,O,c.obj,Vf _ _ _ _ _,?_⟩;refine⟨p,dx,dm,dl,pl,m,at_,last,k.toNat,by grind,c,λu ie=>(ok.le u ie).2,by lia,λH1 k1 c1=>?_⟩;refine⟨a_2,λS hS=>?_⟩;have s2:=bp (o:=.Z [.int 0,.int ((last+1:Nat):Int)]) hS
    have dS:H S=none:=k1.free hS (λz=>by
     have:S=p\/S=dm:=by simpa using z
     rcases this with z|z
     .rw[z,c1.obj]at hS;cases hS
     .rw[z,c1.b0]at hS;cases hS)
    exact q _ S dm dl _ ((k1.mono (λb hb=>by grind)).trans (.jA s2)) (.inl O) (.inl O) (dr.refl _) (c1.same s2) dS ah
  .rw[eG h1];rw[show aO (W0 m at_ last) (.state k)=(W0 m at_ last,[-1])from aD (by lia)]at q;exact bO ⟨a_1,λS hS=>q.ask c (bp hS) hS ah⟩
 .rw[eG h0];rw[show aO (W0 m at_ last) (.state k)=(W0 m at_ last,[-1])from aD (by lia)]at q;refine bN ⟨_,O,?_⟩;exact bO ⟨a_1,λS hS=>q.ask c (bp hS) hS ah⟩
def Xf:bZ ["self","number"] ["self","number"] (bb K8):=by left
def ajt {f:J}{fd:jk}(TM:ip K aG)(F:bG K "so" "Model.so" K8 f fd)(T:Txt K mg):b_ 1 f fd ["self","number"] (Xc aG):=by
 rcases F,Xf with⟨p,dx,dm,dl,pl,m,at_,last,u,rfl,c,ok,q⟩;have hu:=kX hr;have mp:dm≠p:=bE c.b0 c.obj nofun;have lp:dl≠p:=bE c.links c.obj nofun;refine⟨_,(az (bc (iX (tm hu (pv 1) (aQ (pv 0) O))) (aE (aW (bU (af (aT T.FD) aq)))) bC) (az (dk (pv 0) (pv 1) O) (aE (aW (bU (af aZ aq)))))),?_⟩;refine⟨p,aG,dx,_,_,O,c.obj,TM.cl,TM.f7,i8 _ _ _ _ _,dm,_,O,f6.k (k:=.inl u) c.b0,_,O,?_⟩;rw[vn];cases ht:eB m u with
 |false=>rw[show aO (W0 m at_ last) (.so u)=(W0 m at_ last,[-4])from aD ht]at q;exact bO ⟨a_1,λS hS=>q.ask c (bp hS) hS ah⟩
 |true=>rw[show aO (W0 m at_ last) (.so u)=({W0 m at_ last with at_:=u.toNat},[0])from au (by rw[show eB (W0 m at_ last).model u=L from ht];simp)]at q;obtain⟨n,hn,rfl⟩:=oh.mp ht;rw[ij]at q;refine bN ⟨p,aG,dx,_,O,c.obj,TM.cl,TM.gZ,(by show 5<1000;decide),?_⟩;refine⟨a_1,λS hS=>?_⟩;have pS:p≠S:=aK ah hS;have jy:H S=none:=(aa (aP pS)).symm.trans hS;have mS:dm≠S:=aK c.b0 jy;have lS:dl≠S:=aK c.links jy;exact q _ S dm dl m (((bQ.refl _ _).M (.inl (by simp))).M (.inr jy)) (.inl O) (.inl O) (dr.refl _) ⟨(aa pS).trans ah,(aa mS).trans ((aa mp).trans c.b0),(aa lS).trans ((aa lp).trans c.links)⟩ jy ah
def Xg:bZ ["self","agent","start","end"] ["self","agent","start","end"] (bb K6):=by left
def aju {f:J}{fd:jk}(TM:ip K aG)(F:bG K "link" "Model.link" K6 f fd)(T:Txt K mg)(zI:c_ "is_agent_number" 1 ["agent"] (LA)):b_ 2 f fd ["self","agent","start","end"] (Xa aG):=by
 rcases F,Xg with⟨p,dx,dm,dl,pl,m,at_,last,a,u,v,rfl,c,ok,q⟩;have hu:=kX hr;have ml:dm≠dl:=bE c.b0 c.links nofun;have lp:p≠dl:=bE c.obj c.links nofun;refine⟨_,(az (bc (uD (lL (b7 zI hr (by rfl) (af (pv 1) aq)))) (aE (aW (bU (af (aT T.FC) aq)))) bC) (az (bc (PW.pt (yn (iX (tm hu (pv 2) (aQ (pv 0) O))) (ym (iX (tm hu (pv 3) (aQ (pv 0) O)))))) (aE (aW (bU (af (aT T.FD) aq)))) bC) (az (bc (iX (yJ hu (iZ (af (pv 1) (af (pv 2) (af (pv 3) aq)))) (aQ (pv 0) O))) (aE (aW (bU (af (aT T.ahq) aq)))) bC) (az (bc (bA QR (eJ BB (by rfl) T.gP gQ (af (aQ (pv 0) O) aq)) (aT T.UO) (bY _)) (aE (aW (bU (af (aT T.Lp) aq)))) bC) (az (nX hu (aQ (pv 0) O) (iZ (af (pv 1) (af (pv 2) (af (pv 3) aq)))) nN O) (aE (aW (bU (af aZ aq))))))))),?_⟩;refine⟨_,O,_,O,?_⟩;by_cases ha:0<=a/\a<4
 .have ia:o4 a=true:=by unfold o4;rw[cw ha.1,cw (show a<((Vbtaag.AGENTS:Nat):Int)from ha.2)];rfl
  rw[cw ha];refine bN ?_;have q1:aO (W0 m at_ last) (.link a u v)=if(eB m u&&eB m v)=aH then(W0 m at_ last,[-4])else if lq m a u v=L then(W0 m at_ last,[-5])else if 200<=m.links.length then(W0 m at_ last,[-3])else({W0 m at_ last with model:={m with links:=m.links++[{a:=a.toNat,u:=u.toNat,v:=v.toNat}]}},[0]):=au (by grind)
  rw[q1]at q;refine⟨p,aG,dx,_,_,O,c.obj,TM.cl,TM.f7,i8 _ _ _ _ _,dm,_,O,f6.k (k:=.inl u) c.b0,_,O,?_⟩;rw[vn];cases fh:eB m u with
  |false=>rw[fh,ye,aD rfl]at q;refine bO ?_;exact bO ⟨a_1,λS hS=>q.ask c (bp hS) hS ah⟩
  |true=>
   rw[fh,gc]at q;refine bN ⟨p,aG,dx,_,_,O,c.obj,TM.cl,TM.f7,i8 _ _ _ _ _,dm,_,O,f6.k (k:=.inl v) c.b0,_,O,?_⟩;rw[vn];cases o5:eB m v with
   |false=>rw[o5,aD rfl]at q;exact bO ⟨a_1,λS hS=>q.ask c (bp hS) hS ah⟩
   |true=>
    rw[o5,au (λz=>jU z)]at q;refine bN ⟨a_3,λt ht=>?_⟩;have s1:aw H (M H t (.tup [.int a,.int u,.int v])):=bp ht;refine⟨p,aG,dx,_,_,O,s1 _ _ c.obj,TM.cl,TM.gY,jq _ _ _ _ _,dl,_,O,f6.t (k:=[.inl a,.inl u,.inl v]) (s1 _ _ c.links) ah,_,O,?_⟩;rw[Gn];cases dU:lq m a u v with
    |true=>rw[dU,aD rfl]at q;exact bO ⟨a_1,λS hS=>q.ask c (s1.trans (bp hS)) (s1.free hS) ah⟩
    |false=>
     rw[dU,au (λz=>jU z)]at q;refine bN ⟨p,aG,dx,_,_,O,s1 _ _ c.obj,TM.cl,TM.gY,jq _ _ _ _ _,dl,_,O,s1 _ _ c.links,_,_,O,O,_,O,?_⟩;rw[lh];by_cases h2:200<=m.links.length
     .rw[cw (by lia)];rw[aD h2]at q;exact bO ⟨a_1,λS hS=>q.ask c (s1.trans (bp hS)) (s1.free hS) ah⟩
     .rw[eG (by lia)];rw[au h2]at q;refine bN ⟨p,aG,dx,_,_,O,s1 _ _ c.obj,TM.cl,TM.gY,jq _ _ _ _ _,a_3,λt2 fD=>?_⟩;have s2:aw H (M (M H t (.tup [.int a,.int u,.int v])) t2 (.tup [.int a,.int u,.int v])):=aS s1 (s1.free fD);refine⟨dl,_,O,.inr ⟨_,[.inl a,.inl u,.inl v],t2,s2 _ _ c.links,O,ah,by rw[lh];exact cY (by lia),O⟩,?_⟩
      have j9:cE (bw m.links) [.inl a,.inl u,.inl v]=none:=by
       cases e:cE (bw m.links) [.inl a,.inl u,.inl v]with
       |none=>rfl
       |some x=>have:=Gn m a u v;rfl'
      obtain⟨nu,hnu,eu⟩:=oh.mp fh;obtain⟨nv,hnv,ev⟩:=oh.mp o5
      have ek:([.inl a,.inl u,.inl v]:List Key)=fc {a:=a.toNat,u:=u.toNat,v:=v.toNat}:=by unfold fc;grind
      have ep:putK (bw m.links) [.inl a,.inl u,.inl v] (.bl L)=bw (m.links++[{a:=a.toNat,u:=u.toNat,v:=v.toNat}]):=by rw[wL _ j9,ek];unfold bw;simp
      rw[ep];refine⟨a_1,λS hS=>?_⟩;have lS:dl≠S:=aK ah hS;have MV:M (M H t (.tup [.int a,.int u,.int v])) t2 (.tup [.int a,.int u,.int v]) S=none:=(aa (aP lS)).symm.trans hS;have jy:H S=none:=s2.free MV;have mS:dm≠S:=aK c.b0 jy;have pS:p≠S:=aK c.obj jy;refine q _ S dm dl _ (((bQ.jA s2).M (.inl (by simp))).M (.inr jy)) (.inl O) (.inl O) (dr.refl _) ⟨(aa pS).trans ((aa lp).trans (s2 _ _ c.obj)),(aa mS).trans ((aa ml).trans (s2 _ _ c.b0)),(aa lS).trans ah⟩ jy ah
 .have ia:o4 a=false:=by
   unfold o4;rw[Bool.and_eq_false_iff];by_cases h:0<=a
   .exact .inr (eG λz=>ha ⟨h,z⟩)
   rfl'
  rw[eG ha];rw[show aO (W0 m at_ last) (.link a u v)=(W0 m at_ last,[-1])from aD ia]at q;exact bO ⟨a_1,λS hS=>q.ask c (bp hS) hS ah⟩
def Xh:bZ ["self","agent","start","end"] ["self","agent","start","end"] (bb K7):=by left
def ajv {f:J}{fd:jk}(TM:ip K aG)(F:bG K "unlink" "Model.unlink" K7 f fd)(T:Txt K mg):b_ 1 f fd ["self","agent","start","end"] (Xb aG):=by
 rcases F,Xh with⟨p,dx,dm,dl,pl,m,at_,last,a,u,v,rfl,c,ok,q⟩;have hu:=kX hr;have ml:dm≠dl:=bE c.b0 c.links nofun;have lp:p≠dl:=bE c.obj c.links nofun;refine⟨_,(az (bc (iX (tm hu (iZ (af (pv 1) (af (pv 2) (af (pv 3) aq)))) (aQ (pv 0) O))) (aE (aW (bU (af (aT T.ahr) aq)))) bC) (az (dF (af0 hu (aQ (pv 0) O) (iZ (af (pv 1) (af (pv 2) (af (pv 3) aq)))) ⟨O,O,O,O⟩)) (aE (aW (bU (af aZ aq)))))),?_⟩;refine⟨a_3,λt ht=>?_⟩;have s1:aw H (M H t (.tup [.int a,.int u,.int v])):=bp ht;refine⟨p,aG,dx,_,_,O,s1 _ _ c.obj,TM.cl,TM.gY,jq _ _ _ _ _,dl,_,O,f6.t (k:=[.inl a,.inl u,.inl v]) (s1 _ _ c.links) ah,_,O,?_⟩;rw[Gn];cases dU:lq m a u v with
 |false=>rw[show aO (W0 m at_ last) (.unlink a u v)=(W0 m at_ last,[-6])from aD dU]at q;exact bO ⟨a_1,λS hS=>q.ask c (s1.trans (bp hS)) (s1.free hS) ah⟩
 |true=>
  rw[show aO (W0 m at_ last) (.unlink a u v)=({W0 m at_ last with model:={m with links:=m.links.filter λl=>!((l.a:Int)==a&&((l.u:Int)==u&&(l.v:Int)==v))}},[0])from au (by rw[show lq (W0 m at_ last).model a u v=L from dU];simp)]at q
  obtain⟨x,hx⟩:∃x,cE (bw m.links) [.inl a,.inl u,.inl v]=B x:=by have:=Gn m a u v;rw[dU]at this;exact El.mp this
  refine bN ⟨p,aG,dx,_,_,O,s1 _ _ c.obj,TM.cl,TM.gY,jq _ _ _ _ _,dl,O,.inr ⟨_,.inl (s1 _ _ c.links)⟩,a_3,λt2 fD=>?_⟩;have s2:aw H (M (M H t (.tup [.int a,.int u,.int v])) t2 (.tup [.int a,.int u,.int v])):=aS s1 (s1.free fD);refine⟨_,[.inl a,.inl u,.inl v],x,t2,s2 _ _ c.links,O,ah,hx,?_⟩
  have ed:wK (bw m.links) [.inl a,.inl u,.inl v]=bw (m.links.filter λl=>!((l.a:Int)==a&&((l.u:Int)==u&&(l.v:Int)==v))):=by
   unfold wK bw;rw[yb];congr 1;refine si λl _=>?_;show decide (fc l≠[cC a,cC u,cC v])=!((l.a:Int)==a&&((l.u:Int)==u&&(l.v:Int)==v));by_cases h:(l.a:Int)=a/\(l.u:Int)=u/\(l.v:Int)=v
   .rw[eG (λz=>z (by unfold fc;grobner)),h.1,h.2.1,h.2.2];simp
   .rw[cw (show fc l≠[cC a,cC u,cC v]from λz=>h (by unfold fc at z;grobner))];all_goals grobner
  rw[ed];refine⟨a_1,λS hS=>?_⟩;have lS:dl≠S:=aK ah hS;have MV:M (M H t (.tup [.int a,.int u,.int v])) t2 (.tup [.int a,.int u,.int v]) S=none:=(aa (aP lS)).symm.trans hS;have jy:H S=none:=s2.free MV;have mS:dm≠S:=aK c.b0 jy;have pS:p≠S:=aK c.obj jy;refine q _ S dm dl _ (((bQ.jA s2).M (.inl (by simp))).M (.inr jy)) (.inl O) (.inl O) (dr.refl _) ⟨(aa pS).trans ((aa lp).trans (s2 _ _ c.obj)),(aa mS).trans ((aa ml).trans (s2 _ _ c.b0)),(aa lS).trans ah⟩ jy ah
def Xi (h:n∈ae m):cE (cQ m.states) (.inl (n:Int))=B (.int ((cF m n:Nat):Int)):=by
 unfold cE cQ cF;rw[MW]
 have e:((λkv=>decide (kv.1=cC (n:Int)))∘λs:State1=>((cC (s.id:Int),V.int (s.mask:Int)):Key×V))=λx=>x.id==n:=funext λx=>by grind
 rw[e];obtain⟨s,hs,rfl⟩:=cx.mp h;cases e2:m.states.find? (λx=>x.id==s.id)with
 |none=>grind
 |some x=>rfl
noncomputable def lu (m:Md)(ns:List Nat):List State1:=ns.map λn=>⟨n,cF m n⟩
def Xj (m:Md)(ns:List Nat)(ls:List cD):ae ⟨lu m ns,ls⟩=ns:=by unfold ae lu;rw[gw];exact MX _
def ajw (hn:(ae m).Nodup)(pr:Nat->Bool):lu m ((ae m).filter pr)=m.states.filter λx=>pr x.id:=by
 unfold lu ae;rw[yb,gw]
 have:∀x∈m.states.filter (pr∘λx=>x.id),((λn=>(⟨n,cF m n⟩:State1))∘λx=>x.id) x=x:=λx hx=>by have hx:=(fw.mp hx).1;obtain⟨i,hi⟩:=lX hx;show(⟨x.id,cF m x.id⟩:State1)=x;rw[xn hn hi]
 rw[lj this,List.map_id'];rfl
def MY {ns:List Nat}{u:Nat}:(cE (cQ (lu m ns)) (.inl (u:Int))).isSome=ns.contains u:=by have:=vn ⟨lu m ns,[]⟩ (u:Int);rw[show(⟨lu m ns,[]⟩:Md).states=lu m ns from rfl]at this;rw[this];have h:=@oh ⟨lu m ns,[]⟩ (u:Int);rw[Xj]at h;rfl'
def ajx (h:fc l=fc k):l=k:=by
 unfold fc at h;simp only[Xk,Sum.inl.injEq,and_true]at h;obtain⟨a,b,c⟩:=h;cases l;cases k
 grind
def ajy (h:l∉ls):cE (bw ls) (fc l)=none:=xm λp hp=>by obtain⟨k,hk,rfl⟩:=cx.mp hp;intro z;exact h (ajx z▸hk)
def Gr (h:l∉ls):putK (bw ls) (fc l) (.bl L)=bw (ls++[l]):=by rw[wL _ (ajy h)];unfold bw;simp
def ajz (h:l∈ls):putK (bw ls) (fc l) (.bl L)=bw ls:=by
 unfold putK;rw[aD]
 .unfold bw;simp
 .rw[nH];exact⟨(fc l,.bl L),cx.mpr ⟨l,h,O⟩,by simp⟩
def t5 (K:aM)(C:J):Sp:=λvs H Q _=>e_10 λ(p dx dm dl pl a:J)(m:Md)(at_ last:Nat)(f:bo)=>vs=[.ref p,.ref a]/\Core C H p dx dm dl pl m at_ last/\fg m/\aC K H a (aA (enc f))/\Wf f/\(enc f).length<=400/\
 ∀(H':Hp)(S:J),aw H H'->H S=N->H' S=B (.Z (aA (aU f m)))->Q (.ref S) H'
def Xl (C:J):Sp:=λvs H Q _=>e_9 λ(p dx dm dl pl:J)(m:Md)(at_ last a:Nat)=>vs=[.ref p,.int (a:Nat)]/\Core C H p dx dm dl pl m at_ last/\m.links.length<=200/\
 ∀(H':Hp)(S:J),aw H H'->H S=N->H' S=B (.Z (aA ((m.links.filter λl=>l.a==a&&l.u==at_).map λl=>l.v)))->Q (.ref S) H'
def Cs (K:aM)(C:J):Sp:=λvs H Q _=>e_10 λ(p dx dm dl pl a:J)(m:Md)(at_ last:Nat)(pr:Nat->Bool)=>vs=[.ref p,.ref a]/\Core C H p dx dm dl pl m at_ last/\fg m/\m.links.Nodup/\aC K H a (aA ((ae m).filter pr))/\
 ∀(H':Hp)(eM fj:J),bQ [p] H H'->H eM=N->H fj=N->Core C H' p dx eM fj pl (dh m pr) (if at_∈(ae m).filter pr then at_ else 0) last->Q .bB H'
def Xm (C:J):Sp:=λvs H Q _=>e_9 λ(p dx dm dl pl:J)(m:Md)(at_ last:Nat)(u:Int)=>vs=[.ref p,.int u]/\Core C H p dx dm dl pl m at_ last/\cg m at_ last/\j' C H p dx dm dl pl (aO (W0 m at_ last) (.drop u)) Q
def Xn:bZ ["self","signs"] ["self","signs"] (bb Ld):=by left
def ajA (TM:ip K aG)(F:bG K "where" "Model.where" Ld f fd)(T:Txt K mg)(MZ:c_ "states_where" 6 ["masks","links","signs"] (W4 K)):b_ 7 f fd ["self","signs"] (t5 K aG):=by rcases F,Xn with⟨p,dx,dm,dl,pl,a,m,at_,last,f',rfl,c,ok,hS,hw,hl,q⟩;refine⟨_,(aE (aW (b7 MZ hr (by rfl) (af (aQ (pv 0) O) (af (aQ (pv 0) O) (af (pv 1) aq)))))),?_⟩;refine⟨p,aG,dx,_,_,O,c.obj,TM.cl,TM.f7,i8 _ _ _ _ _,p,aG,dx,_,_,O,c.obj,TM.cl,TM.gY,jq _ _ _ _ _,?_⟩;exact⟨dm,dl,a,m,f',O,c.b0,c.links,ok,hS,hw,hl,q⟩
def Xo:bZ ["self","agent","who","start","end"] ["self","agent"] (bb Fy):=by left
def ajB (TM:ip K aG)(F:bG K "taken_for_possible" "Model.taken_for_possible" Fy f fd)(T:Txt K mg):b_ 1 f fd ["self","agent"] (Xl aG):=by
 rcases F,Xo with⟨p,dx,dm,dl,pl,m,at_,last,a,rfl,c,hl,q⟩;have lp:p≠dl:=bE c.obj c.links nofun;refine⟨_,(aE (aW (JF (lT O nd (uY (aQ (pv 0) O)) (jS (own:=[("who",2),("start",3),("end",4)]) (by show jn ["self","agent","who","start","end"] (bb Fy) _ _=L;decide+kernel)) (λ_ _ _ _ _=>(VD (K:=K) (n:=3) O O (df (bX (i:=2) nd O (bM O)) (df (bX (i:=3) nd O (bM O)) (df (bX (i:=4) nd O (bM O)) jx))))) (λ_ _ _ _ _=>(yE (PW.pt (qa (bA cy (pv 2) (pv 1) (bY _)) (p9 (bA cy (pv 3) (zl (K:=K) O (pv 0) O) (bY _))))))) (λ_ _ _ _ _=>(pv 4)))))),?_⟩;refine⟨dl,_,c.links,trivial,λod=>⟨p,aG,dx,_,_,O,(aa lp).trans c.obj,TM.cl,TM.gY,jq _ _ _ _ _,dl,od,O,.inr ⟨_,ah,λG hG=>?_⟩⟩⟩;have Gl:G≠dl:=λz=>by rw[z,ah]at hG;cases hG
 have vo:H G=none:=(aa Gl).symm.trans hG;refine qv (n:=(bw m.links).length) (λj H'=>aw (M H dl (.bF od (.dT (bw m.links)))) H'/\H' G=B (.Z (aA (((m.links.take j).filter λl=>l.a==a&&l.u==at_).map λl=>l.v)))) ⟨bp hG,ah⟩ (λj H' hj z=>⟨z.1 _ _ ah,hj⟩) (λH' z=>⟨z.1 _ _ ah,aX _⟩) ?_ ?_
 .rintro j x H1 H2 hj ⟨s1,g1⟩ ⟨rfl,kx,vx,t,hk,rfl,ht⟩;obtain⟨l,dU,rfl,rfl⟩:=zv hk;refine⟨t,_,O,cW.of ht,O,_,_,O,_,_,O,_,_,O,O,O,?_⟩
  have hlen:(((m.links.take j).filter λl=>l.a==a&&l.u==at_).map λl=>l.v).length<=200:=by grind
  have en:((m.links.take (j+1)).filter λl=>l.a==a&&l.u==at_).map (λl=>l.v)=((m.links.take j).filter λl=>l.a==a&&l.u==at_).map (λl=>l.v)++(if(l.a==a&&l.u==at_)=L then[l.v]else[]):=by rw[take_snoc dU,nj,f9,kY];congr 1;cases(l.a==a&&l.u==at_)<;>rfl
  refine⟨O,_,O,?_⟩;by_cases h1:l.a=a
  .refine dC (by lia) ⟨p,aG,dx,_,_,O,s1 _ _ ((aa lp).trans c.obj),TM.cl,TM.gZ,jz _ _ _ _ _,O,_,O,?_⟩;by_cases h2:l.u=at_
   .rw[aD (by simp[h1,h2])]at en;refine dC (by lia) ⟨_,g1,by rw[bP];exact cY (by lia),aS s1 hG,?_⟩;rw[ah,en];exact cb B (cb HO.Z (ng _ _))
   .rw[au (by simp[h2]),fV]at en;rw[<-en]at g1;exact cX (by lia) ⟨s1,g1⟩
  .rw[au (by simp[h1]),fV]at en;rw[<-en]at g1;refine cX (by lia) ?_;exact bN ⟨s1,g1⟩
 .rintro H1 ⟨s1,g1⟩;rw[lh,eE]at g1;exact⟨s1 _ _ ah,q _ G (unlock s1 c.links) vo ((aa Gl).trans g1)⟩
def Xp:bZ ["self","numbers","masks_left","number","links_left","agent","start","end"] ["self","numbers"] (bb Le):=by left
def ajC (TM:ip K aG)(F:bG K "keep_only" "Model.keep_only" Le f fd)(T:Txt K mg):b_ 1 f fd ["self","numbers"] (Cs K aG):=by
 rcases F,Xp with⟨p,dx,dm,dl,pl,a,m,at_,last,pr,rfl,c,ok,gq,hS,q⟩;have hu:=kX hr;have lp:p≠dl:=bE c.obj c.links nofun;have cz:=ok.cz;have Ct:=ok.iS;refine⟨_,(az (bz 2 nd yK) (az (eZ dR O (iY (pv 1)) (bX (i:=3) nd O (bM O)) (aE (nX hu (pv 2) (pv 3) (lU hu (aQ (pv 0) O) (pv 3) (λ_ _=>rfl)) O))) (az (bz 4 nd Bn) (az (uW (eZ dR O (uY (aQ (pv 0) O)) (jP O (df (bX (i:=5) nd O (bM O)) (df (bX (i:=6) nd O (bM O)) (df (bX (i:=7) nd O (bM O)) jx)))) (aE (bc (PW.pt (qa (iX (yJ hu (pv 6) (pv 2))) (p9 (iX (yJ hu (pv 7) (pv 2)))))) (aE (nX hu (pv 4) (iZ (af (pv 5) (af (pv 6) (af (pv 7) aq)))) nN O)) bC)))) (az (dk (pv 0) (pv 2) O) (az (dk (pv 0) (pv 4) O) (aE (bc (iX (tm hu (aQ (pv 0) O) (pv 2))) (aE (dk (pv 0) aZ O)) bC)))))))),?_⟩;intro D hD;have s1:aw H (M H D (.dK [])):=bp hD;have tI:∀n∈(ae m).filter pr,n∈ae m:=λn hn=>(fw.mp hn).1;have Xq:((ae m).filter pr).Nodup:=ok.nd.filter _;have ajD:((ae m).filter pr).length<=16:=fJ (jT _ _) (by rw[gD];exact cz)
 have eo:dh m pr=⟨lu m ((ae m).filter pr),m.links.filter λl=>((ae m).filter pr).contains l.u&&((ae m).filter pr).contains l.v⟩:=by unfold dh;rw[ajw ok.nd];congr 1;refine si λl hl=>?_;have:=ok.ends l hl;grind
 rw[eo]at q;generalize(ae m).filter pr=ns at hS tI Xq ajD q;refine⟨a,O,⟨_,s1.seq hS⟩,mE (K:=K) (a:=a) (xs:=aA ns) (λi σ H'=>∃v3,σ=[B (.ref p),B (.ref a),B (.ref D),v3,N,N,N,N]/\aw H H'/\H' D=B (.dK (cQ (lu m (ns.take i))))) ⟨N,O,s1,ah⟩ (λi σ H' _ ⟨_,_,s2,_⟩=>s2.seq hS) ?_ ?_⟩
 .rintro i x σ H1 hi ⟨v3,rfl,s2,d2⟩;obtain⟨n,hn,rfl⟩:=jB hi;have dA:=cR hn;refine⟨p,aG,dx,_,_,O,s2 _ _ c.obj,TM.cl,TM.f7,i8 _ _ _ _ _,dm,_,O,.inl ⟨_,.inl ((n:Nat):Int),.inl (s2 _ _ c.b0),O,(Xi (tI n (gG hn))).symm⟩,D,_,O,qo.k (k:=.inl ((n:Nat):Int)) d2 (by rw[jE];unfold lu;rw[dj,eF];exact cY (by lia)),_,O,aS s2 hD,?_⟩
  have hnn:n∉ae ⟨lu m (ns.take i),[]⟩:=by rw[Xj];intro z;obtain⟨j,hj⟩:=lX z;have gu:=cR hj;rw[eF]at gu;rw[tV,aD (by lia)]at hj;have:=zx Xq hj hn;lia
  have ep:=W9 (m:=⟨lu m (ns.take i),[]⟩) (k:=cF m n) hnn;rw[ah];refine cb B (cb HO.dK (ep.trans ?_));unfold lu;rw[take_snoc hn,f9];rfl
 rintro σ H1 ⟨v3,rfl,s2,d2⟩;rw[bP,eE]at d2;intro D2 xo;have xp:=s2.free xo;have DD:D≠D2:=aK d2 xo;have s3:aw H (M H1 D2 (.dT [])):=aS s2 xp;have d3:M H1 D2 (.dT []) D=_:=(aa DD).trans d2;have M0:D2≠dl:=λz=>by rw[z,c.links]at xp;cases xp
 have Dl:D≠dl:=λz=>by rw[z,c.links]at hD;cases hD
 have Dp:p≠D:=aK c.obj hD;have Xr:p≠D2:=aK c.obj xp;refine⟨dl,_,s3 _ _ c.links,trivial,λod=>⟨p,aG,dx,_,_,O,(aa lp).trans (s3 _ _ c.obj),TM.cl,TM.gY,jq _ _ _ _ _,dl,od,O,.inr ⟨_,ah,?_⟩⟩⟩
 have sL:aw (M H dl (.bF od (.dT (bw m.links)))) (M (M H1 D2 (.dT [])) dl (.bF od (.dT (bw m.links)))):=λb o e=>by
  by_cases z:b=dl
  .rw[z]at e ⊢;rw[ah]at e ⊢;exact e
  .rw[aa z]at e ⊢;exact s3 _ _ e
 have nL:M H dl (.bF od (.dT (bw m.links))) D2=none:=(aa M0).trans xp;have nL1:M H dl (.bF od (.dT (bw m.links))) D=none:=(aa Dl).trans hD
 refine jr (n:=(bw m.links).length) (λj σ H'=>e_3 λv5 v6 v7=>σ=[B (.ref p),B (.ref a),B (.ref D),v3,B (.ref D2),v5,v6,v7]/\aw (M H dl (.bF od (.dT (bw m.links)))) H'/\H' D=B (.dK (cQ (lu m ns)))/\H' D2=B (.dT (bw ((m.links.take j).filter λl=>ns.contains l.u&&ns.contains l.v))))
  ⟨N,N,N,O,sL,(aa Dl).trans d3,(aa M0).trans ah⟩ (λj σ H' hj ⟨_,_,_,_,s,_⟩=>⟨s _ _ ah,hj⟩) (λσ H' ⟨_,_,_,_,s,_⟩=>⟨s _ _ ah,aX _⟩) ?_ ?_
 .rintro j x σ H3 H4 hj ⟨v5,v6,v7,rfl,s4,d4,e4⟩ ⟨rfl,kx,vx,t,hk,rfl,ht⟩;obtain⟨l,dU,rfl,rfl⟩:=zv hk;have gu:=cR dU
  have en:(m.links.take (j+1)).filter (λl=>ns.contains l.u&&ns.contains l.v)=(m.links.take j).filter (λl=>ns.contains l.u&&ns.contains l.v)++(if(ns.contains l.u&&ns.contains l.v)=L then[l]else[]):=by rw[take_snoc dU,nj,kY];congr 1
  refine⟨t,_,O,cW.of ht,O,_,_,O,_,_,O,_,_,O,O,?_⟩;refine⟨D,_,O,f6.k (k:=.inl (l.u:Int)) d4,_,O,?_⟩;rw[MY];cases fh:ns.contains l.u with
  |false=>rw[fh,ye,au eN,fV]at en;rw[<-en]at e4;refine bN ?_;exact bN ⟨_,_,_,O,s4,d4,e4⟩
  |true=>
   rw[fh,gc]at en;refine bO ⟨D,_,O,f6.k (k:=.inl (l.v:Int)) d4,_,O,?_⟩;rw[MY];cases o5:ns.contains l.v with
   |false=>rw[o5,au eN,fV]at en;rw[<-en]at e4;exact bN ⟨_,_,_,O,s4,d4,e4⟩
   |true=>
    rw[o5,aD rfl]at en;refine bO ⟨a_3,λt2 fD=>?_⟩;have n1:D2≠t2:=aK e4 fD;have n2:D≠t2:=aK d4 fD;have nD:D≠D2:=DD;refine⟨D2,_,O,.inr ⟨_,fc l,t2,(aa n1).trans e4,O,ah,?_,O⟩,_,_,_,O,aS (aS s4 (s4.free fD)) nL,?_,?_⟩
    .rw[lh];exact rE (jT _ _) (by rw[eF];exact cY (by lia))
    .exact(aa nD).trans ((aa n2).trans d4)
    .rw[ah,en,Gr];intro z;have z:=(fw.mp z).1;obtain⟨i,hi⟩:=lX z;have dA:=cR hi;rw[eF]at dA;rw[tV,aD (by lia)]at hi;have h1:=cR hi;rw[cc h1]at hi;rw[cc gu]at dU;have:=(yj gq).mp (iO (hi.trans dU.symm));lia
 rintro σ H3 ⟨v5,v6,v7,rfl,s4,d4,e4⟩;rw[lh,eE]at e4;refine⟨s4 _ _ ah,?_⟩;have s5:aw H (M H3 dl (.dT (bw m.links))):=unlock s4 c.links;have d5:M H3 dl (.dT (bw m.links)) D=_:=(aa Dl).trans d4;have e5:M H3 dl (.dT (bw m.links)) D2=_:=(aa M0).trans e4;generalize M H3 dl (.dT (bw m.links))=H5 at s5 d5 e5;refine⟨p,aG,dx,_,O,s5 _ _ c.obj,TM.cl,TM.f7,(by show 5<1000;decide),?_⟩;refine⟨p,aG,dx,_,O,ah,TM.cl,TM.gY,(by show 5<1000;decide),?_⟩;rw[mz];refine⟨p,aG,dx,_,_,O,ah,TM.cl,TM.gZ,jz (.ref D) (.ref D2) _ _ _,D,_,O,f6.k (k:=.inl (at_:Int)) ((aa (aP Dp)).trans d5),_,O,?_⟩;rw[MY];by_cases gC:at_∈ns
 .rw[show ns.contains at_=L by simpa using gC];rw[aD gC]at q;refine bN (q _ D D2 ((bQ.jA s5).M (.inl (by simp))) hD xp ⟨ah,(aa (aP Dp)).trans d5,(aa (aP Xr)).trans e5⟩)
 .have:ns.contains at_=false:=by grind
  rw[this];rw[au gC]at q;refine bO ⟨p,aG,dx,_,O,ah,TM.cl,TM.gZ,(by show 5<1000;decide),?_⟩;rw[mz];exact q _ D D2 ((bQ.jA s5).M (.inl (by simp))) hD xp ⟨ah,(aa (aP Dp)).trans d5,(aa (aP Xr)).trans e5⟩
def Xs:bZ ["self","number","other"] ["self","number"] (bb Fx):=by left
def ajF (TM:ip K aG)(F:bG K "drop" "Model.drop" Fx f fd)(T:Txt K mg)(oj:f_ aG "keep_only" 1 ["self","numbers"] (Cs K aG)):b_ 2 f fd ["self","number"] (Xm aG):=by
 rcases F,Xs with⟨p,dx,dm,dl,pl,m,at_,last,u,rfl,c,ok,q⟩;have hu:=kX hr;have mp:p≠dm:=bE c.obj c.b0 nofun;refine⟨_,(az (bc (iX (tm hu (pv 1) (aQ (pv 0) O))) (aE (aW (bU (af (aT T.FD) aq)))) bC) (az (dF (gm (pv 0) oj hr (af (JF (lT O nd (uY (aQ (pv 0) O)) (jS (own:=[("other",2)]) (by show jn ["self","number","other"] (bb Fx) _ _=L;decide+kernel)) (λ_ _ _ _ _=>(bX (i:=2) nd O (bM O))) (λ_ _ _ _ _=>(yE (bA AW (pv 2) (pv 1) (bY _)))) (λ_ _ _ _ _=>(pv 2)))) aq))) (aE (aW (bU (af aZ aq)))))),?_⟩;refine⟨p,aG,dx,_,_,O,c.obj,TM.cl,TM.f7,i8 _ _ _ _ _,dm,_,O,f6.k (k:=.inl u) c.b0,_,O,?_⟩;rw[vn];cases ht:eB m u with
 |false=>rw[show aO (W0 m at_ last) (.drop u)=(W0 m at_ last,[-4])from aD ht]at q;exact bO ⟨a_1,λS hS=>q.ask c (bp hS) hS ah⟩
 |true=>
  rw[show aO (W0 m at_ last) (.drop u)=({W0 m at_ last with model:=dh m λx=>(x:Int)!=u,at_:=if(at_:Int)=u then 0 else at_},[0])from au (by rw[show eB (W0 m at_ last).model u=L from ht];simp)]at q;obtain⟨n,hn,rfl⟩:=oh.mp ht;refine bN ⟨p,dx,_,O,c.obj,BV _ _ _ _ _,dm,_,c.b0,trivial,λod=>⟨p,aG,dx,_,_,O,(aa mp).trans c.obj,TM.cl,TM.f7,i8 _ _ _ _ _,dm,od,O,.inl ⟨_,ah,λG hG=>?_⟩⟩⟩;have Gm:G≠dm:=λz=>by rw[z,ah]at hG;cases hG
  have vo:H G=none:=(aa Gm).symm.trans hG;refine qv (n:=(cQ m.states).length) (λj H'=>aw (M H dm (.bF od (.dK (cQ m.states)))) H'/\H' G=B (.Z (aA (((ae m).take j).filter λx:Nat=>(x:Int)!=(n:Int))))) ⟨bp hG,ah⟩ (λj H' hj z=>⟨z.1 _ _ ah,hj⟩) (λH' z=>⟨z.1 _ _ ah,aX _⟩) ?_ ?_
  .rintro j x H1 H2 hj ⟨s1,g1⟩ ⟨rfl,kx,vx,hk,rfl⟩;obtain⟨st,eY,rfl,rfl⟩:=Ga hk;have nZ:(ae m)[j]?=B st.id:=by unfold ae;grobner
   have gu:=cR eY;refine⟨O,O,_,O,?_⟩
   have en:((ae m).take (j+1)).filter (λx:Nat=>(x:Int)!=(n:Int))=((ae m).take j).filter (λx:Nat=>(x:Int)!=(n:Int))++(if((st.id:Int)!=(n:Int))=L then[st.id]else[]):=by rw[take_snoc nZ,nj,kY];congr 1
   by_cases h1:st.id=n
   .rw[au (by simp[h1]),fV]at en;rw[<-en]at g1;have:decide (V.int (st.id:Int)=V.int (n:Int))=true:=vd (by cutsat);show if(!decide (V.int (st.id:Int)=V.int (n:Int)))=L then _ else _
    rw[this];exact bN ⟨s1,g1⟩
   .rw[aD (bne_iff_ne.mpr (by cutsat))]at en;have:decide (V.int (st.id:Int)=V.int (n:Int))=false:=xf (by cutsat);show if(!decide (V.int (st.id:Int)=V.int (n:Int)))=L then _ else _
    rw[this];refine bO ⟨_,g1,?_,aS s1 hG,?_⟩
    .rw[bP];exact rE (jT _ _) (by rw[eF];exact cY (by have:=ok.cz;cutsat))
    .rw[ah,en];exact cb B (cb HO.Z (ng _ _))
  .rintro H1 ⟨s1,g1⟩;rw[jE,<-gD,eE]at g1;refine⟨s1 _ _ ah,?_⟩;have s2:aw H (M H1 dm (.dK (cQ m.states))):=unlock s1 c.b0;have g2:M H1 dm (.dK (cQ m.states)) G=_:=(aa Gm).trans g1;generalize M H1 dm (.dK (cQ m.states))=H2 at s2 g2;refine⟨p,dx,dm,dl,pl,G,m,at_,last,λx:Nat=>(x:Int)!=(n:Int),O,c.same s2,ok.tofg,ok.gq,aC.of g2,λH3 eM fj k3 t7 t8 c3=>?_⟩;refine⟨a_1,λS hS=>?_⟩;have s4:=bp (o:=.Z [.int 0]) hS
   have dS:H S=none:=s2.free (k3.free hS (λz=>by
    have:S=p:=by simpa using z
    rw[this,c3.obj]at hS;cases hS))
   have eat:(if at_∈(ae m).filter (λx:Nat=>(x:Int)!=(n:Int))then at_ else 0)=if(at_:Int)=(n:Int)then 0 else at_:=by
    by_cases h1:at_=n
    .grind
    .rw[au (show¬(at_:Int)=(n:Int)by cutsat)];rcases ok.so with z|z<;>grobner
   rw[eat]at c3;refine q _ S eM fj _ (((bQ.jA s2).trans (k3.mono (λb hb=>by grobner))).trans (.jA s4)) (.inr (s2.free t7)) (.inr (s2.free t8)) (dr.refl _) (c3.same s4) dS ah
def fg.only (h:fg m)(pr:Nat->Bool):fg (dh m pr)where
 nd:=by rw[r9];exact h.nd.filter _
 cz:=fJ (jT _ _) h.cz
 ends:=λl hl=>by have:=fw.mp hl;have e:=h.ends l this.1;rw[r9];grind
 agents:=λl hl=>h.agents l (fw.mp hl).1
 iS:=fJ (jT _ _) h.iS
def Xt (m:Md)(f:bo):List Int:=0::Vbtaag.ints (aU f m)
noncomputable def M3 (m:Md)(at_:Nat)(f:bo):List Int:=if at_=0 then[-7]else[0,if kG f m at_=L then 1 else 0]
noncomputable def Cu (f:bo):List Int:=if xi f=L then[-8]else if 3000<(Ce f).1 then[-9]else 0::Vbtaag.ints (Cy (xk f))
noncomputable def Cz (m:Md)(at_:Nat)(f:bo):List Int:=if at_=0 then[-7]else 0::Vbtaag.ints (ka.map λa=>(if((b8 m a at_).all λv=>(aU f m).contains v)=L then 1 else 0)+(if((b8 m a at_).all λv=>!(aU f m).contains v)=L then 2 else 0))
noncomputable def xq (m:Md)(at_ last:Nat)(f:bo):fi×List Int:=if at_=0 then(W0 m at_ last,[-7])else if kG f m at_=aH then(W0 m at_ last,[-10])else(W0 (kH m f) at_ last,[0,((kH m f).states.length:Int)])
noncomputable def zJ (m:Md)(at_ last a:Nat)(f:bo):fi×List Int:=(W0 (t9 m a f) at_ last,[0,((m.links.length-(t9 m a f).links.length:Nat):Int)])
noncomputable def xr (m:Md)(at_ last:Nat)(f:bo):fi×List Int:=if at_=0 then(W0 m at_ last,[-7])else(W0 (jF f at_ m.states.length m).2 at_ last,[0,((jF f at_ m.states.length m).1:Int),((jF f at_ m.states.length m).2.states.length:Int)])
structure rV (K:aM)(C:J)(H:Hp)(p dx dm dl pl a:J)(m:Md)(at_ last:Nat)(f:bo):Prop where
 core:Core C H p dx dm dl pl m at_ last
 ok:cg m at_ last
 sq:aC K H a (aA (enc f))
 wf:Wf f
 len:(enc f).length<=400
def Xu (K:aM)(C:J):Sp:=λvs H Q _=>e_10 λ(p dx dm dl pl a:J)(m:Md)(at_ last:Nat)(f:bo)=>vs=[.ref p,.ref a]/\rV K C H p dx dm dl pl a m at_ last f/\
 ∀(H':Hp)(S:J),aw H H'->H S=N->H' S=B (.Z (vi (Xt m f)))->Q (.ref S) H'
def Xv (K:aM)(C:J):Sp:=λvs H Q _=>e_10 λ(p dx dm dl pl a:J)(m:Md)(at_ last:Nat)(f:bo)=>vs=[.ref p,.ref a]/\rV K C H p dx dm dl pl a m at_ last f/\
 ∀(H':Hp)(S:J),aw H H'->H S=N->H' S=B (.Z (vi (M3 m at_ f)))->Q (.ref S) H'
def Xw (K:aM):Sp:=λvs H Q _=>e_2 λ(a:J)(f:bo)=>vs=[.ref a]/\aC K H a (aA (enc f))/\Wf f/\(enc f).length<=400/\
 ∀(H':Hp)(S:J),aw H H'->H S=N->H' S=B (.Z (vi (Cu f)))->Q (.ref S) H'
def Xx (K:aM):Sp:=λvs H Q _=>e_4 λ(a b:J)(l s:List Nat)=>vs=[.ref a,.ref b]/\aC K H a (aA l)/\aC K H b (aA s)/\l.length<=200/\
 ∀H',aw H H'->Q (.int (((if l.all (λv=>s.contains v)=L then 1 else 0)+(if l.all (λv=>!s.contains v)=L then 2 else 0):Nat):Int)) H'
def Xy (K:aM)(C:J):Sp:=λvs H Q _=>e_10 λ(p dx dm dl pl a:J)(m:Md)(at_ last:Nat)(f:bo)=>vs=[.ref p,.ref a]/\rV K C H p dx dm dl pl a m at_ last f/\
 ∀(H':Hp)(S:J),aw H H'->H S=N->H' S=B (.Z (vi (Cz m at_ f)))->Q (.ref S) H'
def Xz (K:aM)(C:J):Sp:=λvs H Q _=>e_10 λ(p dx dm dl pl a:J)(m:Md)(at_ last:Nat)(f:bo)=>vs=[.ref p,.ref a]/\rV K C H p dx dm dl pl a m at_ last f/\j' C H p dx dm dl pl (xq m at_ last f) Q
def XA (K:aM)(C:J):Sp:=λvs H Q _=>e_11 λ(p dx dm dl pl a:J)(m:Md)(at_ last g:Nat)(f:bo)=>vs=[.ref p,.int (g:Nat),.ref a]/\rV K C H p dx dm dl pl a m at_ last f/\j' C H p dx dm dl pl (zJ m at_ last g f) Q
def XB (K:aM)(C:J):Sp:=λvs H Q _=>e_10 λ(p dx dm dl pl a:J)(m:Md)(at_ last:Nat)(f:bo)=>vs=[.ref p,.ref a]/\rV K C H p dx dm dl pl a m at_ last f/\j' C H p dx dm dl pl (xr m at_ last f) Q
def XC (m:Md)(f:bo):(aU f m).length<=m.states.length:=by rw[nG,<-gD];grind
def XD (m:Md)(f:bo):(kH m f).states.length=(aU f m).length:=by rw[<-gD];unfold kH;rw[r9,<-nG]
def ajH {K:aM}{H H':Hp}{p C dx a:J}{fs:List (ao×V)}{xs:List V}(k:bQ [p] H H')(hp:H p=B (.ins C dx fs))(h:aC K H a xs):aC K H' a xs:=by
 rcases h with(h|⟨o,h⟩)|h
 .exact .inl (.inl (k _ _ h (by grind)))
 .exact .inl (.inr ⟨o,k _ _ h (by grind)⟩)
 .exact .inr h
def XE:bZ ["model","signs"] ["model","signs"] (bb KI):=by left
def ajI (TM:ip K aG)(F:bG K "holds" "holds" KI f fd)(T:Txt K mg)(iu:f_ aG "where" 7 ["self","signs"] (t5 K aG)):b_ 8 f fd ["model","signs"] (Xu K aG):=by rcases F,XE with⟨p,dx,dm,dl,pl,a,m,at_,last,f',rfl,⟨c,ok,hS,hw,hl⟩,q⟩;refine⟨_,(aE (aW (b5 rD (bU (af aZ aq)) (gm (pv 0) iu hr (af (pv 1) aq))))),?_⟩;refine⟨a_1,λb4 hZ=>?_⟩;have s1:aw H (M H b4 (.Z [.int 0])):=bp hZ;refine⟨p,dx,_,O,s1 _ _ c.obj,tO _ _ _ _ _,p,dx,dm,dl,pl,a,m,at_,last,f',O,c.same s1,ok.tofg,s1.seq hS,hw,hl,λH2 S s2 dS hs=>?_⟩;have sl:=XC m f';have cz:=ok.cz;refine⟨b4,S,_,_,O,O,s2 _ _ ah,hs,by rw[bP];exact jD (show 1+_<=_ by lia),λR hR=>q _ R (aS (s1.trans s2) ((s1.trans s2).free hR)) ((s1.trans s2).free hR) ?_⟩;rw[ah,zE];rfl
def XF:bZ ["model","signs"] ["model","signs"] (bb KJ):=by left
def ajJ (TM:ip K aG)(F:bG K "truth" "truth" KJ f fd)(T:Txt K mg)(iu:f_ aG "where" 7 ["self","signs"] (t5 K aG)):b_ 8 f fd ["model","signs"] (Xv K aG):=by
 rcases F,XF with⟨p,dx,dm,dl,pl,a,m,at_,last,f',rfl,⟨c,ok,hS,hw,hl⟩,q⟩;refine⟨_,(az (bc (bA cy (aQ (pv 0) O) aZ (bY _)) (aE (aW (bU (af (aT T.xa) aq)))) bC) (aE (aW (bU (af aZ (af (Ip (bA oQ (aQ (pv 0) O) (gm (pv 0) iu hr (af (pv 1) aq)) (by with_unfolding_all rfl)) aZ aZ) aq)))))),?_⟩;refine⟨p,aG,dx,_,_,O,c.obj,TM.cl,TM.gZ,jz _ _ _ _ _,O,_,O,?_⟩;unfold M3 at q;by_cases h0:at_=0
 .rw[aD h0]at q;exact dC (by lia) ⟨a_1,λR hR=>q _ R (bp hR) hR ah⟩
 .rw[au h0]at q;refine cX (by lia) ⟨p,aG,dx,_,_,O,c.obj,TM.cl,TM.gZ,jz _ _ _ _ _,p,dx,_,O,c.obj,tO _ _ _ _ _,p,dx,dm,dl,pl,a,m,at_,last,f',O,c,ok.tofg,hS,hw,hl,λH2 S s2 dS hs=>?_⟩;refine⟨S,_,O,.inl (aC.of hs),O,rM _,_,O,?_⟩;show if ib (.int (at_:Int)) (aA (aU f' m))=L then _ else _
  rw[vc];have eh:kG f' m at_=(aU f' m).contains at_:=rfl;rw[eh]at q;cases hb:(aU f' m).contains at_ with
  |true=>rw[hb]at q;exact bO ⟨a_2,λR hR=>q _ R (aS s2 (s2.free hR)) (s2.free hR) ah⟩
  |false=>rw[hb]at q;exact bN ⟨a_2,λR hR=>q _ R (aS s2 (s2.free hR)) (s2.free hR) ah⟩
def XG:bZ ["signs","shorter"] ["signs"] (bb KL):=by left
def ajK (F:bG K "reduction" "reduction" KL f fd)(T:Txt K mg)(zK:c_ "codes_of" 3 ["signs"] (Mg K))(M4:c_ "reduced" 4 ["signs"] (We K))(M5:c_ "tells_common" 3 ["signs"] (VT K)):b_ 5 f fd ["signs"] (Xw K):=by
 rcases F,XG with⟨a,f',rfl,hS,hw,hl,q⟩;refine⟨_,(az (bc (lL (b7 M5 hr (by rfl) (af (pv 0) aq))) (aE (aW (bU (af (aT T.ahs) aq)))) bC) (az (bz 1 nd (b7 M4 hr (by rfl) (af (pv 0) aq))) (az (bc (iX (yl (pv 1))) (aE (aW (bU (af (aT T.UL) aq)))) bC) (aE (aW (b5 rD (bU (af aZ aq)) (b7 zK hr (by rfl) (af (pv 1) aq)))))))),?_⟩;refine⟨a,f',O,hS,hw,hl,λH1 s1=>⟨_,O,?_⟩⟩;unfold Cu at q;cases eY:xi f' with
 |true=>rw[eY,aD rfl]at q;exact bO ⟨a_1,λR hR=>q _ R (aS s1 (s1.free hR)) (s1.free hR) ah⟩
 |false=>
  rw[eY,au eN]at q;refine bN ⟨a,f',O,s1.seq hS,hw,eY,hl,λH2 v s2 hv=>?_⟩;have dn:=s1.trans s2;refine⟨_,O,?_⟩;by_cases hb:3000<(Ce f').1
  .rw[aD hb]at q hv;have hv:v=.bB:=hv;rw[hv];exact bO ⟨a_1,λR hR=>q _ R (aS dn (dn.free hR)) (dn.free hR) ah⟩
  .rw[au hb]at q hv;obtain⟨S,rfl,hs⟩:=hv;refine bN ⟨a_1,λb4 hZ=>?_⟩;have s3:aw H2 (M H2 b4 (.Z [.int 0])):=bp hZ;have rl:=pO f' hw eY;refine⟨S,_,O,aC.of (s3 _ _ hs),by lia,λH4 T' s4 hTn ht=>?_⟩;have sa:=Qe (xk f') (mx f' hw) (pQ f');rw[sa]at ht;have shl:=my (xk f');rw[<-kj]at shl;refine⟨b4,T',_,_,O,O,s4 _ _ ah,ht,by rw[bP];exact jD (show 1+(Cy (xk f')).length<=_ by lia),λR hR=>q _ R (aS (dn.trans (s3.trans s4)) ((dn.trans (s3.trans s4)).free hR)) ((dn.trans (s3.trans s4)).free hR) ?_⟩;rw[ah,zE];rfl
def XH:bZ ["possible","where","held","number"] ["possible","where"] (bb Fv):=by left
def ajM (F:bG K "mind" "mind" Fv f fd)(T:Txt K mg):b_ 1 f fd ["possible","where"] (Xx K):=by
 rcases F,XH with⟨a,b,l,sl,rfl,ha,hb,hl,q⟩;refine⟨_,(az (bz 2 nd (eJ nT (by rfl) T.gP gQ (af (lT O nd (iY (pv 0)) (jS (own:=[("number",3)]) (by show jn ["possible","where","held","number"] (bb Fv) _ _=L;decide+kernel)) (λ_ _ _ _ _=>(bX (i:=3) nd O (bM O))) (λ_ _ _ _ _=>(yE (bA (ais (K:=K) O) (pv 3) (pv 1) (by with_unfolding_all rfl)))) (λ_ _ _ _ _=>(pv 3))) aq))) (aE (aW (b5 ji (Ip (bA cy (pv 2) (eJ nT (by rfl) T.gP gQ (af (pv 0) aq)) (bY _)) aZ aZ) (Ip (bA cy (pv 2) aZ (bY _)) aZ aZ))))),?_⟩;refine⟨a,O,⟨_,ha⟩,λG hG=>?_⟩;refine uT (K:=K) (a:=a) (xs:=aA l) (λi H'=>aw H H'/\H' G=B (.Z (aA ((l.take i).filter λv=>sl.contains v)))) ⟨bp hG,ah⟩ (λi H' _ z=>z.1.seq ha) ?_ ?_
 .rintro i x H1 hi ⟨s1,g1⟩;obtain⟨n,hn,rfl⟩:=jB hi;refine⟨O,?_⟩
  have en:(l.take (i+1)).filter (λv=>sl.contains v)=(l.take i).filter (λv=>sl.contains v)++(if sl.contains n=L then[n]else[]):=by rw[take_snoc hn,nj,kY];congr 1
  refine⟨b,_,O,.inl (s1.seq hb),O,rM _,_,O,?_⟩;show if ib (.int (n:Int)) (aA sl)=L then _ else _
  rw[vc];cases hc:sl.contains n with
  |true=>
   rw[hc,aD rfl]at en;refine bO ⟨_,g1,?_,aS s1 hG,?_⟩
   .rw[bP];exact rE (jT _ _) (by rw[eF];exact cY (by lia))
   .rw[ah,en];exact cb B (cb HO.Z (ng _ _))
  |false=>rw[hc,au eN,fV]at en;rw[<-en]at g1;exact bN ⟨s1,g1⟩
 rintro H1 ⟨s1,g1⟩;rw[bP,eE]at g1;refine⟨G,_,O,.inl (aC.of g1),?_⟩;rw[bP];refine⟨a,_,O,.inl (s1.seq ha),O,_,O,?_⟩;rw[bP]
 have e1:decide (V.int (((l.filter λv=>sl.contains v).length:Nat):Int)=V.int ((l.length:Nat):Int))=l.all λv=>sl.contains v:=by
  by_cases h:(l.all λv=>sl.contains v)=L
  .rw[h];refine vd ?_;rw[vX.mpr λv hv=>iK.mp h v hv]
  .have:¬(l.filter λv=>sl.contains v).length=l.length:=λz=>h (iK.mpr λv hv=>(M6.mp z) v hv);grind
 have e2:decide (V.int (((l.filter λv=>sl.contains v).length:Nat):Int)=V.int 0)=l.all λv=>!sl.contains v:=by
  by_cases h:(l.all λv=>!sl.contains v)=L
  .simp_all
  .have:¬(l.filter λv=>sl.contains v).length=0:=λz=>h (iK.mpr λv hv=>by simp_all)
   grind
 rw[e1];have q1:=q _ s1;refine mV (λh1=>?_) (λh1=>?_)
 .rw[aD h1]at q1;refine⟨O,_,O,?_⟩;rw[e2];refine mV (λh2=>?_) (λh2=>?_)
  .rw[aD h2]at q1;exact⟨_,_,O,O,q1⟩
  .rw[au h2]at q1;exact⟨_,_,O,O,q1⟩
 .rw[au h1]at q1;refine⟨O,_,O,?_⟩;rw[e2];refine mV (λh2=>?_) (λh2=>?_)
  .rw[aD h2]at q1;exact⟨_,_,O,O,q1⟩
  .rw[au h2]at q1;exact⟨_,_,O,O,q1⟩
def XI:bZ ["model","signs","left"] ["model","signs"] (bb Kv):=by left
def ajN (TM:ip K aG)(F:bG K "tell" "tell" Kv f fd)(T:Txt K mg)(oj:f_ aG "keep_only" 1 ["self","numbers"] (Cs K aG))(iu:f_ aG "where" 7 ["self","signs"] (t5 K aG)):b_ 8 f fd ["model","signs"] (Xz K aG):=by
 rcases F,XI with⟨p,dx,dm,dl,pl,a,m,at_,last,f',rfl,⟨c,ok,hS,hw,hl⟩,q⟩;refine⟨_,(az (bc (bA cy (aQ (pv 0) O) aZ (bY _)) (aE (aW (bU (af (aT T.xa) aq)))) bC) (az (bz 2 nd (gm (pv 0) iu hr (af (pv 1) aq))) (az (bc (bA Ba (aQ (pv 0) O) (pv 2) (by with_unfolding_all rfl)) (aE (aW (bU (af (aT T.UM) aq)))) bC) (az (dF (gm (pv 0) oj hr (af (pv 2) aq))) (aE (aW (bU (af aZ (af (eJ nT (by rfl) T.gP gQ (af (pv 2) aq)) aq))))))))),?_⟩;refine⟨p,aG,dx,_,_,O,c.obj,TM.cl,TM.gZ,jz _ _ _ _ _,O,_,O,?_⟩;unfold xq at q;by_cases h0:at_=0
 .rw[aD h0]at q;exact dC (by cutsat) ⟨a_1,λR hR=>q.ask c (bp hR) hR ah⟩
 .rw[au h0]at q;refine cX (by cutsat) ⟨p,dx,_,O,c.obj,tO _ _ _ _ _,p,dx,dm,dl,pl,a,m,at_,last,f',O,c,ok.tofg,hS,hw,hl,λH2 S s2 dS hs=>?_⟩;refine⟨p,aG,dx,_,_,O,s2 _ _ c.obj,TM.cl,TM.gZ,jz _ _ _ _ _,S,_,O,.inl (aC.of hs),O,rM _,_,O,?_⟩;show if(!ib (.int (at_:Int)) (aA (aU f' m)))=L then _ else _
  rw[vc];have eh:kG f' m at_=(aU f' m).contains at_:=rfl;rw[eh]at q;cases hb:(aU f' m).contains at_ with
  |false=>rw[hb,aD rfl]at q;exact bO ⟨a_1,λR hR=>q.ask c (aS s2 (s2.free hR)) (s2.free hR) ah⟩
  |true=>
   rw[hb,au (λz=>jU z)]at q;have jo:at_∈aU f' m:=by grobner
   refine bN ⟨p,dx,_,O,s2 _ _ c.obj,BV _ _ _ _ _,p,dx,dm,dl,pl,S,m,at_,last,λu=>(aU f' m).contains u,O,c.same s2,ok.tofg,ok.gq,by rw[<-nG];exact aC.of hs,λH3 eM fj k3 t7 t8 c3=>?_⟩;rw[<-nG,aD jo]at c3;have pS:S≠p:=λz=>by rw[z,c.obj]at dS;cases dS
   have qk:=k3 S _ hs (by grobner);refine⟨S,_,O,.inl (aC.of qk),a_2,λR hR=>?_⟩
   have kI:H R=none:=s2.free (k3.free hR (λz=>by
    have:R=p:=by simpa using z
    rw[this,c3.obj]at hR;cases hR))
   refine q _ R eM fj _ (((bQ.jA s2).trans (k3.mono (λb hb=>by grobner))).M (.inr kI)) (.inr (s2.free t7)) (.inr (s2.free t8)) (dr.refl _) (c3.same (bp hR)) kI ?_;rw[ah,bP,<-XD];rfl
def XJ:bZ ["model","agent","signs","where","left","who","start","end","gone"] ["model","agent","signs"] (bb Ky):=by left
def ajO (TM:ip K aG)(F:bG K "show" "show" Ky f fd)(T:Txt K mg)(iu:f_ aG "where" 7 ["self","signs"] (t5 K aG)):b_ 8 f fd ["model","agent","signs"] (XA K aG):=by
 rcases F,XJ with⟨p,dx,dm,dl,pl,a,m,at_,last,g,f',rfl,⟨c,ok,hS,hw,hl⟩,q⟩;have hu:=kX hr;have lp:p≠dl:=bE c.obj c.links nofun;have Ct:=ok.iS;refine⟨_,(az (bz 3 nd (gm (pv 0) iu hr (af (pv 2) aq))) (az (bz 4 nd Bn) (az (uW (eZ dR O (uY (aQ (pv 0) O)) (jP O (df (bX (i:=5) nd O (bM O)) (df (bX (i:=6) nd O (bM O)) (df (bX (i:=7) nd O (bM O)) jx)))) (aE (bc (PW.pt (yn (bA AW (pv 5) (pv 1) (bY _)) (ym (bA cy (sV oQ (pv 6) (pv 3) (by with_unfolding_all rfl)) (sV oQ (pv 7) (pv 3) (by with_unfolding_all rfl)) (bY _))))) (aE (nX hu (pv 4) (iZ (af (pv 5) (af (pv 6) (af (pv 7) aq)))) nN O)) bC)))) (az (bz 8 nd (b5 AR (eJ BB (by rfl) T.gP gQ (af (aQ (pv 0) O) aq)) (eJ BB (by rfl) T.gP gQ (af (pv 4) aq)))) (az (dk (pv 0) (pv 4) O) (aE (aW (bU (af aZ (af (pv 8) aq)))))))))),?_⟩;refine⟨p,dx,_,O,c.obj,tO _ _ _ _ _,p,dx,dm,dl,pl,a,m,at_,last,f',O,c,ok.tofg,hS,hw,hl,λH1 S s1 dS hs=>?_⟩;intro D hD;have lQ:=s1.free hD;have Dl:D≠dl:=λz=>by rw[z,c.links]at lQ;cases lQ
 have Dp:p≠D:=aK c.obj lQ;have mD:dm≠D:=aK c.b0 lQ;have s2:aw H (M H1 D (.dT [])):=aS s1 lQ;have yt:M H1 D (.dT []) S=_:=(aa (aK hs hD)).trans hs;have Sl:S≠dl:=λz=>by rw[z,c.links]at dS;cases dS
 refine⟨dl,_,s2 _ _ c.links,trivial,λod=>⟨p,aG,dx,_,_,O,(aa lp).trans (s2 _ _ c.obj),TM.cl,TM.gY,jq _ _ _ _ _,dl,od,O,.inr ⟨_,ah,?_⟩⟩⟩
 have sL:aw (M H1 dl (.bF od (.dT (bw m.links)))) (M (M H1 D (.dT [])) dl (.bF od (.dT (bw m.links)))):=λb o e=>by
  by_cases z:b=dl
  .rw[z]at e ⊢;rw[ah]at e ⊢;exact e
  .rw[aa z]at e ⊢;exact(aa (aK e hD)).trans e
 have nL:M H1 dl (.bF od (.dT (bw m.links))) D=none:=(aa Dl).trans hD;have XM:M H1 dl (.bF od (.dT (bw m.links))) S=_:=(aa Sl).trans hs
 refine jr (n:=(bw m.links).length) (λj σ H'=>e_3 λv5 v6 v7=>σ=[B (.ref p),B (.int (g:Nat)),B (.ref a),B (.ref S),B (.ref D),v5,v6,v7,N]/\aw (M H1 dl (.bF od (.dT (bw m.links)))) H'/\H' D=B (.dT (bw ((m.links.take j).filter λl=>l.a !=g||(aU f' m).contains l.u==(aU f' m).contains l.v))))
  ⟨N,N,N,O,sL,(aa Dl).trans ah⟩ (λj σ H' hj ⟨_,_,_,_,s,_⟩=>⟨s _ _ ah,hj⟩) (λσ H' ⟨_,_,_,_,s,_⟩=>⟨s _ _ ah,aX _⟩) ?_ ?_
 .rintro j x σ H3 H4 hj ⟨v5,v6,v7,rfl,s4,e4⟩ ⟨rfl,kx,vx,t,hk,rfl,ht⟩;obtain⟨l,dU,rfl,rfl⟩:=zv hk;have gu:=cR dU
  have en:(m.links.take (j+1)).filter (λl=>l.a !=g||(aU f' m).contains l.u==(aU f' m).contains l.v)=(m.links.take j).filter (λl=>l.a !=g||(aU f' m).contains l.u==(aU f' m).contains l.v)++(if(l.a !=g||(aU f' m).contains l.u==(aU f' m).contains l.v)=L then[l]else[]):=by rw[take_snoc dU,nj,kY];congr 1
  refine⟨t,_,O,cW.of ht,O,_,_,O,_,_,O,_,_,O,O,?_⟩;apply L7 (b:=l.a !=g||(aU f' m).contains l.u==(aU f' m).contains l.v)
  .intro rest;refine⟨O,_,O,?_⟩;by_cases h1:l.a=g
   .have:decide (V.int (l.a:Int)=V.int (g:Int))=true:=vd (by lia);show if(!decide (V.int (l.a:Int)=V.int (g:Int)))=L then _ else _
    rw[this];refine bN ⟨S,_,O,.inl (aC.of (s4 _ _ XM)),O,rM _,S,_,O,.inl (aC.of (s4 _ _ XM)),O,rM _,O,_,O,?_⟩;have e1:ib (kV (cC ((l.u:Nat):Int))) (aA (aU f' m))=(aU f' m).contains l.u:=vc _ _;have e2:ib (kV (cC ((l.v:Nat):Int))) (aA (aU f' m))=(aU f' m).contains l.v:=vc _ _
    have e3:(l.a !=g||(aU f' m).contains l.u==(aU f' m).contains l.v)=decide (V.bl ((aU f' m).contains l.u)=V.bl ((aU f' m).contains l.v)):=by grind
    rw[e3]at rest;rw[<-e1,<-e2]at rest;exact rest
   .have:decide (V.int (l.a:Int)=V.int (g:Int))=false:=xf (by lia);show if(!decide (V.int (l.a:Int)=V.int (g:Int)))=L then _ else _
    rw[this];refine bO ?_
    have e3:(l.a !=g||(aU f' m).contains l.u==(aU f' m).contains l.v)=true:=by grind
    rw[e3]at rest;exact rest
  .intro hb;rw[hb,aD rfl]at en;refine⟨a_3,λt2 fD=>?_⟩;have n1:D≠t2:=aK e4 fD;refine⟨D,_,O,.inr ⟨_,fc l,t2,(aa n1).trans e4,O,ah,?_,O⟩,_,_,_,O,aS (aS s4 (s4.free fD)) nL,?_⟩
   .rw[lh];exact rE (jT _ _) (by rw[eF];exact cY (by lia))
   .rw[ah,en,Gr];intro z;have z:=(fw.mp z).1;obtain⟨i,hi⟩:=lX z;have dA:=cR hi;rw[eF]at dA;rw[tV,aD (by lia)]at hi;have h1:=cR hi;rw[cc h1]at hi;rw[cc gu]at dU;have:=(yj ok.gq).mp (iO (hi.trans dU.symm));lia
  .intro hb;rw[hb,au eN,fV]at en;rw[<-en]at e4;exact⟨_,_,_,O,s4,e4⟩
 rintro σ H3 ⟨v5,v6,v7,rfl,s4,e4⟩;rw[lh,eE]at e4;refine⟨s4 _ _ ah,?_⟩;have s5:aw H1 (M H3 dl (.dT (bw m.links))):=unlock s4 (s1 _ _ c.links);have e5:M H3 dl (.dT (bw m.links)) D=_:=(aa Dl).trans e4;generalize M H3 dl (.dT (bw m.links))=H5 at s5 e5;have s6:=s1.trans s5;refine⟨p,aG,dx,_,_,O,s6 _ _ c.obj,TM.cl,TM.gY,jq _ _ _ _ _,dl,_,O,s6 _ _ c.links,D,_,O,e5,_,_,O,O,?_⟩;refine⟨p,aG,dx,_,O,s6 _ _ c.obj,TM.cl,TM.gY,(by show 5<1000;decide),?_⟩;refine⟨a_2,λR hR=>?_⟩;have pR:p≠R:=aK ah hR;have xt:H5 R=none:=(aa (aP pR)).symm.trans hR;have kI:H R=none:=s6.free xt;have DR:D≠R:=aK e5 xt;have mR:dm≠R:=aK c.b0 kI;have mp:dm≠p:=bE c.b0 c.obj nofun;refine q _ R dm D (t9 m g f') (((bQ.jA s6).M (.inl (by simp))).M (.inr kI)) (.inl O) (.inr lQ) (dr.refl _) ⟨(aa pR).trans ah,(aa mR).trans ((aa mp).trans (s6 _ _ c.b0)),(aa DR).trans ((aa (aP Dp)).trans e5)⟩ kI ?_;rw[ah];have hle:(t9 m g f').links.length<=m.links.length:=jT _ _
 have e7:(((bw m.links).length:Nat):Int)-(((bw (m.links.filter λl=>l.a !=g||(aU f' m).contains l.u==(aU f' m).contains l.v)).length:Nat):Int)=((m.links.length-(t9 m g f').links.length:Nat):Int):=by rw[lh,lh];show((m.links.length:Nat):Int)-(((t9 m g f').links.length:Nat):Int)=_;lia
 show B (HO.Z [.int 0,.int ((((bw m.links).length:Nat):Int)-_)])=_;rw[e7];rfl
def XN:bZ ["model","signs","times","left"] ["model","signs"] (bb s_again):=by left
def ajP (TM:ip K aG)(F:bG K "again" "again" s_again f fd)(T:Txt K mg)(oj:f_ aG "keep_only" 1 ["self","numbers"] (Cs K aG))(iu:f_ aG "where" 7 ["self","signs"] (t5 K aG)):b_ 8 f fd ["model","signs"] (XB K aG):=by
 rcases F,XN with⟨p,dx,dm,dl,pl,a,m,at_,last,f',rfl,⟨c,ok,hS,hw,hl⟩,q⟩;refine⟨_,(az (bc (bA cy (aQ (pv 0) O) aZ (bY _)) (aE (aW (bU (af (aT T.xa) aq)))) bC) (az (bz 2 nd aZ) (az (bz 3 nd (gm (pv 0) iu hr (af (pv 1) aq))) (az (uF dR (PW.pt (qa (bA oQ (aQ (pv 0) O) (pv 3) (by with_unfolding_all rfl)) (p9 (bA AX (eJ nT (by rfl) T.gP gQ (af (pv 3) aq)) (eJ tF (by rfl) T.gP gQ (af (aQ (pv 0) O) aq)) (bY _))))) (az (dF (gm (pv 0) oj hr (af (pv 3) aq))) (az (bz 2 nd (b5 ji (pv 2) aZ)) (aE (bz 3 nd (gm (pv 0) iu hr (af (pv 1) aq))))))) (aE (aW (bU (af aZ (af (pv 2) (af (eJ tF (by rfl) T.gP gQ (af (aQ (pv 0) O) aq)) aq)))))))))),?_⟩;refine⟨p,aG,dx,_,_,O,c.obj,TM.cl,TM.gZ,jz _ _ _ _ _,O,_,O,?_⟩;unfold xr at q;by_cases h0:at_=0
 .rw[aD h0]at q;exact dC (by lia) ⟨a_1,λR hR=>q.ask c (bp hR) hR ah⟩
 rw[au h0]at q;refine cX (by lia) ⟨p,dx,_,O,c.obj,tO _ _ _ _ _,p,dx,dm,dl,pl,a,m,at_,last,f',O,c,ok.tofg,hS,hw,hl,λH1 S s1 dS hs=>?_⟩;refine⟨λn σ H'=>e_6 λS mi eM fj t k=>n=mi.states.length/\σ=[B (.ref p),B (.ref a),B (.int ((t:Nat):Int)),B (.ref S)]/\bQ [p] H H'/\(eM=dm\/H eM=N)/\(fj=dl\/H fj=N)/\Core aG H' p dx eM fj pl mi at_ last/\fg mi/\mi.links.Nodup/\H' S=B (.Z (aA (aU f' mi)))/\jF f' at_ m.states.length m=(t+(jF f' at_ k mi).1,(jF f' at_ k mi).2)/\mi.states.length<=k,⟨_,S,m,dm,dl,0,m.states.length,O,O,.jA s1,.inl O,.inl O,c.same s1,ok.tofg,ok.gq,hs,by simp,aX _⟩,?_⟩;clear hs dS s1 H1 S;rintro n σ H' ⟨S,mi,eM,fj,t,k,rfl,rfl,k1,zG,dU,c1,Gs,XO,hs,he,hk⟩;refine⟨p,aG,dx,_,_,O,c1.obj,TM.cl,TM.gZ,jz _ _ _ _ _,S,_,O,.inl (aC.of hs),O,rM _,_,O,?_⟩;apply L7 (b:=kG f' mi at_&&decide ((kH mi f').states.length<mi.states.length))
 .intro rest;show if ib (.int (at_:Int)) (aA (aU f' mi))=L then _ else _
  rw[vc];have eh:kG f' mi at_=(aU f' mi).contains at_:=rfl;rw[eh]at rest;cases hb:(aU f' mi).contains at_ with
  |false=>rw[hb]at rest;refine bN ?_;exact rest
  |true=>rw[hb,gc]at rest;refine bO ⟨S,_,O,.inl (aC.of hs),p,aG,dx,_,_,O,c1.obj,TM.cl,TM.f7,i8 _ _ _ _ _,eM,_,O,c1.b0,_,_,O,O,_,O,?_⟩;rw[bP,jE];rw[XD]at rest;have e3:decide ((((aU f' mi).length:Nat):Int)<((mi.states.length:Nat):Int))=decide ((aU f' mi).length<mi.states.length):=decide_eq_decide.mpr (by lia);rw[e3];exact rest
 .intro hb;have hb:=EY.mp hb;have fM:(kH mi f').states.length<mi.states.length:=of_decide_eq_true hb.2;have jo:at_∈aU f' mi:=by have:(aU f' mi).contains at_=true:=hb.1;grind
  refine⟨λσ gJ=>∃n,n<mi.states.length/\e_6 λS mi eM fj t k=>n=mi.states.length/\σ=[B (.ref p),B (.ref a),B (.int ((t:Nat):Int)),B (.ref S)]/\bQ [p] H gJ/\(eM=dm\/H eM=N)/\(fj=dl\/H fj=N)/\Core aG gJ p dx eM fj pl mi at_ last/\fg mi/\mi.links.Nodup/\gJ S=B (.Z (aA (aU f' mi)))/\jF f' at_ m.states.length m=(t+(jF f' at_ k mi).1,(jF f' at_ k mi).2)/\mi.states.length<=k,λ_ _ z=>z,?_⟩;refine⟨p,dx,_,O,c1.obj,BV _ _ _ _ _,p,dx,eM,fj,pl,S,mi,at_,last,λu=>(aU f' mi).contains u,O,c1,Gs,XO,by rw[<-nG];exact aC.of hs,λH3 iw ja k3 t7 t8 c3=>?_⟩;rw[<-nG,aD jo]at c3;have XQ:fg (kH mi f'):=Gs.only _;refine⟨_,_,O,O,?_⟩;have XR:=k1.trans k3;refine⟨p,dx,_,O,c3.obj,tO _ _ _ _ _,p,dx,iw,ja,pl,a,kH mi f',at_,last,f',O,c3,XQ,ajH XR c.obj hS,hw,hl,λH4 S4 s4 hS4 uS=>?_⟩;obtain⟨k',rfl⟩:∃k',k=k'+1:=⟨k-1,by lia⟩;have ea:jF f' at_ (k'+1) mi=(1+(jF f' at_ k' (kH mi f')).1,(jF f' at_ k' (kH mi f')).2):=aD (by lia);have Gu:iw≠p:=λz=>by rw[z,c1.obj]at t7;cases t7
  have lp3:ja≠p:=λz=>by rw[z,c1.obj]at t8;cases t8
  refine⟨_,fM,S4,kH mi f',iw,ja,t+1,k',O,O,XR.trans (.jA s4),.inr (k1.free t7 (by simpa using Gu)),.inr (k1.free t8 (by simpa using lp3)),c3.same s4,XQ,XO.filter _,uS,?_,by lia⟩;rw[he,ea];simp only[Prod.mk.injEq,and_true];lia
 .intro hb
  have ea:jF f' at_ k mi=(0,mi):=by
   cases k with
   |zero=>rfl
   |succ k=>exact au (by grind)
  rw[ea]at he;rw[he]at q;refine⟨p,aG,dx,_,_,O,c1.obj,TM.cl,TM.f7,i8 _ _ _ _ _,eM,_,O,c1.b0,a_3,λR hR=>?_⟩;have pR:R≠p:=λz=>by rw[z,c1.obj]at hR;cases hR
  have kI:H R=none:=k1.free hR (by simpa using pR);refine q _ R eM fj mi ((k1.mono (λb hb=>by grind)).M (.inr kI)) zG dU (dr.refl _) (c1.same (bp hR)) kI ?_;rw[ah,jE];rfl
def jG:v∈b8 m a u↔v∈ae m/\∃l∈m.links,l.a=a/\l.u=u/\l.v=v:=by unfold b8;all_goals simp
def XS (h:fg m)(a u:Nat)(pr:Nat->Bool):((m.links.filter λl=>l.a==a&&l.u==u).map λl=>l.v).all pr=(b8 m a u).all pr:=by
 rw[mq,iK,iK];constructor
 .intro q v hv;obtain⟨_,l,hl,e1,e2,e3⟩:=jG.mp hv;grind
 .intro q v hv;obtain⟨l,hl,rfl⟩:=cx.mp hv;have:=fw.mp hl;have e:l.a=a/\l.u=u:=by grind
  exact q _ (jG.mpr ⟨(h.ends l this.1).2,l,this.1,e.1,e.2,O⟩)
def XT:bZ ["model","signs","where","agent"] ["model","signs"] (bb Fu):=by left
def ajR (TM:ip K aG)(F:bG K "minds" "minds" Fu f fd)(T:Txt K mg)(M7:f_ aG "taken_for_possible" 1 ["self","agent"] (Xl aG))(iu:f_ aG "where" 7 ["self","signs"] (t5 K aG))(M8:c_ "mind" 1 ["possible","where"] (Xx K)):b_ 8 f fd ["model","signs"] (Xy K aG):=by
 rcases F,XT with⟨p,dx,dm,dl,pl,a,m,at_,last,f',rfl,⟨c,ok,hS,hw,hl⟩,q⟩;refine⟨_,(az (bc (bA cy (aQ (pv 0) O) aZ (bY _)) (aE (aW (bU (af (aT T.xa) aq)))) bC) (az (rG 2 nd (gm (pv 0) iu hr (af (pv 1) aq))) (aE (aW (b5 rD (bU (af aZ aq)) (lT O nd (rh (by rfl) T.rH (af (aT T.AGENTS) aq)) (jS (own:=[("agent",3)]) (by show jn ["model","signs","where","agent"] (bb Fu) _ _=L;decide+kernel)) (λ_ _ _ _ _=>(bX (i:=3) nd O (bM O))) (λ_ _ _ _ _=>nU) (λ_ _ _ _ _=>(b7 M8 hr (by rfl) (af (gm (pv 0) M7 hr (af (pv 3) aq)) (af (pv 2) aq)))))))))),?_⟩;refine⟨p,aG,dx,_,_,O,c.obj,TM.cl,TM.gZ,jz _ _ _ _ _,O,_,O,?_⟩;unfold Cz at q;by_cases h0:at_=0
 .rw[aD h0]at q;exact dC (by lia) ⟨a_1,λR hR=>q _ R (bp hR) hR ah⟩
 rw[au h0]at q;refine cX (by lia) ⟨p,dx,_,O,c.obj,tO _ _ _ _ _,p,dx,dm,dl,pl,a,m,at_,last,f',O,c,ok.tofg,hS,hw,hl,λH1 S s1 dS hs=>?_⟩;refine⟨a_1,λb4 hZ=>?_⟩;have s2:aw H1 (M H1 b4 (.Z [.int 0])):=bp hZ;refine⟨4,O,by decide,by decide,λG hG=>?_⟩;refine qv (n:=4) (λj H'=>aw (M H1 b4 (.Z [.int 0])) H'/\H' G=B (.Z (aA (((ez 4).take j).map λa=>(if((b8 m a at_).all λv=>(aU f' m).contains v)=L then 1 else 0)+(if((b8 m a at_).all λv=>!(aU f' m).contains v)=L then 2 else 0))))) ⟨bp hG,ah⟩ (λj H' hj _=>hj) (λH' _=>aX _) ?_ ?_
 .rintro j x H4 H5 hj ⟨s4,a4⟩ ⟨rfl,rfl⟩;refine⟨O,?_⟩;refine oa ?_;have s5:=s1.trans (s2.trans s4)
  have lt:∀(pr:cD->Bool),(((m.links.filter pr).map λl=>l.v).length)<=200:=λpr=>by rw[dj];exact fJ (jT _ _) ok.iS
  refine⟨p,dx,_,O,s5 _ _ c.obj,ah7 _ _ _ _ _,p,dx,dm,dl,pl,m,at_,last,j,by simp,c.same s5,ok.iS,λH6 T' s6 hTn ht=>?_⟩;refine⟨T',S,_,_,O,aC.of ht,aC.of (s6 _ _ (s4 _ _ (s2 _ _ hs))),lt _,λH7 s7=>?_⟩;rw[XS ok.tofg,XS ok.tofg];refine⟨_,s7 _ _ (s6 _ _ a4),by rw[bP,dj,eF];exact cY (by lia),aS (s4.trans (s6.trans s7)) hG,?_⟩;rw[ah];exact cb B (cb HO.Z (ME (g:=λa=>(if((b8 m a at_).all λv=>(aU f' m).contains v)=L then 1 else 0)+(if((b8 m a at_).all λv=>!(aU f' m).contains v)=L then 2 else 0)) hj))
 .rintro H4 ⟨s4,a4⟩;rw[yB (by simp)]at a4;have s5:=s1.trans (s2.trans s4);refine⟨b4,G,_,_,O,O,s4 _ _ ah,a4,by rw[bP,dj];exact jD (show 1+(ez 4).length<=_ by simp),λR hR=>q _ R (aS s5 (s5.free hR)) (s5.free hR) ?_⟩;rw[ah,zE];rfl
theorem M9:∀{l:List α},(∀x∈l,g x=g' x)->l.filterMap g=l.filterMap g'
 |[],_=>rfl
 |x::l,h=>by rw[AH,AH,h x eR,M9 λy hy=>h y (eD _ hy)]
def cp (last:Nat)(l:List Nat)(u:Nat):Nat:=last+1+l.idxOf u
noncomputable def CA (last:Nat)(l:List Nat):List (Key×V):=l.map λu:Nat=>(.inl ((u:Nat):Int),.int ((cp last l u:Nat):Int))
def CB {last:Nat}{l:List Nat}{u:Nat}(h:u∈l):cE (CA last l) (.inl (u:Int))=B (.int ((cp last l u:Nat):Int)):=by
 have key:∀(k:List Nat),u∈k->cE (k.map λu:Nat=>((cC ((u:Nat):Int),V.int ((cp last l u:Nat):Int)):Key×V)) (.inl (u:Int))=B (.int ((cp last l u:Nat):Int)):=by
  intro k;induction k with
  |nil=>intro h;cases h
  |cons x k ih=>
   intro h;by_cases z:x=u
   .subst z;exact mO rfl
   .rw[dX,mP (λy=>z (by grind))];grind
 exact key l h
def ajS {last:Nat}{l:List Nat}{u:Nat}(h:u∉l):cE (CA last l) (.inl (u:Int))=none:=xm λp hp=>by obtain⟨x,hx,rfl⟩:=cx.mp hp;grind
def Gv {last:Nat}{l:List Nat}{u:Nat}:(cE (CA last l) (.inl (u:Int))).isSome=l.contains u:=by
 by_cases h:u∈l
 .rw[CB h,show l.contains u=L by simpa using h];rfl
 .rw[ajS h,show l.contains u=aH by grind];rfl
def CC {l:List Nat}(hn:l.Nodup){i u:Nat}(h:l[i]?=B u):l.idxOf u=i:=by grind
noncomputable def jb (last a:Nat)(l:List Nat)(k:cD):Option Link:=if l.contains k.u=L then(if k.a≠a then B ⟨k.a,cp last l k.u,k.v⟩else if l.contains k.v=L then B ⟨k.a,cp last l k.u,cp last l k.v⟩else N)else N
noncomputable def gK (last a:Nat)(l:List Nat)(ls:List cD):List Link:=ls.filterMap (jb last a l)
def XU (last a:Nat)(l:List Nat)(ls:List cD):(gK last a l ls).length<=ls.length:=List.length_filterMap_le _ _
def XW {l:List Nat}{x y:Nat}(hx:x∈l)(hy:y∈l)(h:l.idxOf x=l.idxOf y):x=y:=by have a:=DB.mpr hx;have b:=DB.mpr hy;have e1:=List.getElem_idxOf a;grind
def ajT {last a:Nat}{l:List Nat}(h:jb last a l k=B r)(h':jb last a l k'=B r):k=k':=by
 unfold jb at h h';by_cases h1:l.contains k.u=L
 .rw[aD h1]at h;by_cases h1':l.contains k'.u=L
  .rw[aD h1']at h';have m1:k.u∈l:=by grind
   have m1':k'.u∈l:=by grind
   have done:k.a=k'.a->cp last l k.u=cp last l k'.u->k.v=k'.v->k=k':=λe1 e2 e3=>by have:k.u=k'.u:=XW m1 m1' (by unfold cp at e2;lia);cases k;all_goals simp_all
   by_cases h2:k.a≠a
   .rfl'
   .rw[au h2]at h;by_cases h3:l.contains k.v=L
    .rw[aD h3]at h;by_cases xu:k'.a≠a
     .grind
     .rw[au xu]at h';by_cases iH:l.contains k'.v=L
      .rw[aD iH]at h';have e:=(iO h).trans (iO h').symm;simp only[Link.mk.injEq]at e;exact done e.1 e.2.1 (XW (by simpa using h3) (by grind) (by unfold cp at e;lia))
      rfl'
    rfl'
  rfl'
 rfl'
theorem M':∀{ls:List cD},ls.Nodup->(gK last a l ls).Nodup
 |[],_=>j5
 |k::ls,h=>by
  have h:=fW.mp h;have ih:=M' (last:=last) (a:=a) (l:=l) h.2;unfold gK at ih ⊢;rw[AH];cases e:jb last a l k with
  |none=>exact ih
  |some r=>refine fW.mpr ⟨λz=>?_,ih⟩;obtain⟨k',uQ,e'⟩:=AO.mp z;exact h.1 (ajT e e'▸uQ)
def XX (h:r∈gK last a l ls):last<r.u:=by
 obtain⟨k,_,e⟩:=AO.mp h;unfold jb at e;split at e
 .split at e
  .cases e;show last<cp last l k.u;unfold cp;lia
  .split at e
   .cases e;show last<cp last l k.u;unfold cp;lia
   .cases e
 .cases e
theorem XY:∀{l:List Nat},l.Nodup->u0∈l->(l.flatMap λu=>if u=u0 then k::F u else F u).Perm (k::l.flatMap F)
 |[],_,h=>by cases h
 |x::l,hn,h=>by
  have hn:=fW.mp hn;rw[kE,kE];by_cases z:x=u0
  .rw[aD z]
   have:l.flatMap (λu=>if u=u0 then k::F u else F u)=l.flatMap F:=by have e:∀u∈l,(if u=u0 then k::F u else F u)=F u:=λu hu=>au (λy:u=u0=>hn.1 (by grind));unfold vq;rw[lj e]
   simp_all
  .rw[au z];have ih:=XY (F:=F) (k:=k) hn.2 ((dz.mp h).resolve_left (λy=>z y.symm));exact(ih.append_left (F x)).trans List.perm_middle
theorem XZ {l:List Nat}(hn:l.Nodup):∀ls:List cD,(l.flatMap λu=>ls.filter λk=>k.u==u).Perm (ls.filter λk=>l.contains k.u)
 |[]=>by simp
 |k::ls=>by
  have ih:=XZ hn ls;by_cases h:k.u∈l
  .have e:(l.flatMap λu=>(k::ls).filter λk=>k.u==u)=l.flatMap λu=>if u=k.u then k::(ls.filter λk=>k.u==u)else ls.filter λk=>k.u==u:=by grind
   rw[e,kY,aD (by simpa using h)];exact(XY hn h).trans (ih.cons k)
  .have e:(l.flatMap λu=>(k::ls).filter λk=>k.u==u)=l.flatMap λu=>ls.filter λk=>k.u==u:=by unfold vq;congr 1;refine lj λu hu=>?_;grind
   grind
theorem filterMap_flatMap (g:α->Option β)(F:Nat->List α):∀l:List Nat,(l.flatMap F).filterMap g=l.flatMap λu=>(F u).filterMap g
 |[]=>rfl
 |x::l=>by rw[kE,kE,X0,filterMap_flatMap g F l]
def ajW {l:List Nat}(hn:l.Nodup)(last a:Nat)(ls:List cD):(gK last a l ls).Perm (l.flatMap λu=>(ls.filter λk=>k.u==u).filterMap λk=>if k.a=a then(if l.contains k.v=L then B {a:=a,u:=cp last l u,v:=cp last l k.v}else N)else B {a:=k.a,u:=cp last l u,v:=k.v}):=by
 have e1:gK last a l ls=(ls.filter λk=>l.contains k.u).filterMap (jb last a l):=by unfold gK;rw[List.filterMap_filter];refine M9 λk _=>?_;unfold jb;rfl'
 have e2:(l.flatMap λu=>(ls.filter λk=>k.u==u).filterMap λk=>if k.a=a then(if l.contains k.v=L then B {a:=a,u:=cp last l u,v:=cp last l k.v}else N)else B {a:=k.a,u:=cp last l u,v:=k.v})=(l.flatMap λu=>ls.filter λk=>k.u==u).filterMap (jb last a l):=by
  rw[filterMap_flatMap];unfold vq;congr 1;refine lj λu hu=>M9 λk hk=>?_;have eu:k.u=u:=by grind
  subst eu;unfold jb;rfl'
 rw[e1,e2];exact((XZ hn ls).symm).filterMap _
noncomputable def xw (m:Md)(at_ last a:Nat)(f:bo):fi×List Int:=if at_=0 then(W0 m at_ last,[-7])else if kG f m at_=aH then(W0 m at_ last,[-10])else
 if 16<(l7 m last a f).states.length\/200<(l7 m last a f).links.length then(W0 m at_ last,[-3])else
  (W0 (l7 m last a f) (cp last (aU f m) at_) (last+(aU f m).length),[0,((cp last (aU f m) at_:Nat):Int)])
noncomputable def g0 (m:Md)(last:Nat)(l:List Nat):List State1:=l.map λu=>⟨cp last l u,cF m u⟩
def Gw (m:Md)(last a:Nat)(f:bo)(hn:(aU f m).Nodup):dr ⟨m.states++g0 m last (aU f m),m.links++gK last a (aU f m) m.links⟩ (l7 m last a f):=
 ⟨O,(ajW hn last a m.links).append_left m.links⟩
def Gx (h:(ae m).Nodup)(f:bo):(aU f m).Nodup:=by rw[nG];grind
structure xx (H:Hp)(ts:List J)(ls:List cD):Prop where
 len:ts.length=ls.length
 at_:∀(i:Nat)(t:J)(l:cD),ts[i]?=B t->ls[i]?=B l->H t=B (.tup ((fc l).map kV))
def xx.snoc (h:xx H ts ls)(ht:H t=B (.tup ((fc l).map kV))):xx H (ts++[t]) (ls++[l]):=⟨by simp[h.len],λi t' l' e1 e2=>by
 rcases nh i ts.length with z|z
 .rw[om z]at e1;rw[om (by rw[<-h.len];exact z)]at e2;exact h.at_ i t' l' e1 e2
 .rw[nk z]at e1;rw[nk (by rw[<-h.len];exact z)]at e2
  rfl'⟩
def X1:Sp:=λvs H Q _=>e_6 λ(dl dc:J)(g last:Nat)(l:List Nat)(ls:List cD)=>vs=[.ref dl,.int (g:Nat),.ref dc]/\H dl=B (.dT (bw ls))/\H dc=B (.dK (CA last l))/\ls.length<=200/\
 ∀(H':Hp)(G:J)(ts:List J),aw H H'->H G=N->H' G=B (.Z (refs ts))->xx H' ts (gK last g l ls)->Q (.ref G) H'
def X2 (K:aM)(C:J):Sp:=λvs H Q _=>e_11 λ(p dx dm dl pl a:J)(m:Md)(at_ last g:Nat)(f:bo)=>vs=[.ref p,.int (g:Nat),.ref a]/\rV K C H p dx dm dl pl a m at_ last f/\j' C H p dx dm dl pl (xw m at_ last g f) Q
def ajX (h:n∈ae m):cF ⟨m.states++X,ls⟩ n=cF m n:=by
 unfold cF;show(((m.states++X).find? λx=>x.id==n).map λx=>x.mask).getD 0=_;rw[rW];obtain⟨s,hs,rfl⟩:=cx.mp h;cases e:m.states.find? (λx=>x.id==s.id)with
 |none=>grind
 |some x=>rfl
def X3:bZ ["links","agent","copies","found","who","start","end"] ["links","agent","copies"] (bb Kx):=by left
def ajY (F:bG K "links_of_copies" "links_of_copies" Kx f fd)(T:Txt K mg):b_ 1 f fd ["links","agent","copies"] (X1):=by
 rcases F,X3 with⟨dl,dc,g,last,l,ls,rfl,hl,hc,hlen,q⟩;have hu:=kX hr;refine⟨_,(az (bz 3 nd (bU aq)) (az (uW (eZ dR O (uY (pv 0)) (jP O (df (bX (i:=4) nd O (bM O)) (df (bX (i:=5) nd O (bM O)) (df (bX (i:=6) nd O (bM O)) jx)))) (aE (bc (PW.pt (qa (iX (yJ hu (pv 5) (pv 2))) (p9 (bA AW (pv 4) (pv 1) (bY _))))) (aE (dF (e9 dJ ic iF iE (pv 3) (af (iZ (af (pv 4) (af (lU hu (pv 2) (pv 5) (λ_ _=>rfl)) (af (pv 6) aq)))) aq)))) (aE (bc (PW.pt (qa (iX (yJ hu (pv 5) (pv 2))) (p9 (iX (yJ hu (pv 6) (pv 2)))))) (aE (dF (e9 dJ ic iF iE (pv 3) (af (iZ (af (pv 4) (af (lU hu (pv 2) (pv 5) (λ_ _=>rfl)) (af (lU hu (pv 2) (pv 6) (λ_ _=>rfl)) aq)))) aq)))) bC)))))) (aE (aW (pv 3))))),?_⟩;refine⟨by simp,λG hG=>?_⟩;have s1:aw H (M H G (.Z [])):=bp hG;have Gl:G≠dl:=λz=>by rw[z,hl]at hG;cases hG
 have cl:dc≠dl:=bE hc hl nofun;refine⟨dl,_,s1 _ _ hl,trivial,λod=>⟨dl,od,O,.inr ⟨_,ah,?_⟩⟩⟩
 have sL:aw (M H dl (.bF od (.dT (bw ls)))) (M (M H G (.Z [])) dl (.bF od (.dT (bw ls)))):=λb o e=>by
  by_cases z:b=dl
  .rw[z]at e ⊢;rw[ah]at e ⊢;exact e
  .rw[aa z]at e ⊢;exact s1 _ _ e
 have nL:M H dl (.bF od (.dT (bw ls))) G=none:=(aa Gl).trans hG;have cL:M H dl (.bF od (.dT (bw ls))) dc=_:=(aa cl).trans hc
 refine jr (n:=(bw ls).length) (λj σ H'=>e_4 λv4 v5 v6 ts=>σ=[B (.ref dl),B (.int (g:Nat)),B (.ref dc),B (.ref G),v4,v5,v6]/\aw (M H dl (.bF od (.dT (bw ls)))) H'/\H' G=B (.Z (refs ts))/\xx H' ts (gK last g l (ls.take j)))
  ⟨N,N,N,[],O,sL,(aa Gl).trans ah,O,λi t l e=>by simp at e⟩ (λj σ H' hj ⟨_,_,_,_,_,s,_⟩=>⟨s _ _ ah,hj⟩) (λσ H' ⟨_,_,_,_,_,s,_⟩=>⟨s _ _ ah,aX _⟩) ?_ ?_
 .rintro j x σ H3 H4 hj ⟨v4,v5,v6,ts,rfl,s4,g4,t4⟩ ⟨rfl,kx,vx,t,hk,rfl,ht⟩;obtain⟨k,X4,rfl,rfl⟩:=zv hk;have gu:=cR X4
  have en:gK last g l (ls.take (j+1))=gK last g l (ls.take j)++(jb last g l k).toList:=by show X5 _ (ls.take (j+1))=X5 _ (ls.take j)++_;rw[take_snoc X4,X0];cases e:jb last g l k<;>simp[e]
  have tl:ts.length<=200:=by rw[t4.len];exact fJ (XU _ _ _ _) (by grind)
  have c4:H4 dc=B (.dK (CA last l)):=s4 _ _ cL;refine⟨t,_,O,cW.of ht,O,_,_,O,_,_,O,_,_,O,O,?_⟩
  have grow:∀(r:cD)(t2:J),H4 t2=N->jb last g l k=B r->∀(v:V),e_4 λv4 v5 v6 X6=>[B (.ref dl),B (.int (g:Nat)),B (.ref dc),B (.ref G),B (.int (k.a:Nat)),B (.int (k.u:Nat)),B (.int (k.v:Nat))]=([B (.ref dl),B (.int (g:Nat)),B (.ref dc),B (.ref G),v4,v5,v6]:L2.St)/\aw (M H dl (.bF od (.dT (bw ls)))) (M (M H4 t2 (.tup ((fc r).map kV))) G (.Z (refs ts++[.ref t2])))/\M (M H4 t2 (.tup ((fc r).map kV))) G (.Z (refs ts++[.ref t2])) G=B (.Z (refs X6))/\xx (M (M H4 t2 (.tup ((fc r).map kV))) G (.Z (refs ts++[.ref t2]))) X6 (gK last g l (ls.take (j+1))):=λr t2 fD e v=>by
   have tG:t2≠G:=λz=>by grind
   refine⟨_,_,_,ts++[t2],O,aS (aS s4 (s4.free fD)) nL,by rw[ah,oe],?_⟩;rw[en,e];refine xx.snoc ⟨t4.len,λi t' l' e1 e2=>?_⟩ ((aa tG).trans ah);have h':=t4.at_ i t' l' e1 e2;have n1:t'≠t2:=aK h' fD;have n2:t'≠G:=bE h' g4 nofun;exact(aa n2).trans ((aa n1).trans h')
  refine⟨dc,_,O,f6.k (k:=.inl (k.u:Int)) c4,_,O,?_⟩;rw[Gv];cases fh:l.contains k.u with
  |false=>
   have e:jb last g l k=none:=by unfold jb;rw[fh];rfl
   rw[e,X7,fV]at en;rw[<-en]at t4;refine bN ?_;refine bN ⟨dc,_,O,f6.k (k:=.inl (k.u:Int)) c4,_,O,?_⟩;rw[Gv,fh];refine bN ?_;exact bN ⟨_,_,_,ts,O,s4,g4,t4⟩
  |true=>
   have X8:k.u∈l:=by simpa using fh
   refine bO ⟨O,_,O,?_⟩;by_cases ha:k.a=g
   .have:decide (V.int (k.a:Int)=V.int (g:Int))=true:=vd (by lia);show if(!decide (V.int (k.a:Int)=V.int (g:Int)))=L then _ else _
    rw[this];refine bN ⟨dc,_,O,f6.k (k:=.inl (k.u:Int)) c4,_,O,?_⟩;rw[Gv,fh];refine bO ⟨dc,_,O,f6.k (k:=.inl (k.v:Int)) c4,_,O,?_⟩;rw[Gv];cases o5:l.contains k.v with
    |false=>
     have e:jb last g l k=none:=by unfold jb;grind
     rw[e,X7,fV]at en;rw[<-en]at t4;exact bN ⟨_,_,_,ts,O,s4,g4,t4⟩
    |true=>
     have hvm:k.v∈l:=by simpa using o5
     have e:jb last g l k=B ⟨k.a,cp last l k.u,cp last l k.v⟩:=by unfold jb;grind
     refine bO ⟨.inl ⟨O,_,aC.of g4⟩,dc,_,O,.inl ⟨_,.inl (k.u:Int),.inl c4,O,(CB X8).symm⟩,dc,_,O,.inl ⟨_,.inl (k.v:Int),.inl c4,O,(CB hvm).symm⟩,a_3,λt2 fD=>?_⟩;refine⟨G,_,_,O,O,(aa (aK g4 fD)).trans g4,by rw[la];exact cY (by lia),?_⟩;exact grow _ t2 fD e .bB
   .have:decide (V.int (k.a:Int)=V.int (g:Int))=false:=xf (by lia);show if(!decide (V.int (k.a:Int)=V.int (g:Int)))=L then _ else _
    rw[this];have e:jb last g l k=B ⟨k.a,cp last l k.u,k.v⟩:=by unfold jb;grind
    refine bO ⟨.inl ⟨O,_,aC.of g4⟩,dc,_,O,.inl ⟨_,.inl (k.u:Int),.inl c4,O,(CB X8).symm⟩,a_3,λt2 fD=>?_⟩;refine⟨G,_,_,O,O,(aa (aK g4 fD)).trans g4,by rw[la];exact cY (by lia),?_⟩;exact grow _ t2 fD e .bB
 .rintro σ H3 ⟨v4,v5,v6,ts,rfl,s4,g4,t4⟩;rw[lh,eE]at t4;refine⟨s4 _ _ ah,?_⟩;refine q _ G ts (unlock s4 hl) hG ((aa Gl).trans g4) ⟨t4.len,λi t' l' e1 e2=>?_⟩;have h':=t4.at_ i t' l' e1 e2;exact(aa (bE h' (s4 _ _ ah) nofun)).trans h'
def X9:bZ ["model","agent","signs","copied","copies","place","number","added","each"] ["model","agent","signs"] (bb Kw):=by left
def aj0 (TM:ip K aG)(F:bG K "whisper" "whisper" Kw f fd)(T:Txt K mg)(zH:f_ aG "add_state" 1 ["self","mask"] (MU aG))(iu:f_ aG "where" 7 ["self","signs"] (t5 K aG))(Na:c_ "links_of_copies" 1 ["links","agent","copies"] (X1)):b_ 8 f fd ["model","agent","signs"] (X2 K aG):=by
 rcases F,X9 with⟨p,dx,dm,dl,pl,a,m,at_,last,g,f',rfl,⟨c,ok,hS,hw,hl⟩,q⟩;have hu:=kX hr;have cz:=ok.cz;have Ct:=ok.iS;refine⟨_,(az (bc (bA cy (aQ (pv 0) O) aZ (bY _)) (aE (aW (bU (af (aT T.xa) aq)))) bC) (az (bz 3 nd (gm (pv 0) iu hr (af (pv 2) aq))) (az (bc (bA Ba (aQ (pv 0) O) (pv 3) (by with_unfolding_all rfl)) (aE (aW (bU (af (aT T.UM) aq)))) bC) (az (bz 4 nd yK) (az (eZ dR O (ahk (by rfl) T.tJ (pv 3)) (jP O (df (bX (i:=5) nd O (bM O)) (df (bX (i:=6) nd O (bM O)) jx))) (aE (nX hu (pv 4) (pv 6) (b5 ji (aQ (pv 0) O) (pv 5)) O))) (az (bz 7 nd (b7 Na hr (by rfl) (af (aQ (pv 0) O) (af (pv 1) (af (pv 4) aq))))) (az (bc (PW.pt (yn (bA wA (b5 ji (eJ tF (by rfl) T.gP gQ (af (aQ (pv 0) O) aq)) (eJ nT (by rfl) T.gP gQ (af (pv 3) aq))) (aT T.UN) (bY _)) (ym (bA wA (b5 ji (eJ BB (by rfl) T.gP gQ (af (aQ (pv 0) O) aq)) (eJ nT (by rfl) T.gP gQ (af (pv 7) aq))) (aT T.UO) (bY _))))) (aE (aW (bU (af (aT T.Lp) aq)))) bC) (az (eZ dR O (iY (pv 3)) (bX (i:=6) nd O (bM O)) (aE (dF (gm (pv 0) zH hr (af (lU hu (aQ (pv 0) O) (pv 6) (λ_ _=>rfl)) aq))))) (az (eZ dR O (iY (pv 7)) (bX (i:=8) nd O (bM O)) (aE (nX hu (aQ (pv 0) O) (pv 8) nN O))) (az (dk (pv 0) (lU hu (pv 4) (aQ (pv 0) O) (λ_ _=>rfl)) O) (aE (aW (bU (af aZ (af (aQ (pv 0) O) aq))))))))))))))),?_⟩;refine⟨p,aG,dx,_,_,O,c.obj,TM.cl,TM.gZ,jz _ _ _ _ _,O,_,O,?_⟩;unfold xw at q;by_cases h0:at_=0
 .rw[aD h0]at q;exact dC (by lia) ⟨a_1,λR hR=>q.ask c (bp hR) hR ah⟩
 rw[au h0]at q;refine cX (by lia) ⟨p,dx,_,O,c.obj,tO _ _ _ _ _,p,dx,dm,dl,pl,a,m,at_,last,f',O,c,ok.tofg,hS,hw,hl,λH2 S s2 dS hs=>?_⟩;refine⟨p,aG,dx,_,_,O,s2 _ _ c.obj,TM.cl,TM.gZ,jz _ _ _ _ _,S,_,O,.inl (aC.of hs),O,rM _,_,O,?_⟩;show if(!ib (.int (at_:Int)) (aA (aU f' m)))=L then _ else _
 rw[vc];have eh:kG f' m at_=(aU f' m).contains at_:=rfl;rw[eh]at q;have snd:=Gx ok.nd f';have X':∀u∈aU f' m,u∈ae m:=λu ie=>Ar ie;have aj1:=XC m f';have Gy:=Gw m last g f' snd;cases hb:(aU f' m).contains at_ with
 |false=>rw[hb,aD rfl]at q;exact bO ⟨a_1,λR hR=>q.ask c (aS s2 (s2.free hR)) (s2.free hR) ah⟩
 |true=>
  rw[hb,au (λz=>jU z)]at q;have jo:at_∈aU f' m:=by simpa using hb
  have Nb:(l7 m last g f').states.length=m.states.length+(aU f' m).length:=by rw[<-Gy.1];show(m.states++g0 m last (aU f' m)).length=_;unfold g0;simp
  have Nc:(l7 m last g f').links.length=m.links.length+(gK last g (aU f' m) m.links).length:=by rw[<-Gy.2.length_eq];simp
  generalize aU f' m=l at hs q hb snd X' aj1 Gy jo Nb Nc;refine bN ?_;intro D hD;have lQ:=s2.free hD;have s3:aw H2 (M H2 D (.dK [])):=bp hD;refine⟨S,_,O,aC.of (s3 _ _ hs),?_⟩
  refine jr (n:=(aA l).length) (λi σ H'=>∃v5 v6,σ=[B (.ref p),B (.int (g:Nat)),B (.ref a),B (.ref S),B (.ref D),v5,v6,N,N]/\aw H2 H'/\H' D=B (.dK ((l.take i).map λu:Nat=>((cC ((u:Nat):Int),V.int ((cp last l u:Nat):Int)):Key×V))))
   ⟨N,N,O,s3,ah⟩ (λi σ H' hi ⟨_,_,_,s,_⟩=>⟨_,_,aC.of (s _ _ hs),cc hi⟩) (λσ H' ⟨_,_,_,s,_⟩=>⟨_,aC.of (s _ _ hs),aX _⟩) ?_ ?_
  .rintro i x σ H3 H3' hi ⟨v5,v6,rfl,s4,d4⟩ ⟨T',y,rfl,hT,rfl,hy⟩;obtain⟨u,fh,rfl⟩:=jB (hy _ (aC.of (s4 _ _ hs)));have dA:=cR fh;have DT:D≠T':=aK d4 hT;have s5:aw H2 (M H3 T' (.tup [.int ((i:Nat)+1),.int (u:Nat)])):=aS s4 (s4.free hT);refine⟨T',_,O,cW.of ah,O,_,_,O,_,_,O,O,?_⟩;refine⟨p,aG,dx,_,_,O,s5 _ _ (s2 _ _ c.obj),TM.cl,TM.ze,FT _ _ _ _ _,_,_,O,O,D,_,O,qo.k (k:=.inl ((u:Nat):Int)) ((aa DT).trans d4) (by rw[dj,eF];exact cY (by lia)),_,_,O,aS s5 hD,?_⟩
   have j9:cE ((l.take i).map λu:Nat=>((cC ((u:Nat):Int),V.int ((cp last l u:Nat):Int)):Key×V)) (.inl ((u:Nat):Int))=none:=xm λpr hp=>by
    obtain⟨x,hx,rfl⟩:=cx.mp hp;intro z;have ex:x=u:=by grind
    rw[ex]at hx;obtain⟨j,hj⟩:=lX hx;have gu:=cR hj;rw[eF]at gu;rw[tV,aD (by lia)]at hj;have:=zx snd hj fh;lia
   have ei:cp last l u=last+(i+1):=by unfold cp;rw[CC snd fh];lia
   rw[ah,wL _ j9,take_snoc fh,f9];refine cb B (cb HO.dK (cb _ ?_));show[((cC ((u:Nat):Int),V.int ((last:Int)+((i:Int)+1))):Key×V)]=[(cC ((u:Nat):Int),V.int ((cp last l u:Nat):Int))];rw[ei];rfl
  rintro σ H3 ⟨v5,v6,rfl,s4,d4⟩;rw[bP,eE]at d4;have s5:=s2.trans s4;refine⟨p,aG,dx,_,_,O,s5 _ _ c.obj,TM.cl,TM.gY,jq _ _ _ _ _,dl,D,g,last,l,m.links,O,s5 _ _ c.links,d4,Ct,λH4 G ts s6 hG hg tu=>?_⟩;have s7:=s5.trans s6;have ap2:=XU last g l m.links;refine⟨p,aG,dx,_,_,O,s7 _ _ c.obj,TM.cl,TM.f7,i8 _ _ _ _ _,dm,_,O,s7 _ _ c.b0,S,_,O,.inl (aC.of (s6 _ _ (s4 _ _ hs))),_,_,O,O,_,_,O,O,_,O,?_⟩;apply L7 (b:=decide (16<(l7 m last g f').states.length\/200<(l7 m last g f').links.length))
  .intro rest;rw[Nb,Nc]at rest;rw[jE,bP];by_cases h1:16<m.states.length+l.length
   .rw[cw (.inl h1)]at rest;rw[cw (show(16:Int)<((m.states.length:Nat):Int)+((l.length:Nat):Int)by lia)];exact bO rest
   .rw[eG (show¬(16:Int)<((m.states.length:Nat):Int)+((l.length:Nat):Int)by lia)];refine bN ⟨p,aG,dx,_,_,O,s7 _ _ c.obj,TM.cl,TM.gY,jq _ _ _ _ _,dl,_,O,s7 _ _ c.links,G,_,O,.inl (aC.of hg),_,_,O,O,_,_,O,O,_,O,?_⟩;rw[lh,la,tu.len];have e:decide (16<m.states.length+l.length\/200<m.links.length+(gK last g l m.links).length)=decide ((200:Int)<((m.links.length:Nat):Int)+(((gK last g l m.links).length:Nat):Int)):=decide_eq_decide.mpr ⟨λz=>by lia,λz=>.inr (by lia)⟩;rw[e]at rest;exact rest
  .intro hb;rw[aD (of_decide_eq_true hb)]at q;exact⟨a_1,λR hR=>q.ask c (aS s7 (s7.free hR)) (s7.free hR) ah⟩
  .intro hb;have oA:=of_decide_eq_false hb;rw[au oA]at q;rw[Nb,Nc]at oA;have Nd:m.states.length+l.length<=16:=by lia
   have yr:m.links.length+(gK last g l m.links).length<=200:=by lia
   have c4:=c.same s7;have Sp:S≠p:=λz=>by rw[z,c.obj]at dS;cases dS
   have Sm:S≠dm:=λz=>by rw[z,c.b0]at dS;cases dS
   have Sl:S≠dl:=λz=>by rw[z,c.links]at dS;cases dS
   have Dp:D≠p:=λz=>by rw[z,c.obj]at lQ;cases lQ
   have Dm:D≠dm:=λz=>by rw[z,c.b0]at lQ;cases lQ
   have Dl:D≠dl:=λz=>by rw[z,c.links]at lQ;cases lQ
   have o6:H G=none:=s5.free hG;have Gp:G≠p:=λz=>by rw[z,c.obj]at o6;cases o6
   have Gm:G≠dm:=λz=>by rw[z,c.b0]at o6;cases o6
   have Gl:G≠dl:=λz=>by rw[z,c.links]at o6;cases o6
   have uS:=s6 _ _ (s4 _ _ hs);have d5:=s6 _ _ d4
   have tN:∀{i:Nat}{t:J},ts[i]?=B t->t≠p/\t≠dm/\t≠dl:=λ{i t} e=>by have dA:=cR e;rw[tu.len]at dA;have h':=tu.at_ i t _ e (cc dA);exact⟨bE h' c4.obj nofun,bE h' c4.b0 nofun,bE h' c4.links nofun⟩
   refine⟨S,O,⟨_,aC.of uS⟩,mE (K:=K) (a:=S) (xs:=aA l) (λi σ H'=>∃v6,σ=[B (.ref p),B (.int (g:Nat)),B (.ref a),B (.ref S),B (.ref D),v5,v6,B (.ref G),N]/\bQ [p,dm] H4 H'/\Core aG H' p dx dm dl pl ⟨m.states++(g0 m last l).take i,m.links⟩ at_ (last+i)) ⟨v6,O,bQ.refl _ _,by rw[MH,fV];exact c4⟩ (λi σ H' _ ⟨_,_,k,_⟩=>aC.of (k _ _ uS (by simp[Sp,Sm]))) ?_ ?_⟩
   .rintro i x σ H5 hi ⟨v6,rfl,k5,c5⟩;obtain⟨n,hn,rfl⟩:=jB hi;have dA:=cR hn;have Ya:n∈ae m:=X' n (gG hn)
    have aj3:n∈ae (⟨m.states++(g0 m last l).take i,m.links⟩:Md):=by unfold ae at Ya ⊢;grind
    have ev:=Xi aj3;rw[ajX Ya]at ev;have al:(g0 m last l).length=l.length:=by unfold g0;simp
    have ai:(g0 m last l)[i]?=B ⟨last+i+1,cF m n⟩:=by unfold g0;rw[ig,hn];show B (⟨cp last l n,cF m n⟩:State1)=_;unfold cp;grind
    refine⟨p,dx,_,O,c5.obj,Vf _ _ _ _ _,p,aG,dx,_,_,O,c5.obj,TM.cl,TM.f7,i8 _ _ _ _ _,dm,_,O,.inl ⟨_,.inl (n:Int),.inl c5.b0,O,ev.symm⟩,?_⟩;refine⟨p,dx,dm,dl,pl,_,at_,last+i,cF m n,O,c5,λu ie=>?_,?_,λH6 k6 c6=>⟨_,O,k5.trans k6,?_⟩⟩
    .unfold ae at ie;rw[f9]at ie;rcases eX.mp ie with z|z
     .have:=(ok.le u z).2;lia
     .obtain⟨x,hx,rfl⟩:=cx.mp z;obtain⟨j,hj⟩:=lX hx;have gu:=cR hj;rw[eF]at gu;rw[tV,aD (by lia)]at hj;have aj4:j<l.length:=by lia
      have Yb:=cc aj4;unfold g0 at hj;rw[ig,Yb]at hj;cases hj
      show cp last l l[j]<=last+i;unfold cp;rw[CC snd Yb];lia
    .show(m.states++(g0 m last l).take i).length<=100;rw[cK,eF];lia
    .have:m.states++(g0 m last l).take (i+1)=(m.states++(g0 m last l).take i)++[⟨last+i+1,cF m n⟩]:=by rw[take_snoc ai,iD]
     rw[this];exact c6
   rintro σ H5 ⟨v6,rfl,k5,c5⟩;have al:(g0 m last l).length=l.length:=by unfold g0;simp
   rw[bP,<-al,eE,al]at c5;have hg5:=k5 _ _ hg (by simp[Gp,Gm])
   have nA:∀j,∀x∈(gK last g l m.links).drop j,∀y∈m.links++(gK last g l m.links).take j,x≠y:=λj x hx y hy z=>by
    subst z;rcases eX.mp hy with h|h
    .have h1:=XX (List.mem_of_mem_drop hx);have h2:=(ok.le _ (ok.ends x h).1).2;lia
    .have an:=M' (last:=last) (a:=g) (l:=l) ok.gq;rw[<-zk j (gK last g l m.links)]at an;grind
   refine⟨G,O,⟨_,aC.of hg5⟩,mE (K:=K) (a:=G) (xs:=refs ts) (λi σ H'=>∃v8,σ=[B (.ref p),B (.int (g:Nat)),B (.ref a),B (.ref S),B (.ref D),v5,v6,B (.ref G),v8]/\bQ [p,dm,dl] H4 H'/\Core aG H' p dx dm dl pl ⟨m.states++g0 m last l,m.links++(gK last g l m.links).take i⟩ at_ (last+l.length)) ⟨N,O,k5.mono (λb hb=>by grind),by grind⟩ (λi σ H' _ ⟨_,_,k,_⟩=>aC.of (k _ _ hg (by simp[Gp,Gm,Gl]))) ?_ ?_⟩
   .rintro i x σ H6 hi ⟨v8,rfl,k6,c6⟩;obtain⟨t,ht,rfl⟩:=Cb hi;have dA:=cR ht;rw[tu.len]at dA;have hr:=cc dA;have htu:=tu.at_ i t _ ht hr;obtain⟨n1,n2,n3⟩:=tN ht;have Gz:=k6 _ _ htu (by simp[n1,n2,n3]);have uO:(gK last g l m.links)[i]∉m.links++(gK last g l m.links).take i:=λz=>nA i _ (by rw[B2 dA];exact eR) _ z rfl;refine⟨p,aG,dx,_,_,O,c6.obj,TM.cl,TM.gY,jq _ _ _ _ _,dl,_,O,.inr ⟨_,fc _,t,c6.links,O,Gz,by rw[lh,cK,eF];exact cY (by lia),O⟩,_,O,k6.M (.inl (by simp)),?_⟩;have ep:=Gr uO;rw[ep];have iT:p≠dl:=bE c.obj c.links nofun;have ml':dm≠dl:=bE c.b0 c.links nofun;refine⟨(aa iT).trans c6.obj,(aa ml').trans c6.b0,?_⟩;rw[ah,take_snoc hr,iD]
   rintro σ H6 ⟨v8,rfl,k6,c6⟩;rw[la,tu.len,eE]at c6;have d6:=k6 _ _ d5 (by simp[Dp,Dm,Dl]);refine⟨p,aG,dx,_,_,O,c6.obj,TM.cl,TM.gZ,jz _ _ _ _ _,D,_,O,.inl ⟨_,.inl (at_:Int),.inl d6,O,(CB jo).symm⟩,p,aG,dx,_,O,c6.obj,TM.cl,TM.gZ,(by show 5<1000;decide),?_⟩;refine⟨p,aG,dx,_,_,O,ah,TM.cl,TM.gZ,jz _ _ (.int ((cp last l at_:Nat):Int)) _ _,a_2,λR hR=>?_⟩;have pR:p≠R:=aK ah hR;have oq:H6 R=none:=(aa (aP pR)).symm.trans hR
   have kI:H R=none:=s7.free (k6.free oq (λz=>by
    have:R=p\/R=dm\/R=dl:=by simpa using z
    rcases this with z|z|z
    .exact pR z.symm
    .rw[z,c6.b0]at oq;cases oq
    .rw[z,c6.links]at oq;cases oq))
   have mp':dm≠p:=bE c.b0 c.obj nofun;have lp':dl≠p:=bE c.links c.obj nofun;have mR:dm≠R:=aK c.b0 kI;have lR:dl≠R:=aK c.links kI;exact q _ R dm dl _ ((((bQ.jA s7).trans k6).M (.inl (by simp))).M (.inr kI)) (.inl O) (.inl O) Gy ⟨(aa pR).trans ah,(aa mR).trans ((aa mp').trans c6.b0),(aa lR).trans ((aa lp').trans c6.links)⟩ kI ah
theorem Nf {α:Type}{r:α->α->Bool}:∀{l1 l2:List α},l1.Perm l2->l1.Pairwise (λa b=>r b a=aH)->l2.Pairwise (λa b=>r a b=L)->l1=l2
 |[],[],_,_,_=>rfl
 |[],_::_,h,_,_=>bT h.length_eq (by simp)
 |_::_,[],h,_,_=>bT h.length_eq (by simp)
 |y::t1,x::t2,h,h1,h2=>by
  have h1:=Yc.mp h1;have h2:=Yc.mp h2
  have e:y=x:=by have hx:x∈y::t1:=h.mem_iff.mpr eR;rfl'
  subst e;rw[Nf (h.cons_inv) h1.2 h2.2]
def tr (l:cD):List Int:=[(l.a:Int),(l.u:Int),(l.v:Int)]
def GA (l k:cD):Lx (tr l) (tr k)=decide (l.a<k.a\/(l.a=k.a/\(l.u<k.u\/(l.u=k.u/\l.v<k.v)))):=by
 have e:∀i j:Nat,decide ((i:Int)<(j:Int))=decide (i<j):=λi j=>decide_eq_decide.mpr (by lia)
 have h:Lx (tr l) (tr k)=(decide (l.a<k.a)||(!decide (k.a<l.a)&&(decide (l.u<k.u)||(!decide (k.u<l.u)&&(decide (l.v<k.v)||(!decide (k.v<l.v)&&aH)))))):=by rw[<-e,<-e,<-e,<-e,<-e,<-e];rfl
 grind
noncomputable def cN (m:Md):List Link:=ka.flatMap λa=>(ae m).flatMap λu=>(b8 m a u).map λv=>⟨a,u,v⟩
def Yd (h:fg m):l∈cN m↔l∈m.links:=by
 unfold cN;simp only[qF,cx];constructor
 .rintro⟨a,ha,u,hu,v,hv,rfl⟩;obtain⟨_,k,hk,e1,e2,e3⟩:=jG.mp hv;subst e1;subst e2;subst e3;exact hk
 .intro hl;have e:=h.ends l hl;have ha:=h.agents l hl
  exact⟨l.a,by
    have:l.a=0\/l.a=1\/l.a=2\/l.a=3:=by lia
    unfold ka;grind,l.u,e.1,l.v,jG.mpr ⟨e.2,l,hl,O,O,O⟩,O⟩
def zL (l k:cD):Bool:=Lx (tr l) (tr k)
def Ye {α β:Type}{R:β->β->Prop}{S:α->α->Prop}{F:α->List β}(h1:∀a,(F a).Pairwise R)(h2:∀a b,S a b->∀x∈F a,∀y∈F b,R x y):∀{l:List α},l.Pairwise S->(l.flatMap F).Pairwise R
 |[],_=>Yf
 |a::l,h=>by grind
def Yg (up:(ae m).Pairwise (·<·)):(cN m).Pairwise λl k=>zL l k=true:=by
 unfold cN;refine Ye (S:=(·<·)) (λa=>Ye (S:=(·<·)) (λu=>?_) (λu u' huu x hx y hy=>?_) up) (λa b hab x hx y hy=>?_) (by decide)
 .rw[E9];have:(b8 m a u).Pairwise (·<·):=up.filter _;refine this.imp λ{v v'} hv=>?_;unfold zL;rw[GA];grind
 .obtain⟨v,_,rfl⟩:=cx.mp hx;obtain⟨v',_,rfl⟩:=cx.mp hy;unfold zL;rw[GA];grind
 .obtain⟨u,_,hx⟩:=qF.mp hx;obtain⟨u',_,hy⟩:=qF.mp hy;obtain⟨v,_,rfl⟩:=cx.mp hx;obtain⟨v',_,rfl⟩:=cx.mp hy;unfold zL;rw[GA];grind
def aj' (a:cD):zL a a=false:=by unfold zL;rw[GA];simp
def Ng {α:Type}{l1 l2:List α}(h1:l1.Nodup)(h2:l2.Nodup)(h:∀x,x∈l1↔x∈l2):l1.Perm l2:=by
 classical
 grind
def aka (up:(ae m).Pairwise (·<·)):(cN m).Nodup:=(Yg up).imp λ{a b} h e=>by subst e;rw[aj']at h;cases h
def GB (h:fg m)(up:(ae m).Pairwise (·<·))(ln:m.links.Nodup):(cN m).Perm m.links:=Ng (aka up) ln λ_=>Yd h
def Nh (ls:List cD):BF (bw ls) (ls.map tr):=by unfold BF bw;rw[gw,gw];rfl
def Ni (h:fg m)(up:(ae m).Pairwise (·<·))(ln:m.links.Nodup){ps:List (J×List Int)}(hp:(ps.map (·.2)).Perm (m.links.map tr))(hs:(ps.map (·.2)).Pairwise λa b=>Lx b a=aH):ps.map (·.2)=(cN m).map tr:=by have p2:(ps.map (·.2)).Perm ((cN m).map tr):=hp.trans ((GB h up ln).map tr).symm;refine Nf (r:=Lx) p2 hs ?_;rw[E9];exact Yg up
def Yh (m:Md):xy m=(cN m).flatMap λl=>[l.a,l.u,l.v]:=by unfold xy cN;rw[Yi];congr 1;funext a;rw[Yi];congr 1;funext u;rw[List.flatMap_map]
structure iU (H:Hp)(pl:J)(qs:List (J×J×J))(past:List (Md×Nat)):Prop where
 Z:H pl=B (.Z (refs (qs.map (·.1)).reverse))
 len:qs.length=past.length
 at_:∀(i:Nat)(q:J×J×J)(x:Md×Nat),qs[i]?=B q->past[i]?=B x->H q.1=B (.tup [.ref q.2.1,.ref q.2.2,.int (x.2:Nat)])/\H q.2.1=B (.dK (cQ x.1.states))/\H q.2.2=B (.dT (bw x.1.links))
def Yj (C:J):Sp:=λvs H Q _=>e_2 λ(p dx:J)=>vs=[.ref p]/\H p=B (.ins C dx [])/\∀(H':Hp)(dm dl pl:J),bQ [p] H H'->H dm=N->H dl=N->H pl=N->Core C H' p dx dm dl pl {} 0 0->iU H' pl [] []->Q .bB H'
def Yk (P:bx)(w:World)(C:J):Sp:=λvs H Q _=>e_8 λ(p dx dm dl pl:J)(m:Md)(at_ last:Nat)=>vs=[.ref p]/\Core C H p dx dm dl pl m at_ last/\BD P w (bw m.links)/\
 ∀(H':Hp)(t a b:J),aw H H'->H t=N->H a=N->H b=N->H' t=B (.tup [.ref a,.ref b,.int (at_:Nat)])->H' a=B (.dK (cQ m.states))->H' b=B (.dT (bw m.links))->Q (.ref t) H'
def Yl (C:J):Sp:=λvs H Q _=>e_10 λ(p dx dm dl pl:J)(m:Md)(at_ last:Nat)(qs:List (J×J×J))(past:List (Md×Nat))=>vs=[.ref p]/\Core C H p dx dm dl pl m at_ last/\iU H pl qs past/\
 (past=[]->∀(H':Hp)(S:J),aw H H'->H S=N->H' S=B (.Z (vi [-12]))->Q (.ref S) H')/\
 (∀x ps q nr,past=x::ps->qs=q::nr->∀(H':Hp)(S:J),bQ [p,pl] H H'->Core C H' p dx q.2.1 q.2.2 pl x.1 x.2 last->iU H' pl nr ps->H S=N->H' S=B (.Z (vi [0]))->Q (.ref S) H')
noncomputable def Nj (m:Md)(at_:Nat):List Int:=0::(at_:Int)::(m.states.length:Int)::Vbtaag.ints (m.states.flatMap λx=>[x.id,x.mask])++(m.links.length:Int)::Vbtaag.ints (xy m)
def Ym (C:J):Sp:=λvs H Q _=>e_8 λ(p dx dm dl pl:J)(m:Md)(at_ last:Nat)=>vs=[.ref p]/\Core C H p dx dm dl pl m at_ last/\cg m at_ last/\
 ∀(H':Hp)(S:J),aw H H'->H S=N->H' S=B (.Z (vi (Nj m at_)))->Q (.ref S) H'
def Yn:bZ ["self"] ["self"] (bb K4):=⟨O,O,O,by simp,O,by decide+kernel,by decide+kernel⟩
def akb (TM:ip K aG)(F:bG K "__init__" "Model.__init__" K4 f fd)(T:Txt K mg):b_ 1 f fd ["self"] (Yj aG):=by
 rcases F,Yn with⟨p,dx,rfl,hp,k⟩;refine⟨_,(az (dk (pv 0) yK O) (az (dk (pv 0) Bn O) (az (dk (pv 0) aZ O) (az (dk (pv 0) aZ O) (aE (dk (pv 0) (bU aq) O)))))),?_⟩;intro D hD;have pD:p≠D:=aK hp hD;refine⟨p,aG,dx,_,O,(aa pD).trans hp,TM.cl,TM.f7,(by simp),?_⟩;intro bV hL;have pL:p≠bV:=aK ah hL;have DL:D≠bV:=aK ((aa (aP pD)).trans ah) hL;have Yo:H bV=none:=by rw[aa (aP pL),aa (aP DL)]at hL;exact hL
 refine⟨p,aG,dx,_,O,(aa pL).trans ah,TM.cl,TM.gY,(by show 1<1000;decide),?_⟩;refine⟨p,aG,dx,_,O,ah,TM.cl,TM.gZ,(by show 2<1000;decide),?_⟩;refine⟨p,aG,dx,_,O,ah,TM.cl,TM.ze,(by show 3<1000;decide),?_⟩;rw[mz,mz];refine⟨by simp,λG hG=>?_⟩;have pG:p≠G:=aK ah hG;have LG:bV≠G:=aK ((aa (aP pL)).trans ah) hG;have DG:D≠G:=aK ((aa (aP pD)).trans ((aa DL).trans ((aa (aP pD)).trans ah))) hG;have o6:H G=none:=by rw[aa (aP pG),aa (aP LG),aa (aP pG),aa (aP DG)]at hG;exact hG
 refine⟨p,aG,dx,_,O,(aa pG).trans ah,TM.cl,TM.BW,(by show 4<1000;decide),?_⟩;refine k _ D bV G ?_ hD Yo o6 ⟨ah,?_,?_⟩ ⟨?_,O,λi q x e=>by simp at e⟩
 .exact((((((bQ.refl [p] H).M (.inr hD)).M (.inl (by simp))).M (.inr Yo)).M (.inl (by simp))).M (.inr o6)).M (.inl (by simp))
 .rw[aa (aP pD),aa DG,aa (aP pD),aa DL,aa (aP pD),ah];rfl
 .rw[aa (aP pL),aa LG,aa (aP pL),ah];rfl
 .rw[aa (aP pG),ah];rfl
def Yp:bZ ["self"] ["self"] (bb Lc):=⟨O,O,O,by simp,O,by decide+kernel,by decide+kernel⟩
def akc (TM:ip K aG)(F:bG K "as_it_is" "Model.as_it_is" Lc f fd)(T:Txt K mg):b_ 1 f fd ["self"] (Yk P w_ aG):=by rcases F,Yp with⟨p,dx,dm,dl,pl,m,at_,last,rfl,c,hh,k⟩;refine⟨_,(aE (aW (iZ (af (En age (by rfl) T.U2 U5 (af (aQ (pv 0) O) aq)) (af (En agf (by rfl) T.U2 U5 (af (aQ (pv 0) O) aq)) (af (aQ (pv 0) O) aq)))))),?_⟩;refine⟨p,aG,dx,_,_,O,c.obj,TM.cl,TM.f7,i8 _ _ _ _ _,dm,_,O,c.b0,λa ha=>?_⟩;have s1:aw H (M H a (.dK (cQ m.states))):=bp ha;refine⟨p,aG,dx,_,_,O,s1 _ _ c.obj,TM.cl,TM.gY,jq _ _ _ _ _,dl,_,O,s1 _ _ c.links,hh,λb hb=>?_⟩;have s2:aw H (M (M H a (.dK (cQ m.states))) b (.dT (bw m.links))):=aS s1 (s1.free hb);have ab:a≠b:=aK ah hb;refine⟨p,aG,dx,_,_,O,s2 _ _ c.obj,TM.cl,TM.gZ,jz _ _ _ _ _,a_3,λt ht=>?_⟩;have bt:b≠t:=aK ah ht;have at':a≠t:=aK ((aa ab).trans ah) ht;exact k _ t a b (aS s2 (s2.free ht)) (s2.free ht) ha (s1.free hb) ah ((aa at').trans ((aa ab).trans ah)) ((aa bt).trans ah)
def Yq:bZ ["self","before"] ["self"] (bb K9):=by left
def akd (TM:ip K aG)(F:bG K "undo" "Model.undo" K9 f fd)(T:Txt K mg):b_ 1 f fd ["self"] (Yl aG):=by
 rcases F,Yq with⟨p,dx,dm,dl,pl,m,at_,last,qs,past,rfl,c,pa,k1,k2⟩;have pp:pl≠p:=bE pa.Z c.obj nofun;refine⟨_,(az (bc (uD (yp (aQ (pv 0) O) (λ_=>rfl))) (aE (aW (bU (af (aT T.ahu) aq)))) bC) (az (bz 1 nd (rA dJ qj rN rC (aQ (pv 0) O))) (az (dk (pv 0) (cG yx (pv 1) aZ (λ_ _=>rfl)) O) (az (dk (pv 0) (cG yx (pv 1) aZ (λ_ _=>rfl)) O) (az (dk (pv 0) (cG yx (pv 1) aZ (λ_ _=>rfl)) O) (aE (aW (bU (af aZ aq))))))))),?_⟩;refine⟨p,aG,dx,_,_,O,c.obj,TM.cl,TM.BW,LK _ _ _ _ _,_,.inl ⟨_,aC.of pa.Z,O⟩,?_⟩;match qs,past,pa,k1,k2 with
 |[],_::_,pa,_,_=>exact bT pa.len (by simp)
 |_::_,[],pa,_,_=>exact bT pa.len (by simp)
 |[],[],pa,k1,k2=>exact bO ⟨a_1,λS hS=>k1 O _ S (bp hS) hS ah⟩
 |q::qs,x::ps,pa,k1,k2=>
  obtain⟨a1,a2,a3⟩:=pa.at_ 0 q x O rfl;have e1:(refs ((q::qs).map (·.1)).reverse).isEmpty=false:=by rw[dX,qz,<-oe];simp
  rw[e1]
  have el:(refs ((q::qs).map (·.1)).reverse)[(refs ((q::qs).map (·.1)).reverse).length-1]?=B (.ref q.1):=by rw[<-FY];unfold refs;simp
  have ed:(refs ((q::qs).map (·.1)).reverse).dropLast=refs (qs.map (·.1)).reverse:=by rw[Mr,Mh];rfl
  refine bN ⟨p,aG,dx,_,_,O,c.obj,TM.cl,TM.BW,LK _ _ _ _ _,.inl ⟨O,_,aC.of pa.Z⟩,pl,_,_,O,O,pa.Z,el,?_⟩;rw[ed];have tP:q.1≠pl:=bE a1 pa.Z nofun;have tp:q.1≠p:=bE a1 c.obj nofun;have h1:M H pl (.Z (refs (qs.map (·.1)).reverse)) q.1=_:=(aa tP).trans a1;have fY:M H pl (.Z (refs (qs.map (·.1)).reverse)) p=_:=(aa (aP pp)).trans c.obj;refine⟨q.1,_,0,_,O,O,cW.of h1,O,p,aG,dx,_,O,fY,TM.cl,TM.f7,(by show 5<1000;decide),?_⟩;refine⟨q.1,_,1,_,O,O,cW.of ((aa tp).trans h1),O,p,aG,dx,_,O,ah,TM.cl,TM.gY,(by show 5<1000;decide),?_⟩;rw[mz];refine⟨q.1,_,2,_,O,O,cW.of ((aa tp).trans h1),O,p,aG,dx,_,O,ah,TM.cl,TM.gZ,(by show 5<1000;decide),?_⟩;rw[mz];refine⟨a_1,λS hS=>?_⟩;have pS:p≠S:=aK ah hS;have B3:M H pl (.Z (refs (qs.map (·.1)).reverse)) S=none:=(aa (aP pS)).symm.trans hS;have lS:pl≠S:=aK ah B3;have dS:H S=none:=(aa (aP lS)).symm.trans B3;have go:∀{b:J}{o:HO},H b=B o->b≠p->b≠pl->∀(o1 o2:HO),M (M (M H pl o1) p o2) S (.Z [.int 0]) b=B o:=λ{b o} e n1 n2 o1 o2=>(aa (aK e dS)).trans ((aa n1).trans ((aa n2).trans e));refine k2 x ps q qs O O _ S ((((bQ.refl _ H).M (.inl (by simp))).M (.inl (by simp))).M (.inr dS)) ⟨(aa pS).trans ah,go a2 (bE a2 c.obj nofun) (bE a2 pa.Z nofun) _ _,go a3 (bE a3 c.obj nofun) (bE a3 pa.Z nofun) _ _⟩ ⟨(aa lS).trans ((aa pp).trans ah),by have:=pa.len;simpa using this,λi q' x' e1 e2=>?_⟩ dS ah;obtain⟨b1,b2,b3⟩:=pa.at_ (i+1) q' x' e1 e2;exact⟨go b1 (bE b1 c.obj nofun) (bE b1 pa.Z nofun) _ _,go b2 (bE b2 c.obj nofun) (bE b2 pa.Z nofun) _ _,go b3 (bE b3 c.obj nofun) (bE b3 pa.Z nofun) _ _⟩
def Yr:bZ ["self","answer","number","mask","agent","start","end"] ["self"] (bb La):=by left
def ake (TM:ip K aG)(F:bG K "whole" "Model.whole" La f fd)(T:Txt K mg):b_ 1 f fd ["self"] (Ym aG):=by
 rcases F,Yr with⟨p,dx,dm,dl,pl,m,at_,last,rfl,c,ok,k⟩;have cz:=ok.cz;have Ct:=ok.iS;have mp:p≠dm:=bE c.obj c.b0 nofun;refine⟨_,(az (bz 1 nd (bU (af aZ (af (aQ (pv 0) O) (af (eJ tF (by rfl) T.gP gQ (af (aQ (pv 0) O) aq)) aq))))) (az (uW (eZ dR O (SN (aQ (pv 0) O)) (jP O (df (bX (i:=2) nd O (bM O)) (df (bX (i:=3) nd O (bM O)) jx))) (aE (dF (e9 dJ rB tT sZ (pv 1) (af (bU (af (pv 2) (af (pv 3) aq))) aq)))))) (az (dF (e9 dJ ic iF iE (pv 1) (af (eJ BB (by rfl) T.gP gQ (af (aQ (pv 0) O) aq)) aq))) (az (eZ dR O (iY (eJ (J3 O) (by rfl) T.FG FH (af (aQ (pv 0) O) aq))) (jP O (df (bX (i:=4) nd O (bM O)) (df (bX (i:=5) nd O (bM O)) (df (bX (i:=6) nd O (bM O)) jx)))) (aE (dF (e9 dJ rB tT sZ (pv 1) (af (bU (af (pv 4) (af (pv 5) (af (pv 6) aq)))) aq))))) (aE (aW (pv 1))))))),?_⟩;refine⟨p,aG,dx,_,_,O,c.obj,TM.cl,TM.gZ,jz _ _ _ _ _,p,aG,dx,_,_,O,c.obj,TM.cl,TM.f7,i8 _ _ _ _ _,dm,_,O,c.b0,a_3,λR hR=>?_⟩;rw[jE];have s1:aw H (M H R (.Z [.int 0,.int (at_:Nat),.int (m.states.length:Nat)])):=bp hR;have Rm:R≠dm:=λz=>by rw[z,c.b0]at hR;cases hR
 refine⟨dm,_,s1 _ _ c.b0,trivial,λod=>⟨p,aG,dx,_,_,O,(aa mp).trans (s1 _ _ c.obj),TM.cl,TM.f7,i8 _ _ _ _ _,dm,od,_,O,ah,?_⟩⟩
 have sL:aw (M H dm (.bF od (.dK (cQ m.states)))) (M (M H R (.Z [.int 0,.int (at_:Nat),.int (m.states.length:Nat)])) dm (.bF od (.dK (cQ m.states)))):=λb o e=>by
  by_cases z:b=dm
  .rw[z]at e ⊢;rw[ah]at e ⊢;exact e
  .rw[aa z]at e ⊢;exact s1 _ _ e
 have nL:M H dm (.bF od (.dK (cQ m.states))) R=none:=(aa Rm).trans hR
 refine jr (n:=(cQ m.states).length) (λj σ H'=>∃v2 v3,σ=[B (.ref p),B (.ref R),v2,v3,N,N,N]/\aw (M H dm (.bF od (.dK (cQ m.states)))) H'/\H' R=B (.Z (vi (0::(at_:Int)::(m.states.length:Int)::Vbtaag.ints ((m.states.take j).flatMap λx=>[x.id,x.mask]))))/\((m.states.take j).flatMap λx=>[x.id,x.mask]).length<=2*j)
  ⟨N,N,O,sL,(aa Rm).trans ah,aX _⟩ (λj σ H' hj ⟨_,_,_,s,_⟩=>⟨s _ _ ah,hj⟩) (λσ H' ⟨_,_,_,s,_⟩=>⟨s _ _ ah,aX _⟩) ?_ ?_
 .rintro j x σ H3 H4 hj ⟨v2,v3,rfl,s4,r4,l4⟩ ⟨T',kx,vx,hk,rfl,hT,rfl⟩;obtain⟨st,eY,rfl,rfl⟩:=Ga hk;have gu:=cR eY;have RT:R≠T':=aK r4 hT;have s5:=aS (p:=T') (o:=.tup [kV (.inl (st.id:Int)),.int (st.mask:Int)]) s4 (s4.free hT);refine⟨T',_,O,cW.of ah,O,_,_,O,_,_,O,O,?_⟩;refine⟨.inl ⟨O,_,aC.of ((aa RT).trans r4)⟩,a_2,λq hq=>?_⟩;have Rq:R≠q:=aK ((aa RT).trans r4) hq;have en:(m.states.take (j+1)).flatMap (λx=>[x.id,x.mask])=(m.states.take j).flatMap (λx=>[x.id,x.mask])++[st.id,st.mask]:=by rw[take_snoc eY,tW];rfl
  refine⟨R,q,_,_,O,O,(aa Rq).trans ((aa RT).trans r4),ah,?_,_,_,O,aS (aS s5 (s5.free hq)) nL,?_,?_⟩
  .rw[o3];simp only[dY,Vbtaag.ints,dj,mQ];exact jD (by lia)
  .rw[ah,en];unfold Vbtaag.ints;rw[f9];show _=B (HO.Z (vi ((0::(at_:Int)::(m.states.length:Int)::_)++_)));rw[zF];rfl
  .rw[en,cK];simp only[dY,mQ];lia
 rintro σ H3 ⟨v2,v3,rfl,s4,r4,l4⟩;rw[jE]at r4 l4;rw[eE]at r4 l4;refine⟨s4 _ _ ah,?_⟩;have s5:aw H (M H3 dm (.dK (cQ m.states))):=unlock s4 c.b0;have r5:M H3 dm (.dK (cQ m.states)) R=_:=(aa Rm).trans r4;generalize M H3 dm (.dK (cQ m.states))=H5 at s5 r5;generalize hA:(0::(at_:Int)::(m.states.length:Int)::Vbtaag.ints (m.states.flatMap λx=>[x.id,x.mask]))=A0 at r5
 have lA:A0.length<=40:=by rw[<-hA];simp only[dY,Vbtaag.ints,dj];lia
 refine⟨.inl ⟨O,_,aC.of r5⟩,p,aG,dx,_,_,O,s5 _ _ c.obj,TM.cl,TM.gY,jq _ _ _ _ _,dl,_,O,s5 _ _ c.links,R,_,_,O,O,r5,by rw[o3];exact cY (by lia),?_⟩;have s6:aw H (M H5 R (.Z (vi A0++[.int ((bw m.links).length:Nat)]))):=aS s5 hR;have r6:M H5 R (.Z (vi A0++[.int ((bw m.links).length:Nat)])) R=B (.Z (vi (A0++[(m.links.length:Int)]))):=by rw[ah,zF,lh];rfl
 generalize M H5 R (.Z (vi A0++[.int ((bw m.links).length:Nat)]))=H6 at s6 r6;refine⟨p,aG,dx,_,_,O,s6 _ _ c.obj,TM.cl,TM.gY,jq _ _ _ _ _,dl,_,_,O,s6 _ _ c.links,Nh _,(λk hk=>by obtain⟨l,_,rfl⟩:=cx.mp hk;exact l9 _ _),λps G hp CD ht hG=>?_⟩;have es:=Ni ok.tofg ok.up ok.gq hp CD;have iT:ps.length=(cN m).length:=by have:=cb lO es;simpa using this
 have akf:(cN m).length<=200:=by rw[(GB ok.tofg ok.up ok.gq).length_eq];exact Ct
 have RG:R≠G:=aK r6 hG;have s7:aw H6 (M H6 G (.Z (ps.map λq=>.ref q.1))):=bp hG;have GH:H G=none:=s6.free hG
 have sB:aw (del (M H6 G (.Z (ps.map λq=>.ref q.1))) R) (M H6 G (.Z (ps.map λq=>.ref q.1))):=λb o e=>by
  by_cases z:b=R
  .rw[z,rQ]at e;cases e
  .rw[kD z]at e;exact e
 have sH:aw H (del (M H6 G (.Z (ps.map λq=>.ref q.1))) R):=Ca (s6.trans s7) hR;have gB:del (M H6 G (.Z (ps.map λq=>.ref q.1))) R G=B (.Z (ps.map λq=>.ref q.1)):=(kD (aP RG)).trans ah;have tB:∀q∈ps,del (M H6 G (.Z (ps.map λq=>.ref q.1))) R q.1=B (.tup (q.2.map V.int)):=λq hq=>(kD (bE (ht q hq) r6 nofun)).trans (s7 _ _ (ht q hq));have zB:del (M H6 G (.Z (ps.map λq=>.ref q.1))) R R=none:=rQ;have r7:M H6 G (.Z (ps.map λq=>.ref q.1)) R=_:=(aa RG).trans r6;generalize del (M H6 G (.Z (ps.map λq=>.ref q.1))) R=HB at sB sH gB tB zB;refine⟨G,O,⟨_,aC.of ah⟩,mE (K:=K) (a:=G) (xs:=ps.map λq=>.ref q.1) (λi σ H'=>e_3 λv4 v5 v6=>σ=[B (.ref p),B (.ref R),v2,v3,v4,v5,v6]/\aw HB H'/\H' R=B (.Z (vi (A0++(m.links.length:Int)::Vbtaag.ints (((cN m).take i).flatMap λl=>[l.a,l.u,l.v]))))/\(((cN m).take i).flatMap λl=>[l.a,l.u,l.v]).length<=3*i) ⟨N,N,N,O,sB,r7,aX _⟩ (λi σ H' _ ⟨_,_,_,_,s,_⟩=>aC.of (s _ _ gB)) ?_ ?_⟩
 .rintro i x σ H8 hi ⟨v4,v5,v6,rfl,s8,r8,l8⟩;rw[ig]at hi;cases hq:ps[i]? with
  |none=>rw[hq]at hi;cases hi
  |some q=>
   rw[hq]at hi;have hx:x=.ref q.1:=(iO hi).symm;subst hx;have dA:=cR hq;have hl:=cc (show i<(cN m).length by lia)
   have e2:q.2=tr (cN m)[i]:=by have:=cb (λl=>l[i]?) es;grind
   have qG:=s8 _ _ (tB q (gG hq));rw[e2]at qG;generalize(cN m)[i]=l at hl qG e2;refine⟨q.1,_,O,cW.of qG,O,_,_,O,_,_,O,_,_,O,O,?_⟩;refine⟨.inl ⟨O,_,aC.of r8⟩,a_3,λq2 jW=>?_⟩;have Rq:R≠q2:=aK r8 jW;have en:((cN m).take (i+1)).flatMap (λl=>[l.a,l.u,l.v])=((cN m).take i).flatMap (λl=>[l.a,l.u,l.v])++[l.a,l.u,l.v]:=by rw[take_snoc hl,tW];rfl
   refine⟨R,q2,_,_,O,O,(aa Rq).trans r8,ah,?_,_,_,_,O,aS (aS s8 (s8.free jW)) zB,?_,?_⟩
   .rw[o3];simp only[cK,dY,Vbtaag.ints,dj,mQ];exact jD (by lia)
   .rw[ah,en];unfold Vbtaag.ints;rw[f9];refine cb B (cb HO.Z ?_);show vi _++vi ([l.a,l.u,l.v].map λn=>((n:Nat):Int))=vi _;rw[<-zF,iD,yI]
   .rw[en,cK];simp only[dY,mQ];lia
 .rintro σ H8 ⟨v4,v5,v6,rfl,s8,r8,l8⟩;rw[dj,iT,eE,<-Yh,<-hA]at r8;exact k _ R (sH.trans s8) hR r8
abbrev Ent:=Nat×List Nat
def gL (m:Md)(x:Nat):List (Nat×Nat):=ka.flatMap λa=>(b8 m a x).map λv=>(a,v)
def jH (c:List Nat)(p:Nat×Nat):Ent:=(p.2,c++[p.1,p.2])
noncomputable def bg (m:Md)(bV:List Ent):List Ent:=bV.flatMap λe=>(gL m e.1).map (jH e.2)
noncomputable def fr:List Ent->List Nat->List Ent×List Nat
 |[],s=>([],s)
 |e::l,s=>if s.contains e.1=L then fr l s else(e::(fr l (e.1::s)).1,(fr l (e.1::s)).2)
def jI (h:e.1∈s):fr (e::l) s=fr l s:=by rw[fr,aD (by simpa using h)]
def kJ (h:e.1∉s):fr (e::l) s=(e::(fr l (e.1::s)).1,(fr l (e.1::s)).2):=by rw[fr,au (by simpa using h)]
theorem xA:∀(a b:List Ent)(s:List Nat),fr (a++b) s=((fr a s).1++(fr b (fr a s).2).1,(fr b (fr a s).2).2)
 |[],b,s=>rfl
 |e::a,b,s=>by
  by_cases h:e.1∈s
  .rw[yI,jI h,jI h,xA a b s]
  .rw[yI,kJ h,kJ h,xA a b (e.1::s)];rfl
theorem xB:∀(l:List Ent)(s:List Nat)(v:Nat),v∈(fr l s).2↔v∈s\/∃e∈l,e.1=v
 |[],s,v=>by simp[fr]
 |e::l,s,v=>by
  by_cases h:e.1∈s
  .rw[jI h,xB l s v];rfl'
  .rw[kJ h,xB l (e.1::s) v];rfl'
theorem vv:∀(l:List Ent)(s:List Nat)(v:Nat),v∈(fr l s).2↔v∈s\/∃e∈(fr l s).1,e.1=v
 |[],s,v=>by simp[fr]
 |e::l,s,v=>by
  by_cases h:e.1∈s
  .rw[jI h,vv l s v]
  .rw[kJ h,vv l (e.1::s) v];rfl'
theorem vy:∀(l:List Ent)(s:List Nat)(e:Ent),e∈(fr l s).1->e∈l/\e.1∉s
 |[],s,e,h=>by simp[fr]at h
 |x::l,s,e,h=>by
  by_cases z:x.1∈s
  .rw[jI z]at h;have:=vy l s e h;grind
  .rw[kJ z]at h;rcases dz.mp h with y|y
   .grind
   .have:=vy l (x.1::s) e y;grind
theorem GC:∀(l:List Ent)(k s:List Nat),(∀v∈k,v∈s)->fr (l.filter λe=>!k.contains e.1) s=fr l s
 |[],k,s,_=>rfl
 |e::l,k,s,h=>by
  rw[kY];by_cases z:e.1∈k
  .rw[au (by simpa using z),jI (h _ z),GC l k s h]
  .rw[aD (by simpa using z)];by_cases y:e.1∈s
   .rw[jI y,jI y,GC l k s h]
   .rw[kJ y,kJ y,GC l k (e.1::s) λv hv=>eD _ (h v hv)]
theorem GD (bad:Ent->Bool)(hb:∀e e':Ent,e.1=e'.1->bad e=bad e'):∀(l:List Ent)(s:List Nat),(∀e:Ent,e.1∈s->bad e=aH)->(fr l s).1.find? bad=l.find? bad
 |[],s,_=>rfl
 |e::l,s,h=>by
  by_cases z:e.1∈s
  .rw[jI z,xC (by grind),GD bad hb l s h]
  .rw[kJ z];show(e::_).find? bad=_;cases he:bad e with
   |true=>grind
   |false=>rw[xC (by grind),xC (by grind)];refine GD bad hb l (e.1::s) λx hx=>?_<;>grind
noncomputable def T (m:Md):Nat->List Ent->List Nat->List Ent
 |0,_,_=>[]
 |_+1,[],_=>[]
 |n+1,e::r,K=>(fr (bg m [e]) K).1++T m n (r++(fr (bg m [e]) K).1) (fr (bg m [e]) K).2
def Nk (m:Md)(n:Nat)(K:List Nat):T m n [] K=[]:=by cases n<;>rfl
def zM (m:Md)(e:Ent)(l:List Ent):bg m (e::l)=bg m [e]++bg m l:=by unfold bg;simp
def Nl (m:Md)(a b:List Ent):bg m (a++b)=bg m a++bg m b:=by unfold bg;simp
theorem Ys (m:Md):∀(a b:List Ent)(n:Nat)(K:List Nat),T m (a.length+n) (a++b) K=(fr (bg m a) K).1++T m n (b++(fr (bg m a) K).1) (fr (bg m a) K).2
 |[],b,n,K=>by simp[bg,fr]
 |e::a,b,n,K=>by
  have e1:(e::a).length+n=(a.length+n)+1:=by grind
  rw[e1,yI,T,iD,Ys m a (b++(fr (bg m [e]) K).1) n (fr (bg m [e]) K).2,zM m e a,xA];simp
noncomputable def rem (m:Md)(K:List Nat):Nat:=((ae m).filter λv=>!K.contains v).length
def o7 (h:p∈gL m x):p.2∈ae m/\p.1<4/\∃l∈m.links,l.a=p.1/\l.u=x/\l.v=p.2:=by
 unfold gL at h;obtain⟨a,ha,h⟩:=qF.mp h;obtain⟨v,hv,rfl⟩:=cx.mp h;have:=jG.mp hv;refine⟨this.1,?_,this.2⟩;have:a=0\/a=1\/a=2\/a=3:=by unfold ka at ha;grind
 lia
def vz (h:e∈bg m bV):∃x∈bV,∃p∈gL m x.1,e=jH x.2 p:=by obtain⟨x,hx,h⟩:=qF.mp h;grind
def CF (h:e∈bg m bV):e.1∈ae m:=by obtain⟨x,_,p,hp,rfl⟩:=vz h;exact(o7 hp).1
def Yt (hn:(ae m).Nodup){v:Nat}{K:List Nat}(hv:v∈ae m)(hK:v∉K):rem m (v::K)+1=rem m K:=by
 unfold rem;generalize ae m=is at hn hv;induction is with
 |nil=>cases hv
 |cons a is ih=>
  have hn:=fW.mp hn;rw[kY,kY];by_cases z:a=v
  .subst z;rw[au (by simp),aD (by grind)]
   have:(is.filter λv=>!(a::K).contains v)=is.filter λv=>!K.contains v:=si λx hx=>by grind
   grind
  rfl'
theorem zO (hn:(ae m).Nodup):∀(l:List Ent)(K:List Nat),(∀e∈l,e.1∈ae m)->rem m (fr l K).2+(fr l K).1.length=rem m K
 |[],K,_=>rfl
 |e::l,K,h=>by
  by_cases z:e.1∈K
  .rw[jI z];exact zO hn l K λx hx=>h x (eD _ hx)
  .rw[kJ z];have ih:=zO hn l (e.1::K) λx hx=>h x (eD _ hx);have:=Yt hn (h e eR) z;grind
section
variable(m:Md)(bad:Ent->Bool)
noncomputable def PP:Nat->List Ent->List Nat->Option (List Nat)
 |0,_,_=>N
 |n+1,q,K=>match(bg m q).find? bad with
  |some e=>B e.2
  |none=>PP n (fr (bg m q) K).1 (fr (bg m q) K).2
noncomputable def SS:Nat->List Ent->List Nat->Option (List Nat)
 |0,_,_=>N
 |n+1,l,k=>match l.find? bad with
  |some e=>B e.2
  |none=>SS n (fr (bg m l) k).1 (fr (bg m l) k).2
end
def Yu (m:Md)(bad:Ent->Bool):∀(n:Nat)(K:List Nat),PP m bad n [] K=N
 |0,_=>rfl
 |n+1,K=>by show(match(bg m []).find? bad with|some e=>B e.2|none=>PP m bad n (fr (bg m []) K).1 (fr (bg m []) K).2)=N;exact Yu m bad n K
theorem Yv (hn:(ae m).Nodup)(bad:Ent->Bool):∀(n:Nat)(q:List Ent)(K:List Nat)(F:Nat),(q=[]\/rem m K+1<=n)->q.length+rem m K<=F->((bg m (q++T m F q K)).find? bad).map (·.2)=PP m bad n q K
 |0,q,K,F,h,hF=>by
  rcases h with h|h
  .subst h;rw[Nk];rfl
  .omega
 |n+1,q,K,F,h,hF=>by
  rcases h with h|h
  .subst h;rw[Nk,Yu];rfl
  .obtain⟨F',rfl⟩:∃F',F=q.length+F':=⟨F-q.length,by lia⟩;have eT:=Ys m q [] F' K;rw[fV,List.nil_append]at eT;have hr:=zO hn (bg m q) K λe he=>CF he;rw[Nl,rW,eT,PP];cases hc:(bg m q).find? bad with
   |some e=>rfl
   |none=>
    rw[zP];refine Yv hn bad n _ _ F' ?_ (by lia);cases hq:(fr (bg m q) K).1 with
    |nil=>simp
    |cons a b=>grind
noncomputable def gr (u:Nat)(l:List Ent):List Ent:=l.filter λe=>e.1 !=u
def Agree (u:Nat)(k K:List Nat):Prop:=u∈K/\∀v,v≠u->(v∈k↔v∈K)
theorem zQ (u:Nat):∀(bV:List Ent)(k K:List Nat),Agree u k K->gr u (fr bV k).1=(fr bV K).1/\Agree u (fr bV k).2 (fr bV K).2
 |[],k,K,h=>⟨O,h⟩
 |e::bV,k,K,h=>by
  by_cases z:e.1=u
  .have hK:e.1∈K:=z▸h.1;rw[jI (s:=K) hK];by_cases y:e.1∈k
   .rw[jI y];exact zQ u bV k K h
   .rw[kJ y]
    have h':Agree u (e.1::k) K:=⟨h.1,λv hv=>by
     rw[dz];constructor
     .rintro(w|w)
      .omega
      .exact(h.2 v hv).mp w
     .intro w;exact .inr ((h.2 v hv).mpr w)⟩
    have ih:=zQ u bV (e.1::k) K h';refine⟨?_,ih.2⟩;show gr u (e::_)=_;unfold gr at ih ⊢;grind
  .by_cases y:e.1∈k
   .rw[jI y,jI ((h.2 _ z).mp y)];exact zQ u bV k K h
   .rw[kJ y,kJ (λw=>y ((h.2 _ z).mpr w))];have h':Agree u (e.1::k) (e.1::K):=⟨eD _ h.1,λv hv=>by rw[dz,dz,h.2 v hv]⟩;have ih:=zQ u bV (e.1::k) (e.1::K) h';refine⟨?_,ih.2⟩;show gr u (e::_)=e::_;unfold gr at ih ⊢;grind
def Yw:∀(bV:List Ent)(k:List Nat),(∀e∈bV,e.1∈k)->fr bV k=([],k)
 |[],k,_=>rfl
 |e::bV,k,h=>by rw[jI (h e eR)];exact Yw bV k λx hx=>h x (eD _ hx)
def akg (u:Nat)(a b:List Ent):gr u (a++b)=gr u a++gr u b:=nj _ _
theorem Nm (m:Md)(u:Nat):∀(l:List Ent)(k K:List Nat),Agree u k K->(∀p∈gL m u,p.2∈k)->gr u (fr (bg m l) k).1=(fr (bg m (gr u l)) K).1/\Agree u (fr (bg m l) k).2 (fr (bg m (gr u l)) K).2
 |[],k,K,h,_=>⟨O,h⟩
 |e::l,k,K,h,hu=>by
  rw[zM m e l,xA];by_cases z:e.1=u
  .have eo:gr u (e::l)=gr u l:=by unfold gr;grind
   have sk:fr (bg m [e]) k=([],k):=Yw _ _ λx hx=>by
    obtain⟨y,hy,p,hp,rfl⟩:=vz hx;have:y=e:=by grind
    subst this;rw[z]at hp;exact hu p hp
   rw[eo,sk];exact Nm m u l k K h hu
  .have eo:gr u (e::l)=e::gr u l:=by unfold gr;grind
   have a:=zQ u (bg m [e]) k K h;have ie:∀p∈gL m u,p.2∈(fr (bg m [e]) k).2:=λp hp=>(xB _ _ _).mpr (.inl (hu p hp));have b:=Nm m u l _ _ a.2 ie;rw[eo,zM m e (gr u l),xA (bg m [e]) (bg m (gr u l))];exact⟨by rw[akg,a.1,b.1],b.2⟩
theorem Nn (m:Md)(u:Nat)(bad:Ent->Bool)(hg:∀(c:List Nat),∀p∈gL m u,bad (jH c p)=aH):∀l:List Ent,(bg m l).find? bad=(bg m (gr u l)).find? bad
 |[]=>rfl
 |e::l=>by
  rw[zM,rW];by_cases z:e.1=u
  .have eo:gr u (e::l)=gr u l:=by unfold gr;grind
   have:(bg m [e]).find? bad=none:=zR.mpr λx hx=>by obtain⟨y,hy,p,hp,rfl⟩:=vz hx;grind
   rw[eo,this,zP,Nn m u bad hg l]
  .have eo:gr u (e::l)=e::gr u l:=by unfold gr;grind
   rw[eo,zM m e (gr u l),rW,Nn m u bad hg l]
theorem Yx (m:Md)(u:Nat)(bad:Ent->Bool)(hb:∀e e':Ent,e.1=e'.1->bad e=bad e'):∀(n:Nat)(l:List Ent)(k K:List Nat),Agree u k K->(∀p∈gL m u,p.2∈k)->(∀e:Ent,e.1∈k->bad e=aH)->SS m bad n (fr (bg m l) k).1 (fr (bg m l) k).2=PP m bad n (gr u l) K
 |0,l,k,K,_,_,_=>rfl
 |n+1,l,k,K,ha,hu,hg=>by
  have xD:∀(c:List Nat),∀p∈gL m u,bad (jH c p)=false:=λc p hp=>hg _ (hu p hp);have e1:(fr (bg m l) k).1.find? bad=(bg m (gr u l)).find? bad:=(GD bad hb _ _ hg).trans (Nn m u bad xD l);have c:=Nm m u l k K ha hu;rw[SS,PP,e1];cases hf:(bg m (gr u l)).find? bad with
  |some e=>rfl
  |none=>rw[hf]at e1;show SS m bad n _ _=PP m bad n _ _;rw[<-c.1];refine Yx m u bad hb n _ _ _ c.2 (λp hp=>(xB _ _ _).mpr (.inl (hu p hp))) λe he=>?_;rcases(vv _ _ _).mp he with z|⟨x,hx,z⟩<;>grind
def akh (m:Md)(u:Nat)(bad:Ent->Bool)(hb:∀e e':Ent,e.1=e'.1->bad e=bad e')(n:Nat):SS m bad (n+1) (fr (bg m [(u,[])]) []).1 (fr (bg m [(u,[])]) []).2=PP m bad (n+1) [(u,[])] [u]:=by
 have e1:(fr (bg m [(u,[])]) []).1.find? bad=(bg m [(u,[])]).find? bad:=GD bad hb _ _ λe h=>by cases h
 have ag:Agree u [] [u]:=⟨by simp,λv hv=>by simp[hv]⟩;have a:=zQ u (bg m [(u,[])]) [] [u] ag;rw[SS,PP,e1];cases hf:(bg m [(u,[])]).find? bad with
 |some e=>rfl
 |none=>
  show SS m bad n _ _=PP m bad n _ _;rw[<-a.1];refine Yx m u bad hb n _ _ _ a.2 (λp hp=>(xB _ _ _).mpr (.inr ⟨jH [] p,?_,O⟩)) λe he=>?_
  .unfold bg;grind
  .rcases(xB _ _ _).mp he with z|⟨x,hx,z⟩<;>grind
def flat (c:List (Nat×Nat)):List Nat:=c.flatMap λp=>[p.1,p.2]
noncomputable def js (c:List (Nat×Nat)):Ent:=(((c.head?).map (·.2)).getD 0,flat c.reverse)
def aki (x:Nat×Nat)(c:List (Nat×Nat)):js (x::c)=(x.2,flat c.reverse++[x.1,x.2]):=by unfold js flat;simp
theorem GF (m:Md):∀(l:List (List (Nat×Nat)))(s:List Nat),(∀c∈l,c≠[])->(ot m l s).1.map js=(fr (l.map js) s).1/\(ot m l s).2=(fr (l.map js) s).2/\∀c∈(ot m l s).1,c≠[]
 |[],s,_=>⟨O,O,λc h=>by cases h⟩
 |[]::l,s,h=>bT O (h [] eR)
 |(x::c)::l,s,h=>by
  have hl:∀c∈l,c≠[]:=λc hc=>h c (eD _ hc);have ex:(js (x::c)).1=x.2:=rfl;by_cases z:x.2∈s
  .have e:ot m ((x::c)::l) s=ot m l s:=aD (by simpa using z);rw[e,dX,jI (ex▸z)];exact GF m l s hl
  .have e:ot m ((x::c)::l) s=((x::c)::(ot m l (x.2::s)).1,(ot m l (x.2::s)).2):=au (by simpa using z);have e3:fr (((x::c)::l).map js) s=(js (x::c)::(fr (l.map js) (x.2::s)).1,(fr (l.map js) (x.2::s)).2):=kJ (ex▸z);rw[e,e3];have ih:=GF m l (x.2::s) hl;rfl'
theorem Yy (m:Md)(k:List Nat):∀(l:List (List (Nat×Nat))),(∀c∈l,c≠[])->(l.flatMap (vA m k)).map js=(bg m (l.map js)).filter (λe=>!k.contains e.1)/\∀c∈l.flatMap (vA m k),c≠[]
 |[],_=>⟨O,λc h=>by cases h⟩
 |[]::l,h=>bT O (h [] eR)
 |(x::c)::l,h=>by
  have ih:=Yy m k l λc hc=>h c (eD _ hc);rw[kE,f9,dX,zM,nj,ih.1];refine⟨?_,λd hd=>?_⟩
  .congr 1
   have e1:bg m [js (x::c)]=ka.flatMap λa=>(b8 m a x.2).map λv=>(v,(js (x::c)).2++[a,v]):=by unfold bg gL;rw[kE,Np,fV,vC];congr 1;funext a;rw[gw];rfl
   rw[e1,Nq];show(ka.flatMap λa=>((b8 m a x.2).filter λv=>!k.contains v).map λv=>(a,v)::x::c).map js=_;rw[vC];congr 1;funext a;rw[gw,yb];refine lj λv _=>?_;show js ((a,v)::x::c)=(v,(js (x::c)).2++[a,v]);rw[aki];rfl
  .rcases eX.mp hd with y|y
   .have y:d∈ka.flatMap λa=>((b8 m a x.2).filter λv=>!k.contains v).map λv=>(a,v)::x::c:=y;grind
   .grind
theorem Yz (m:Md)(s:List Nat):∀(n:Nat)(l:List (List (Nat×Nat)))(k:List Nat),(∀c∈l,c≠[])->(zS m s n l k).map flat=SS m (λe=>!s.contains e.1) n (l.map js) k
 |0,l,k,_=>rfl
 |n+1,l,k,h=>by
  have ef:∀(l:List (List (Nat×Nat))),(∀c∈l,c≠[])->(l.map js).find? (λe=>!s.contains e.1)=(l.find? (CG s)).map js:=by
   intro l;induction l with
   |nil=>intro _;rfl
   |cons c l ih=>
    intro h;have ih:=ih λc hc=>h c (eD _ hc);cases c with
    |nil=>grind
    |cons x c=>
     rw[dX];have e:CG s (x::c)=!s.contains x.2:=rfl;cases hb:s.contains x.2 with
     |true=>rw[xC (by show¬(!s.contains x.2)=L;grind),xC (by grind)];exact ih
     |false=>rw[Nr (p:=λe:Ent=>!s.contains e.1) (show(!s.contains x.2)=L by rw[hb];rfl),Nr (by grind)];rfl
  rw[SS,ef l h];show(match l.find? (CG s)with|some c=>B c.reverse|none=>_).map flat=_;cases hf:l.find? (CG s)with
  |some c=>rfl
  |none=>have lc:=Yy m k l h;have ff:=GF m (l.flatMap (vA m k)) k lc.2;show(zS m s n (ot m (l.flatMap (vA m k)) k).1 (ot m (l.flatMap (vA m k)) k).2).map flat=SS m _ n _ _;rw[Yz m s n _ _ ff.2.2,ff.1,ff.2.1,lc.1,GC _ _ _ λv hv=>hv]
def akj (m:Md)(u:Nat)(f:bo):(o8 m u f).map flat=PP m (λe=>!(aU f m).contains e.1) (m.states.length+1) [(u,[])] [u]:=by
 have e1:(ka.flatMap λa=>(b8 m a u).map λv=>[(a,v)]).map js=bg m [(u,[])]:=by unfold bg gL;rw[kE,Np,fV,vC,vC];congr 1;funext a;rw[gw,gw];rfl
 have e2:∀c∈(ka.flatMap λa=>(b8 m a u).map λv=>[(a,v)]),c≠[]:=λc hc=>by grind
 have ff:=GF m _ [] e2;unfold o8;show(zS m (aU f m) (m.states.length+1) _ _).map flat=_;rw[Yz m _ _ _ _ ff.2.2,ff.1,ff.2.1,e1];exact akh m u _ (λe e' h=>by rw[h]) _
def kb (m:Md)(u:Nat):List Ent:=(u,[])::T m (1+rem m [u]) [(u,[])] [u]
def Nt (hn:(ae m).Nodup)(hu:u∈ae m)(f:bo):((bg m (kb m u)).find? λe=>!(aU f m).contains e.1).map (·.2)=(o8 m u f).map flat:=by rw[akj];refine Yv hn _ (m.states.length+1) [(u,[])] [u] _ (.inr ?_) (aX _);unfold rem;have:=jT (λv=>!([u]:List Nat).contains v) (ae m);rw[gD]at this;lia
noncomputable def iy (Q:List Ent)(cs:List J):List (Key×V):=(Q.zip cs).map λx=>(.inl (x.1.1:Int),.ref x.2)
structure akk (H:Hp)(d:J)(Q:List Ent)(cs:List J):Prop where
 dict:H d=B (.dK (iy Q cs))
 len:cs.length=Q.length
 at_:∀(i:Nat)(e:Ent)(a:J),Q[i]?=B e->cs[i]?=B a->H a=B (.Z (aA e.2))
def YA {Q:List Ent}{cs:List J}(h:cs.length=Q.length):(iy Q cs).length=Q.length:=by unfold iy;grind
def akl {Q:List Ent}{cs:List J}(h:cs.length=Q.length)(e:Ent)(a:J):iy (Q++[e]) (cs++[a])=iy Q cs++[(.inl (e.1:Int),.ref a)]:=by unfold iy;rw[List.zip_append h.symm,f9];rfl
def akm {Q:List Ent}{cs:List J}{i:Nat}{k:Key}{v:V}(h:(iy Q cs)[i]?=B (k,v)):∃e a,Q[i]?=B e/\cs[i]?=B a/\k=.inl (e.1:Int)/\v=.ref a:=by unfold iy at h;rfl'
def akn {Q:List Ent}{cs:List J}{v:Nat}(h:v∉Q.map (·.1)):cE (iy Q cs) (.inl (v:Int))=none:=xm λp hp=>by
 obtain⟨x,hx,rfl⟩:=cx.mp hp;intro z;have e:x.1.1=v:=by grind
 exact h (cx.mpr ⟨x.1,(Ek hx).1,e⟩)
def ako {Q:List Ent}{cs:List J}(hn:(Q.map (·.1)).Nodup){i:Nat}{e:Ent}{a:J}(h1:Q[i]?=B e)(h2:cs[i]?=B a):cE (iy Q cs) (.inl (e.1:Int))=B (.ref a):=by
 induction Q generalizing cs i with
 |nil=>simp at h1
 |cons x Q ih=>
  cases cs with
  |nil=>simp at h2
  |cons b cs=>
   rw[dX,fW]at hn;cases i with
   |zero=>cases h1;cases h2;exact mO rfl
   |succ i=>have:¬(cC (x.1:Int):Key)=.inl (e.1:Int):=λz=>hn.1 (by grind);show cE ((.inl (x.1:Int),.ref b)::iy Q cs) _=_;rw[mP this];exact ih hn.2 h1 h2
def akp {Q:List Ent}{cs:List J}(hl:cs.length=Q.length){v:Nat}:(cE (iy Q cs) (.inl (v:Int))).isSome=(Q.map (·.1)).contains v:=by
 rw[<-uU];unfold iy;rw[yC];induction Q generalizing cs with
 |nil=>rfl
 |cons x Q ih=>
  cases cs with
  |nil=>simp at hl
  |cons b cs=>rw[J2,rq,ih (by grind),dX,LQ];rfl'
noncomputable def outs (x:Nat)(c:List Nat)(ls:List cD):List Ent:=(ls.filter λl=>l.u==x).map λl=>jH c (l.a,l.v)
def Nu {m:Md}(hn:(ae m).Nodup){x:Nat}(hx:x∈ae m)(c:List Nat):outs x c (cN m)=bg m [(x,c)]:=by
 unfold outs cN bg gL;rw[kE,Np,fV,Nq,vC,vC];congr 1;funext a;rw[Nq,vC,gw];generalize hF:(λv=>(jH (x,c).2∘λv=>(a,v)) v)=F
 have key:∀is:List Nat,is.Nodup->(is.flatMap λu=>(((b8 m a u).map λv=>(⟨a,u,v⟩:cD)).filter λl=>l.u==x).map λl=>jH c (l.a,l.v))=if x∈is then(b8 m a x).map F else[]:=by
  intro is;induction is with
  |nil=>intro _;rfl
  |cons u is ih=>
   intro hn;have hn:=fW.mp hn;rw[kE,ih hn.2];by_cases z:u=x
   .subst z;rw[au hn.1,aD eR,fV,vX.mpr (λl hl=>by grind),gw,<-hF];rfl
   .have:(((b8 m a u).map λv=>(⟨a,u,v⟩:cD)).filter λl=>l.u==x)=[]:=List.filter_eq_nil_iff.mpr λl hl=>by grind
    rfl'
 rw[key _ hn,aD hx,<-hF]
def Nv:Sp:=λvs H Q _=>e_3 λ(dl:J)(u:Nat)(m:Md)=>vs=[.ref dl,.int (u:Nat)]/\H dl=B (.dT (bw m.links))/\fg m/\(ae m).Pairwise (·<·)/\m.links.Nodup/\u∈ae m/\
 ∀(H':Hp)(d:J)(cs:List J),aw H H'->H d=N->akk H' d (kb m u) cs->Q (.ref d) H'
def YB (K:aM):Sp:=λvs H Q _=>e_5 λ(dl b:J)(u:Nat)(m:Md)(f:bo)=>vs=[.ref dl,.int (u:Nat),.ref b]/\H dl=B (.dT (bw m.links))/\aC K H b (aA (aU f m))/\fg m/\(ae m).Pairwise (·<·)/\m.links.Nodup/\u∈ae m/\
 ∀(H':Hp)(v:V),aw H H'->vf H' v ((o8 m u f).map flat)->(∀S,v=.ref S->H S=N)->Q v H'
noncomputable def CH (m:Md)(at_:Nat)(f:bo):List Int:=if at_=0 then[-7]else match o8 m at_ f with
 |none=>[-11]
 |some l=>0::Vbtaag.ints (flat l)
def YC (K:aM)(C:J):Sp:=λvs H Q _=>e_10 λ(p dx dm dl pl a:J)(m:Md)(at_ last:Nat)(f:bo)=>vs=[.ref p,.ref a]/\rV K C H p dx dm dl pl a m at_ last f/\
 ∀(H':Hp)(S:J),aw H H'->H S=N->H' S=B (.Z (vi (CH m at_ f)))->Q (.ref S) H'
def YD:bZ ["links","start","ordered","chains","waiting","place","here","agent","begin","end"] ["links","start"] (bb Kd):=by left
def akq {f:J}{fd:jk}(F:bG K "chains_from" "chains_from" Kd f fd)(T:Txt K mg):b_ 1 f fd ["links","start"] (Nv):=by
 rcases F,YD with⟨dl,u,m,rfl,hl,ok,up,ln,fh,k⟩;have hu:=kX hr;have cI:=ok.nd;refine⟨_,(az (bz 2 nd (eJ (J3 O) (by rfl) T.FG FH (af (pv 0) aq))) (az (bz 3 nd (ae4 (ae2 (pv 1) (bU aq) ae1) O O nofun (by decide))) (az (bz 4 nd (bU (af (pv 1) aq))) (az (bz 5 nd aZ) (az (uF dR (bA AX (pv 5) (eJ nT (by rfl) T.gP gQ (af (pv 4) aq)) (bY _)) (az (bz 6 nd (cG cP (pv 4) (pv 5) (λ_ _=>rfl))) (az (bz 5 nd (b5 ji (pv 5) aZ)) (aE (eZ dR O (iY (pv 2)) (jP O (df (bX (i:=7) nd O (bM O)) (df (bX (i:=8) nd O (bM O)) (df (bX (i:=9) nd O (bM O)) jx)))) (aE (bc (PW.pt (qa (bA cy (pv 8) (pv 6) (bY _)) (p9 (iX (tm hu (pv 9) (pv 3)))))) (az (nX hu (pv 3) (pv 9) (b5 rD (lU hu (pv 3) (pv 6) (λ_ _=>rfl)) (bU (af (pv 7) (af (pv 9) aq)))) O) (aE (dF (e9 dJ ic iF iE (pv 4) (af (pv 9) aq))))) bC))))))) (aE (aW (pv 3)))))))),?_⟩;refine⟨dl,_,_,O,hl,Nh _,(λk hk=>by obtain⟨l,_,rfl⟩:=cx.mp hk;exact l9 _ _),λps G hp CD ht hG=>?_⟩;funext ps G;have es:=Ni ok up ln hp CD;have iT:ps.length=(cN m).length:=by have:=cb lO es;grobner
 have s1:aw H (M H G (.Z (ps.map λq=>.ref q.1))):=bp hG;have gB:M H G (.Z (ps.map λq=>.ref q.1)) G=B (.Z (ps.map λq=>.ref q.1)):=ah;have tB:∀q∈ps,M H G (.Z (ps.map λq=>.ref q.1)) q.1=B (.tup (q.2.map V.int)):=λq hq=>s1 _ _ (ht q hq);generalize M H G (.Z (ps.map λq=>.ref q.1))=H1 at s1 gB tB;intro D hD;funext D;refine⟨by simp,λc0 xE=>?_⟩;funext c0;have CI:c0≠D:=λz=>by rw[z,ah]at xE;cases xE
 have Wa:H1 c0=none:=(aa CI).symm.trans xE;refine⟨(aa (aP CI)).trans ah,[(.inl (u:Int),.ref c0)],O,by simp,?_⟩;refine⟨a_1,λW hW=>?_⟩;funext W;have WD:W≠D:=λz=>by rw[z,ah]at hW;cases hW
 have Wc:W≠c0:=λz=>by rw[z,aa CI,ah]at hW;cases hW
 have B4:H1 W=none:=by rw[aa WD,aa Wc,aa WD]at hW;exact hW
 have r0:rem m [u]+1=(ae m).length:=by have:=Yt cI (K:=[]) fh (by simp);rw[this];unfold rem;simp
 have il:=gD m;have cz:=ok.cz;have akf:(cN m).length<=200:=by rw[(GB ok up ln).length_eq];exact ok.iS
 refine⟨λn σ H'=>e_10 λ(Q:List Ent)(cs:List J)(Kk:List Nat)(F:Nat)(Hb:Hp)(i:Nat)(v6 v7 v8 v9:Option V)=>n=(Q.drop i).length+rem m Kk/\i<=Q.length/\σ=[B (.ref dl),B (.int (u:Nat)),B (.ref G),B (.ref D),B (.ref W),B (.int ((i:Nat):Int)),v6,v7,v8,v9]/\aw H1 Hb/\aw Hb H'/\Hb D=N/\Hb W=N/\H' D=B (.dK (iy Q cs))/\H' W=B (.Z (aA (Q.map (·.1))))/\cs.length=Q.length/\(∀(i:Nat)(e:Ent)(a:J),Q[i]?=B e->cs[i]?=B a->Hb a=B (.Z (aA e.2)))/\Q++WK.T m F (Q.drop i) Kk=kb m u/\(Q.drop i).length+rem m Kk<=F/\(∀v,v∈Kk↔v∈Q.map (·.1))/\(Q.map (·.1)).Nodup/\(∀v∈Q.map (·.1),v∈ae m)/\Q.length+rem m Kk=(ae m).length/\∀e∈Q,e.2.length<=2*Q.length,⟨_,[(u,[])],[c0],[u],1+rem m [u],M H1 c0 (.Z []),0,N,N,N,N,O,iP _,O,bp Wa,?_,(aa (aP CI)).trans hD,(aa Wc).trans B4,(aa (aP WD)).trans ah,ah,O,?_,O,aX _,λv=>Iff.rfl,by simp,?_,by grobner,?_⟩,?_⟩
 .intro b o e;have n1:b≠D:=aK e ((aa (aP CI)).trans hD);have n2:b≠W:=aK e ((aa Wc).trans B4);rw[aa n2,aa n1];by_cases z:b=c0
  .rw[z]at e ⊢;rw[ah]at e ⊢;exact e
  .rw[aa z]at e ⊢;rw[aa n1];exact e
 .intro i e a e1 e2;cases i with
  |zero=>cases e1;cases e2;exact ah
  |succ i=>simp at e1
 .intro v hv;have:v=u:=by simpa using hv
  rw[this];exact fh
 .intro e he;have:e=(u,[]):=by simpa using he
  rw[this];simp
 rintro n σ H' ⟨Q,cs,Kk,F,Hb,i,v6,v7,v8,v9,rfl,hi,rfl,sb,s2,bD,bW,hd,hw,ku,GG,hT,hF,hK,hQn,YE,hQl,gF⟩;funext H' Q cs Kk F Hb i v6 v7 v8 v9;refine⟨W,_,O,.inl (aC.of hw),_,_,O,O,_,O,?_⟩;rw[bP,dj];by_cases fM:i<Q.length
 .rw[cw (by cutsat)];refine bO ⟨_,λ_ _ z=>z,?_⟩;have xF:Q[i]?=B Q[i]:=cc fM;have YF:cs[i]?=B (cs[i]'(by cutsat)):=cc (by cutsat);generalize Q[i]=e at xF;generalize(cs[i]'(by cutsat))=ce at YF;have hea:=GG i e ce xF YF;have GI:e.1∈ae m:=YE e.1 (cx.mpr ⟨e,gG xF,O⟩)
  have Nw:Q.drop i=e::Q.drop (i+1):=by rw[B2 fM];grobner
  refine⟨W,_,_,_,O,O,aC.of hw,eP (iq (by rw[ig,xF];rfl)),?_⟩;refine⟨_,_,O,O,?_⟩;have g2:H' G=_:=s2 _ _ (sb _ _ gB);refine⟨G,O,⟨_,aC.of g2⟩,mE (K:=K) (a:=G) (xs:=ps.map λq=>.ref q.1) (λj σ H4=>e_5 λ(fP:List J)(ir:Hp)(v7 v8 v9:Option V)=>σ=[B (.ref dl),B (.int (u:Nat)),B (.ref G),B (.ref D),B (.ref W),B (.int ((i:Nat)+1)),B (.int (e.1:Nat)),v7,v8,v9]/\aw Hb ir/\aw ir H4/\ir D=N/\ir W=N/\H4 D=B (.dK (iy (Q++(fr (outs e.1 e.2 ((cN m).take j)) Kk).1) (cs++fP)))/\H4 W=B (.Z (aA ((Q++(fr (outs e.1 e.2 ((cN m).take j)) Kk).1).map (·.1))))/\fP.length=(fr (outs e.1 e.2 ((cN m).take j)) Kk).1.length/\(∀(i:Nat)(e':Ent)(a:J),(fr (outs e.1 e.2 ((cN m).take j)) Kk).1[i]?=B e'->fP[i]?=B a->ir a=B (.Z (aA e'.2)))) ⟨[],Hb,v7,v8,v9,O,aw.refl _,s2,bD,bW,?_,?_,O,λi e' a e1=>by simp⟩ (λj σ H4 _ ⟨_,_,_,_,_,_,t1,t2,_⟩=>aC.of (t2 _ _ (t1 _ _ (sb _ _ gB)))) ?_ ?_⟩
  .show H' D=B (.dK (iy (Q++[]) (cs++[])));rw[fV,fV];exact hd
  .show H' W=B (.Z (aA ((Q++([]:List Ent)).map (·.1))));rw[fV];exact hw
  .rintro j x σ H4 hj ⟨fP,ir,v7,v8,v9,rfl,t1,t2,CJ,CK,d4,w4,vE,zT⟩;rw[ig]at hj;cases hq:ps[j]? with
   |none=>rw[hq]at hj;cases hj
   |some q=>
    rw[hq]at hj;have hx:x=.ref q.1:=(iO hj).symm;subst hx;have gu:=cR hq;have kQ:=cc (show j<(cN m).length by cutsat)
    have e2:q.2=tr (cN m)[j]:=by have:=cb (λl=>l[j]?) es;grobner
    have qG:=t2 _ _ (t1 _ _ (sb _ _ (tB q (gG hq))));rw[e2]at qG;generalize(cN m)[j]=l at kQ qG e2
    have en:outs e.1 e.2 ((cN m).take (j+1))=outs e.1 e.2 ((cN m).take j)++(if(l.u==e.1)=L then[jH e.2 (l.a,l.v)]else[]):=by unfold outs;rw[take_snoc kQ,nj,f9,kY];congr 1;cases(l.u==e.1)<;>rfl
    have lim:∀v∈(fr (outs e.1 e.2 ((cN m).take j)) Kk).1,v∈bg m [e]:=λv hv=>by have:=(vy _ _ v hv).1;rw[show e=(e.1,e.2)from rfl,<-Nu cI GI e.2];unfold outs at this ⊢;grobner
    have Ny:Q.length+(fr (outs e.1 e.2 ((cN m).take j)) Kk).1.length<=(ae m).length:=by
     have:=zO cI (outs e.1 e.2 ((cN m).take j)) Kk λy hy=>by unfold outs at hy;obtain⟨z,hz,rfl⟩:=cx.mp hy;have:=(fw.mp hz).1;exact(ok.ends z ((Yd ok).mp (Wi this))).2
     cutsat
    have pX:∀v,v∈(fr (outs e.1 e.2 ((cN m).take j)) Kk).2↔v∈(Q++(fr (outs e.1 e.2 ((cN m).take j)) Kk).1).map (·.1):=λv=>by rw[vv,hK v,f9,eX,cx (l:=(fr _ _).1)]
    generalize uR:fr (outs e.1 e.2 ((cN m).take j)) Kk=r at d4 w4 vE zT lim Ny pX;obtain⟨new,Kj⟩:=r;replace vE:fP.length=new.length:=vE;replace Ny:Q.length+new.length<=(ae m).length:=Ny;replace d4:H4 D=B (.dK (iy (Q++new) (cs++fP))):=d4;replace w4:H4 W=B (.Z (aA ((Q++new).map (·.1)))):=w4;replace pX:∀v,v∈Kj↔v∈(Q++new).map (·.1):=pX;have Nz:(cs++fP).length=(Q++new).length:=by grobner
    refine⟨q.1,_,O,cW.of qG,O,_,_,O,_,_,O,_,_,O,O,?_⟩;refine⟨O,_,O,?_⟩
    have oF:fr (outs e.1 e.2 ((cN m).take (j+1))) Kk=(new,Kj)->e_5 λ(fP:List J)(ir:Hp)(v7' v8' v9':Option V)=>[B (.ref dl),B (.int (u:Nat)),B (.ref G),B (.ref D),B (.ref W),B (.int ((i:Nat)+1)),B (.int (e.1:Nat)),B (.int (l.a:Nat)),B (.int (l.u:Nat)),B (.int (l.v:Nat))]=([B (.ref dl),B (.int (u:Nat)),B (.ref G),B (.ref D),B (.ref W),B (.int ((i:Nat)+1)),B (.int (e.1:Nat)),v7',v8',v9']:L2.St)/\
      aw Hb ir/\aw ir H4/\ir D=N/\ir W=N/\H4 D=B (.dK (iy (Q++(fr (outs e.1 e.2 ((cN m).take (j+1))) Kk).1) (cs++fP)))/\H4 W=B (.Z (aA ((Q++(fr (outs e.1 e.2 ((cN m).take (j+1))) Kk).1).map (·.1))))/\fP.length=(fr (outs e.1 e.2 ((cN m).take (j+1))) Kk).1.length/\
      (∀(i:Nat)(e':Ent)(a:J),(fr (outs e.1 e.2 ((cN m).take (j+1))) Kk).1[i]?=B e'->fP[i]?=B a->ir a=B (.Z (aA e'.2))):=λz=>by rw[z];exact⟨fP,ir,_,_,_,O,t1,t2,CJ,CK,d4,w4,vE,zT⟩
    by_cases hx:l.u=e.1
    .rw[aD (by simpa using hx)]at en;refine dC (by cutsat) ⟨D,_,O,f6.k (k:=.inl (l.v:Int)) d4,_,O,?_⟩;rw[akp Nz];by_cases jo:l.v∈Kj
     .rw[show((Q++new).map (·.1)).contains l.v=L by simpa using(pX l.v).mp jo];refine bN (oF ?_);rw[en,xA,uR];show(new++(fr [jH e.2 (l.a,l.v)] Kj).1,(fr [jH e.2 (l.a,l.v)] Kj).2)=_;rw[jI (show(jH e.2 (l.a,l.v)).1∈Kj from jo)];simp[fr]
     .have YG:l.v∉(Q++new).map (·.1):=λz=>jo ((pX l.v).mpr z);rw[show((Q++new).map (·.1)).contains l.v=aH by rw[Av];intro z;exact YG (by simpa using z)]
      have efr:fr (outs e.1 e.2 ((cN m).take (j+1))) Kk=(new++[jH e.2 (l.a,l.v)],l.v::Kj):=by rw[en,xA,uR];show(new++(fr [jH e.2 (l.a,l.v)] Kj).1,(fr [jH e.2 (l.a,l.v)] Kj).2)=_;rw[kJ (show(jH e.2 (l.a,l.v)).1∉Kj from jo)];rfl
      have hQe:(Q++new)[i]?=B e:=by rw[om fM,xF]
      have yG:(cs++fP)[i]?=B ce:=by grobner
      have nQn:((Q++new).map (·.1)).Nodup:=by
       have:∀(bV:List Ent)(K':List Nat),((fr bV K').1.map (·.1)).Nodup/\∀v∈(fr bV K').1.map (·.1),v∉K':=by
        intro bV;induction bV with
        |nil=>intro K';exact⟨j5,λv h=>by cases h⟩
        |cons y bV ih=>
         intro K';by_cases z:y.1∈K'
         .rw[jI z];exact ih K'
         .rw[kJ z];all_goals grobner
       grind+splitIte
      have YH:=t2 _ _ (t1 _ _ hea);refine bO ⟨D,_,O,.inl ⟨_,.inl (e.1:Int),.inl d4,O,(ako nQn hQe yG).symm⟩,a_2,λq2 jW=>?_⟩;have Dq:D≠q2:=aK d4 jW;have Wq:W≠q2:=aK w4 jW;have cq:ce≠q2:=aK YH jW;have hlen:=gF e (gG xF);refine⟨ce,q2,_,_,O,O,(aa cq).trans YH,ah,by rw[bP];exact jD (show _+2<=_ by cutsat),λR hR=>?_⟩;have Rq:q2≠R:=aK ah hR;have GJ:H4 R=none:=(aa (aP Rq)).symm.trans hR;have DR:D≠R:=aK d4 GJ;have WR:W≠R:=aK w4 GJ;refine⟨D,_,O,qo.k (k:=.inl (l.v:Int)) ((aa DR).trans ((aa Dq).trans d4)) (by rw[YA Nz,cK];exact cY (by cutsat)),?_⟩;refine⟨.inl ⟨O,_,aC.of ((aa WD).trans ((aa WR).trans ((aa Wq).trans w4)))⟩,W,_,_,O,O,(aa WD).trans ((aa WR).trans ((aa Wq).trans w4)),by rw[bP,dj,cK];exact cY (by cutsat),?_⟩;rw[efr];refine⟨fP++[R],M (M ir q2 (.Z [.int (l.a:Nat),.int (l.v:Nat)])) R (.Z (aA e.2++[.int (l.a:Nat),.int (l.v:Nat)])),_,_,_,O,?_,?_,?_,?_,?_,?_,by simp[vE],?_⟩
      .exact aS (aS t1 (t1.free (t2.free jW))) (t1.free (t2.free GJ))
      .intro b o eb;have nD:b≠D:=aK eb ((aa DR).trans ((aa Dq).trans CJ));have nW:b≠W:=aK eb ((aa WR).trans ((aa Wq).trans CK));rw[aa nW,aa nD];by_cases z:b=R
       .rw[z]at eb ⊢;rw[ah]at eb ⊢;exact eb
       .rw[aa z]at eb ⊢;by_cases y:b=q2
        .rw[y]at eb ⊢;rw[ah]at eb ⊢;exact eb
        .rw[aa y]at eb ⊢;exact t2 _ _ eb
      .exact(aa DR).trans ((aa Dq).trans CJ)
      .exact(aa WR).trans ((aa Wq).trans CK)
      .rw[aa (aP WD),ah,wL _ (akn YG),<-iD,<-iD,akl Nz];rfl
      .rw[ah,<-iD,f9 (l₂:=[jH e.2 (l.a,l.v)])];exact cb B (cb HO.Z (ng _ _))
      .intro i' e' a' e1 ua;rcases nh i' new.length with z|z
       .rw[om z]at e1;rw[om (by cutsat)]at ua;have h':=zT i' e' a' e1 ua;have n1:a'≠R:=aK h' (t2.free GJ);have n2:a'≠q2:=aK h' (t2.free jW);exact(aa n1).trans ((aa n2).trans h')
       .rw[nk z]at e1;have hz:=cR e1;have hz:i'-new.length=0:=by simpa using hz
        rw[hz]at e1;rw[nk (by cutsat),show i'-fP.length=0 by cutsat]at ua;cases e1;cases ua
        rw[ah];show _=B (HO.Z (aA (e.2++[l.a,l.v])));rw[kC];rfl
    .rw[au (by simpa using hx),fV]at en;refine cX (by cutsat) ?_;exact bN (oF (by rw[en,uR]))
  .rintro σ H4 ⟨fP,ir,v7,v8,v9,rfl,t1,t2,CJ,CK,d4,w4,vE,zT⟩;rw[dj,iT,eE,Nu cI GI e.2,show((e.1,e.2):Ent)=e from rfl]at d4 w4 vE zT;have xG:=zO cI (bg m [e]) Kk λy hy=>CF hy;have NB:(Q++(fr (bg m [e]) Kk).1).drop (i+1)=Q.drop (i+1)++(fr (bg m [e]) Kk).1:=by rw[List.drop_append_of_le_length (by cutsat)]
   obtain⟨F',rfl⟩:∃F',F=F'+1:=⟨F-1,by rw[Nw,dY]at hF;cutsat⟩;rw[Nw]at hT hF;rw[Nw];rw[dY]at hF ⊢;refine⟨(Q.drop (i+1)++(fr (bg m [e]) Kk).1).length+rem m (fr (bg m [e]) Kk).2,by rw[cK];cutsat,Q++(fr (bg m [e]) Kk).1,cs++fP,(fr (bg m [e]) Kk).2,F',ir,i+1,_,_,_,_,by rw[NB],by rw[cK];cutsat,O,sb.trans t1,t2,CJ,CK,d4,w4,by rw[cK,cK,ku,vE],?_,?_,?_,?_,?_,?_,?_,?_⟩
   .intro i' e' a' e1 ua;rcases nh i' Q.length with z|z
    .rw[om z]at e1;rw[om (by cutsat)]at ua;exact t1 _ _ (GG i' e' a' e1 ua)
    .rw[nk z]at e1;rw[nk (by cutsat),ku]at ua;exact zT _ e' a' e1 ua
   .rw[NB,iD,<-hT];rfl
   .rw[NB,cK];cutsat
   .intro v;rw[vv,hK v,f9,eX,cx (l:=(fr _ _).1)]
   .have:∀(bV:List Ent)(K':List Nat),((fr bV K').1.map (·.1)).Nodup/\∀v∈(fr bV K').1.map (·.1),v∉K':=by
     intro bV;induction bV with
     |nil=>intro K';exact⟨j5,λv h=>by cases h⟩
     |cons y bV ih=>
      intro K';by_cases z:y.1∈K'
      .rw[jI z];exact ih K'
      .rw[kJ z];all_goals grobner
    have t:=this (bg m [e]) Kk;rw[f9,Cj];exact⟨hQn,t.1,λa ha b hb z=>t.2 b hb ((hK b).mpr (z▸ha))⟩
   .intro v hv;rw[f9]at hv;rcases eX.mp hv with z|z
    .exact YE v z
    .obtain⟨y,hy,rfl⟩:=cx.mp z;exact CF (vy _ _ y hy).1
   .rw[cK];cutsat
   .intro y hy;rw[cK];rcases eX.mp hy with z|z
    .have:=gF y z;cutsat
    .obtain⟨x,hx,p,hp,rfl⟩:=vz (vy _ _ y z).1;have:x=e:=by simpa using hx
     subst this;have h1:=gF x (gG xF);have h2:=List.length_pos_of_mem z;show(x.2++[p.1,p.2]).length<=_;rw[cK];simp only[dY,mQ];cutsat
 .rw[eG (by cutsat)];have:Q.drop i=[]:=List.drop_of_length_le (by cutsat);rw[this,Nk,fV]at hT;refine bN ?_;rw[hT]at hd ku GG;exact k _ D cs (s1.trans (sb.trans s2)) (s1.free hD) ⟨hd,ku,λi e a e1 e2=>s2 _ _ (GG i e a e1 e2)⟩
theorem YI (m:Md):∀(F:Nat)(q:List Ent)(K:List Nat),∀e∈WK.T m F q K,e.1∈ae m
 |0,q,K,e,h=>by cases h
 |F+1,[],K,e,h=>by cases h
 |F+1,x::r,K,e,h=>by
  rcases eX.mp h with z|z
  .exact CF (vy _ _ e z).1
  .exact YI m F _ _ e z
theorem YJ (m:Md):∀(F:Nat)(q:List Ent)(K:List Nat)(di:Nat),(∀e∈q,e.2.length<=di)->∀e∈WK.T m F q K,e.2.length<=di+2*F
 |0,q,K,di,_,e,h=>by cases h
 |F+1,[],K,di,_,e,h=>by cases h
 |F+1,x::r,K,di,hB,e,h=>by
  have new:∀e∈(fr (bg m [x]) K).1,e.2.length<=di+2:=λe he=>by
   obtain⟨y,hy,p,hp,rfl⟩:=vz (vy _ _ e he).1;have:y=x:=by grind
   subst this;have:=hB y eR;show(y.2++[p.1,p.2]).length<=_;grind
  rcases eX.mp h with z|z
  .grind
  .have:=YJ m F _ _ (di+2) (λy hy=>by grind) e z
   lia
def YK (hu:u∈ae m)(h:e∈kb m u):e.1∈ae m:=by
 rcases dz.mp h with z|z
 .grind
 .exact YI m _ _ _ e z
def NC (ok:fg m)(h:e∈kb m u):e.2.length<=34:=by
 rcases dz.mp h with z|z
 .grind
 .have q0:∀y∈[((u,[]):Ent)],y.2.length<=0:=λy hy=>by grind
  have:=YJ m _ _ _ 0 q0 e z;have h2:rem m [u]<=16:=fJ (jT _ _) (by rw[gD];exact ok.cz);lia
def YL:bZ ["links","start","kept","ordered","chains","here","chain","agent","begin","end"] ["links","start","kept"] (bb Ke):=by left
def akz (F:bG K "chain_out_of" "chain_out_of" Ke f fd)(T:Txt K mg)(zU:c_ "chains_from" 1 ["links","start"] (Nv)):b_ 2 f fd ["links","start","kept"] (YB K):=by
 rcases F,YL with⟨dl,b,u,m,f',rfl,hl,hb,ok,up,ln,fh,k⟩;have cI:=ok.nd;rw[<-Nt cI fh f']at k;refine⟨_,(az (bz 3 nd (eJ (J3 O) (by rfl) T.FG FH (af (pv 0) aq))) (az (bz 4 nd (b7 zU hr (by rfl) (af (pv 0) (af (pv 1) aq)))) (az (uW (eZ dR O (SN (pv 4)) (jP O (df (bX (i:=5) nd O (bM O)) (df (bX (i:=6) nd O (bM O)) jx))) (aE (eZ dR O (iY (pv 3)) (jP O (df (bX (i:=7) nd O (bM O)) (df (bX (i:=8) nd O (bM O)) (df (bX (i:=9) nd O (bM O)) jx)))) (aE (bc (PW.pt (qa (bA cy (pv 8) (pv 5) (bY _)) (p9 (bA Ba (pv 9) (pv 2) (by with_unfolding_all rfl))))) (aE (aW (b5 rD (pv 6) (bU (af (pv 7) (af (pv 9) aq)))))) bC)))))) (aE (aW sN))))),?_⟩;refine⟨dl,_,_,O,hl,Nh _,(λk hk=>by obtain⟨l,_,rfl⟩:=cx.mp hk;exact l9 _ _),λps G hp CD ht hG=>?_⟩;have es:=Ni ok up ln hp CD;have iT:ps.length=(cN m).length:=by have:=cb lO es;simpa using this
 have s1:aw H (M H G (.Z (ps.map λq=>.ref q.1))):=bp hG;have gB:M H G (.Z (ps.map λq=>.ref q.1)) G=B (.Z (ps.map λq=>.ref q.1)):=ah;have tB:∀q∈ps,M H G (.Z (ps.map λq=>.ref q.1)) q.1=B (.tup (q.2.map V.int)):=λq hq=>s1 _ _ (ht q hq);generalize M H G (.Z (ps.map λq=>.ref q.1))=H1 at s1 gB tB;refine⟨dl,u,m,O,s1 _ _ hl,ok,up,ln,fh,λH2 d cs s2 eQ gF=>?_⟩;have YM:=λe he=>NC ok (u:=u) (e:=e) he;have YN:=λe he=>YK fh (e:=e) he;generalize kb m u=Qs at gF YM YN k;refine⟨d,_,gF.dict,trivial,λod=>⟨d,od,_,O,ah,?_⟩⟩;have Gd:G≠d:=bE (s2 _ _ gB) gF.dict nofun;have sL:∀{x:J}{o:HO},H2 x=B o->x≠d->M H2 d (.bF od (.dK (iy Qs cs))) x=B o:=λe h=>(aa h).trans e;have dln:H d=none:=s1.free eQ
 have bL:∀{H':Hp},aw (M H2 d (.bF od (.dK (iy Qs cs)))) H'->aC K H' b (aA (aU f' m)):=λ{H'} sx=>by
  have k2:bQ [d] H2 H':=λx o e hx=>sx _ _ (sL e (by simpa using hx));rcases(s1.trans s2).seq hb with(h|⟨o,h⟩)|h
  .exact .inl (.inl (k2 _ _ h (by simpa using bE h gF.dict nofun)))
  .exact .inl (.inr ⟨o,k2 _ _ h (by simpa using bE h gF.dict nofun)⟩)
  .exact .inr h
 refine jr (n:=(iy Qs cs).length) (λi σ H'=>e_5 λv5 v6 v7 v8 v9=>σ=[B (.ref dl),B (.int (u:Nat)),B (.ref b),B (.ref G),B (.ref d),v5,v6,v7,v8,v9]/\aw (M H2 d (.bF od (.dK (iy Qs cs)))) H'/\(bg m (Qs.take i)).find? (λe=>!(aU f' m).contains e.1)=N)
  ⟨N,N,N,N,N,O,aw.refl _,O⟩ (λi σ H' hi ⟨_,_,_,_,_,_,s,_⟩=>⟨s _ _ ah,hi⟩) (λσ H' ⟨_,_,_,_,_,_,s,_⟩=>⟨s _ _ ah,aX _⟩) ?_ ?_
 .rintro i x σ H3 H4 hi ⟨v5,v6,v7,v8,v9,rfl,s3,j9⟩ ⟨T',kx,vx,hk,rfl,hT,rfl⟩;obtain⟨e,ca,hQ,hc,rfl,rfl⟩:=akm hk;have GI:=YN e (gG hQ);have qt:=YM e (gG hQ);have yG:H2 ca=B (.Z (aA e.2)):=gF.at_ i e ca hQ hc;have cad:ca≠d:=bE yG gF.dict nofun;have s4:=aS (p:=T') (o:=.tup [kV (.inl (e.1:Int)),.ref ca]) s3 (s3.free hT);refine⟨T',_,O,cW.of ah,O,_,_,O,_,_,O,O,?_⟩;generalize M H3 T' (.tup [kV (.inl (e.1:Int)),.ref ca])=H4 at s4
  have en:bg m (Qs.take (i+1))=bg m (Qs.take i)++outs e.1 e.2 (cN m):=by rw[take_snoc hQ,Nl,Nu cI GI e.2]
  refine⟨G,O,⟨_,aC.of (s4 _ _ (sL (s2 _ _ gB) Gd))⟩,mE (K:=K) (a:=G) (xs:=ps.map λq=>.ref q.1) (λj σ H'=>e_3 λv7 v8 v9=>σ=[B (.ref dl),B (.int (u:Nat)),B (.ref b),B (.ref G),B (.ref d),B (.int (e.1:Nat)),B (.ref ca),v7,v8,v9]/\aw (M H2 d (.bF od (.dK (iy Qs cs)))) H'/\(outs e.1 e.2 ((cN m).take j)).find? (λe=>!(aU f' m).contains e.1)=N) ⟨v7,v8,v9,O,s4,O⟩ (λj σ H' _ ⟨_,_,_,_,s,_⟩=>aC.of (s _ _ (sL (s2 _ _ gB) Gd))) ?_ ?_⟩
  .rintro j x σ H5 hj ⟨v7,v8,v9,rfl,s5,zV⟩;rw[ig]at hj;cases hq:ps[j]? with
   |none=>rw[hq]at hj;cases hj
   |some q=>
    rw[hq]at hj;have hx:x=.ref q.1:=(iO hj).symm;subst hx;have gu:=cR hq;have kQ:=cc (show j<(cN m).length by lia)
    have e2:q.2=tr (cN m)[j]:=by have:=cb (λl=>l[j]?) es;grind
    have ND:=ht q (gG hq);have qd:q.1≠d:=λz=>by rw[z,dln]at ND;cases ND
    have qG:=s5 _ _ (sL (s2 _ _ (s1 _ _ ND)) qd);rw[e2]at qG;generalize(cN m)[j]=l at kQ qG e2
    have eo:outs e.1 e.2 ((cN m).take (j+1))=outs e.1 e.2 ((cN m).take j)++(if(l.u==e.1)=L then[jH e.2 (l.a,l.v)]else[]):=by unfold outs;rw[take_snoc kQ,nj,f9,kY];congr 1;cases(l.u==e.1)<;>rfl
    refine⟨q.1,_,O,cW.of qG,O,_,_,O,_,_,O,_,_,O,O,?_⟩;refine⟨O,_,O,?_⟩;by_cases hx:l.u=e.1
    .rw[aD (by simpa using hx)]at eo;refine dC (by lia) ⟨b,_,O,.inl (bL s5),O,rM _,_,O,?_⟩;show if(!ib (.int (l.v:Int)) (aA (aU f' m)))=L then _ else _
     rw[vc];cases hbv:(aU f' m).contains l.v with
     |true=>refine bN ⟨_,_,_,O,s5,?_⟩;rw[eo,rW,zV,zP];exact xC (p:=λe:Ent=>!(aU f' m).contains e.1) (by show¬(!(aU f' m).contains l.v)=L;grind)
     |false=>
      refine bO ⟨a_2,λq2 jW=>?_⟩;have YO:=s5 _ _ (sL yG cad);have cq:ca≠q2:=aK YO jW;have qd2:q2≠d:=λz=>by rw[z,s5 _ _ ah]at jW;cases jW
      refine⟨ca,q2,_,_,O,O,(aa cq).trans YO,ah,by rw[bP];exact jD (show _+2<=_ by lia),λR hR=>?_⟩;have Rq:q2≠R:=aK ah hR;have xt:H5 R=none:=(aa (aP Rq)).symm.trans hR;have Rd:R≠d:=λz=>by rw[z,s5 _ _ ah]at xt;cases xt
      have s6:=aS (o:=.Z (aA e.2++[.int (l.a:Nat),.int (l.v:Nat)])) (aS (o:=.Z [.int (l.a:Nat),.int (l.v:Nat)]) s5 (s5.free jW)) (s5.free xt);refine⟨s6 _ _ ah,?_⟩
      have kI:H R=none:=by have h2:H2 R=none:=(aa Rd).symm.trans (s5.free xt);exact(s1.trans s2).free h2
      have akD:(bg m Qs).find? (λe=>!(aU f' m).contains e.1)=B (jH e.2 (l.a,l.v)):=by
       have CM:bg m Qs=bg m (Qs.take i)++(outs e.1 e.2 (cN m)++bg m (Qs.drop (i+1))):=by rw[<-iD,<-en,<-Nl,zk]
       have NF:outs e.1 e.2 (cN m)=outs e.1 e.2 ((cN m).take (j+1))++outs e.1 e.2 ((cN m).drop (j+1)):=by unfold outs;rw[<-f9,<-nj,zk]
       rw[CM,rW,j9,zP,rW,NF,rW,eo,rW,zV,zP,Nr (p:=λe:Ent=>!(aU f' m).contains e.1) (show(!(aU f' m).contains l.v)=L by rw[hbv];rfl)];rfl
      rw[akD]at k;refine k _ _ (s1.trans (s2.trans (unlock s6 gF.dict))) ⟨R,O,?_⟩ (λS z=>by cases z;exact kI);rw[aa Rd,ah];show B (HO.Z _)=B (HO.Z (aA (e.2++[l.a,l.v])));rw[kC];rfl
    .rw[au (by simpa using hx),fV]at eo;rw[<-eo]at zV;refine cX (by lia) ?_;exact bN ⟨_,_,_,O,s5,zV⟩
  .rintro σ H5 ⟨v7,v8,v9,rfl,s5,zV⟩;rw[dj,iT,eE]at zV;exact⟨_,_,_,_,_,O,s5,by grind⟩
 .rintro σ H3 ⟨v5,v6,v7,v8,v9,rfl,s3,j9⟩;rw[YA gF.len,eE]at j9;refine⟨s3 _ _ ah,?_⟩;rw[j9]at k;exact k _ _ (s1.trans (s2.trans (unlock s3 gF.dict))) O (λS z=>by cases z)
def YQ:bZ ["model","signs","found"] ["model","signs"] (bb KO):=by left
def akE (TM:ip K aG)(F:bG K "chain" "chain" KO f fd)(T:Txt K mg)(iu:f_ aG "where" 7 ["self","signs"] (t5 K aG))(NG:c_ "chain_out_of" 2 ["links","start","kept"] (YB K)):b_ 8 f fd ["model","signs"] (YC K aG):=by
 rcases F,YQ with⟨p,dx,dm,dl,pl,a,m,at_,last,f',rfl,⟨c,ok,hS,hw,hl⟩,q⟩;refine⟨_,(az (bc (bA cy (aQ (pv 0) O) aZ (bY _)) (aE (aW (bU (af (aT T.xa) aq)))) bC) (az (bz 2 nd (b7 NG hr (by rfl) (af (aQ (pv 0) O) (af (aQ (pv 0) O) (af (gm (pv 0) iu hr (af (pv 1) aq)) aq))))) (az (bc (iX (yl (pv 2))) (aE (aW (bU (af (aT T.aht) aq)))) bC) (aE (aW (b5 rD (bU (af aZ aq)) (pv 2))))))),?_⟩;refine⟨p,aG,dx,_,_,O,c.obj,TM.cl,TM.gZ,jz _ _ _ _ _,O,_,O,?_⟩;unfold CH at q;by_cases h0:at_=0
 .rw[aD h0]at q;exact dC (by lia) ⟨a_1,λR hR=>q _ R (bp hR) hR ah⟩
 rw[au h0]at q;have gC:at_∈ae m:=ok.so.resolve_left h0;refine cX (by lia) ⟨p,aG,dx,_,_,O,c.obj,TM.cl,TM.gY,jq _ _ _ _ _,p,aG,dx,_,_,O,c.obj,TM.cl,TM.gZ,jz _ _ _ _ _,p,dx,_,O,c.obj,tO _ _ _ _ _,p,dx,dm,dl,pl,a,m,at_,last,f',O,c,ok.tofg,hS,hw,hl,λH1 S s1 dS hs=>?_⟩;refine⟨dl,S,at_,m,f',O,s1 _ _ c.links,aC.of hs,ok.tofg,ok.up,ok.gq,gC,λH2 v s2 hv vk=>?_⟩;have dn:=s1.trans s2;refine⟨_,O,?_⟩;cases hc:o8 m at_ f' with
 |none=>rw[hc]at q hv;have hv:v=.bB:=hv;subst hv;exact bO ⟨a_1,λR hR=>q _ R (aS dn (dn.free hR)) (dn.free hR) ah⟩
 |some l=>
  rw[hc]at q hv;obtain⟨T',rfl,ht⟩:=hv;refine bN ⟨a_1,λb4 hZ=>?_⟩;have s3:aw H2 (M H2 b4 (.Z [.int 0])):=bp hZ;have iV:=dn.trans s3
  have Mp:(flat l).length<=40:=by
   have h1:=Nt ok.nd gC f';rw[hc]at h1;cases hf:(bg m (kb m at_)).find? (λe=>!(aU f' m).contains e.1)with
   |none=>rw[hf]at h1;cases h1
   |some e=>rw[hf]at h1;have h1:e.2=flat l:=iO h1;obtain⟨x,hx,pr,hp,rfl⟩:=vz (ma hf);have:=NC ok.tofg hx;rw[<-h1];show(x.2++[pr.1,pr.2]).length<=_;grind
  refine⟨b4,T',_,_,O,O,ah,s3 _ _ ht,by rw[bP];exact jD (show 1+_<=_ by lia),λR hR=>q _ R (aS iV (iV.free hR)) (iV.free hR) ?_⟩;rw[ah,zE];rfl
noncomputable def vF {κ:Type}[DecidableEq κ](ks:List κ):List Nat:=(ez ks.length).map λi=>iI (λj=>decide (ks[j]?=ks[i]?)) ks.length
noncomputable def cH (m:Md)(s:gb):List Nat:=(ez (ae m).length).map λi=>iI (λj=>bH s (at_ m i) (at_ m j)) (ae m).length
def zW (m:Md)(s:gb):(cH m s).length=(ae m).length:=by simp[cH]
def NH (h:i<(ae m).length):(cH m s)[i]?=B (iI (λj=>bH s (at_ m i) (at_ m j)) (ae m).length):=by unfold cH;grind
def ou (h:i<(ae m).length)(hj:j<(ae m).length):((cH m s).getD i 0).testBit j=bH s (at_ m i) (at_ m j):=by rw[getD_at (NH h),iJ,cw hj,gc]
structure Eqv (m:Md)(s:gb):Prop where
 sub:∀x∈s,x.1∈ae m/\x.2∈ae m
 refl:∀u∈ae m,bH s u u=L
 symm:∀u v,bH s u v=L->bH s v u=L
 trans:∀u v w,bH s u v=L->bH s v w=L->bH s u w=L
def xH:bH s u v=L↔(u,v)∈s:=by unfold bH;all_goals simp
def qH:bH (jY m) u v=L↔u∈ae m/\v∈ae m/\cF m u=cF m v:=by rw[xH];unfold jY;all_goals simp
def NI (m:Md):Eqv m (jY m)where
 sub:=λx hx=>by have:=qH.mp (xH.mpr (show(x.1,x.2)∈jY m from hx));grind
 refl:=λu hu=>qH.mpr ⟨hu,hu,O⟩
 symm:=λu v h=>by have:=qH.mp h;exact qH.mpr ⟨this.2.1,this.1,this.2.2.symm⟩
 trans:=λu v w h h'=>by have a:=qH.mp h;have b:=qH.mp h';exact qH.mpr ⟨a.1,b.2.1,a.2.2.trans b.2.2⟩
def me:bH (fE m s) u v=L↔bH s u v=L/\vG m s u v=true:=by rw[xH,xH];unfold fE;simp
def uc:vG m s u v=L↔∀a∈ka,(∀x∈b8 m a u,∃y∈b8 m a v,bH s x y=L)/\(∀y∈b8 m a v,∃x∈b8 m a u,bH s x y=L):=by unfold vG;simp
def NJ (h:Eqv m s):Eqv m (fE m s)where
 sub:=λx hx=>h.sub x (fw.mp hx).1
 refl:=λu hu=>me.mpr ⟨h.refl u hu,uc.mpr λa _=>⟨λx hx=>⟨x,hx,h.refl x (jG.mp hx).1⟩,λx hx=>⟨x,hx,h.refl x (jG.mp hx).1⟩⟩⟩
 symm:=λu v e=>by have e:=me.mp e;refine me.mpr ⟨h.symm u v e.1,uc.mpr λa ha=>?_⟩;have:=uc.mp e.2 a ha;exact⟨λx hx=>by obtain⟨y,hy,e⟩:=this.2 x hx;exact⟨y,hy,h.symm _ _ e⟩,λx hx=>by obtain⟨y,hy,e⟩:=this.1 x hx;exact⟨y,hy,h.symm _ _ e⟩⟩
 trans:=λu v w e e'=>by
  have e:=me.mp e;have e':=me.mp e';refine me.mpr ⟨h.trans u v w e.1 e'.1,uc.mpr λa ha=>?_⟩;have p:=uc.mp e.2 a ha;have q:=uc.mp e'.2 a ha;refine⟨λx hx=>?_,λz hz=>?_⟩
  .obtain⟨y,hy,e1⟩:=p.1 x hx;obtain⟨z,hz,e2⟩:=q.1 y hy;exact⟨z,hz,h.trans _ _ _ e1 e2⟩
  .obtain⟨y,hy,e1⟩:=q.2 z hz;obtain⟨x,hx,e2⟩:=p.2 y hy;exact⟨x,hx,h.trans _ _ _ e2 e1⟩
noncomputable def cn (b n:Nat):List Nat:=(ez n).filter λj=>b.testBit j
def o9:j∈cn b n↔j<n/\b.testBit j=true:=by unfold cn;simp
noncomputable def b9 (m:Md)(a i:Nat):Nat:=eK (ae m) m.links (λl=>l.a==a) i
def YS:(b9 m a i).testBit j=(decide (j<(ae m).length)&&(m.links.any λl=>l.a==a&&(l.u==at_ m i&&l.v==at_ m j))):=by unfold b9 eK;rw[iJ];rfl
def xI (m:Md)(a i:Nat):b8 m a (at_ m i)=(cn (b9 m a i) (ae m).length).map (at_ m):=by
 unfold b8 cn
 have e:(ez (ae m).length).map (at_ m)=ae m:=by
  refine yV λj=>?_;rw[ig];rcases nh j (ae m).length with h|h
  .rw[zy h,cc h];show B ((ae m).getD j 0)=_;grind
  rfl'
 conv=>lhs;rw[<-e]
 rw[yb];congr 1;refine si λj hj=>?_;have hj:j<(ae m).length:=oG.mp hj;show(m.links.any λl=>l.a==a&&(l.u==at_ m i&&l.v==at_ m j))=_;rw[YS,cw hj,gc]
noncomputable def nt (r:List Nat)(ps:List Nat):Nat:=ps.foldl (λacc s=>acc|||r.getD s 0) 0
theorem NK (r:List Nat):∀(ps:List Nat)(acc k:Nat),(ps.foldl (λacc s=>acc|||r.getD s 0) acc).testBit k=(acc.testBit k||ps.any λs=>(r.getD s 0).testBit k)
 |[],acc,k=>by simp
 |p::ps,acc,k=>by rw[Bc,NK r ps,rZ,rq,HS]
noncomputable def keyOf (m:Md)(r:List Nat)(i:Nat):List Nat:=r.getD i 0::(ez 4).map λa=>nt r (cn (b9 m a i) (ae m).length)
noncomputable def keysOf (m:Md)(r:List Nat):List (List Nat):=(ez r.length).map (keyOf m r)
def iW (h:i<(ae m).length):at_ m i∈ae m:=PM h
def akF (hn:(ae m).Nodup):vF (m.states.map λs=>s.mask)=cH m (jY m):=by
 unfold vF cH;rw[dj,gD];refine lj λi hi=>Aq λj hj=>?_;have hi:i<m.states.length:=oG.mp hi
 have mk:∀i,i<m.states.length->(m.states.map λs=>s.mask)[i]?=B (cF m (at_ m i)):=λi hi=>by
  have e:=cc hi
  have ea:at_ m i=(m.states[i]).id:=by unfold at_;refine getD_at ?_;unfold ae;grind
  rw[ig,e,ea,xn hn e];rfl
 rw[mk i hi,mk j hj];have hi':i<(ae m).length:=by rw[gD];exact hi
 have hj':j<(ae m).length:=by rw[gD];exact hj
 cases hb:bH (jY m) (at_ m i) (at_ m j)with
 |true=>exact cw (cb B (qH.mp hb).2.2.symm)
 |false=>refine eG λz=>?_;have:bH (jY m) (at_ m i) (at_ m j)=true:=qH.mpr ⟨iW hi',iW hj',(iO z).symm⟩;rw[this]at hb;cases hb
def GK (h:i<(ae m).length):Fits (ae m).length ((cH m s).getD i 0):=by rw[getD_at (NH h)];exact vW _ _
def akI (ps:List Nat)(h:∀p∈ps,p<(ae m).length):Fits (ae m).length (nt (cH m s) ps):=λj hj=>by unfold nt at hj;rw[NK,Cf,EG,nH]at hj;obtain⟨p,hp,e⟩:=hj;exact GK (h p hp) j e
def akJ (hn:(ae m).Nodup)(h:Eqv m s):vF (keysOf m (cH m s))=cH m (fE m s):=by
 unfold vF;have kl:(keysOf m (cH m s)).length=(ae m).length:=by unfold keysOf;rw[dj,NL,zW]
 rw[kl];unfold cH;refine lj λi hi=>Aq λj hj=>?_;have hi:i<(ae m).length:=oG.mp hi
 have kg:∀i,i<(ae m).length->(keysOf m (cH m s))[i]?=B (keyOf m (cH m s) i):=λi hi=>by unfold keysOf;rw[ig,zy (by rw[zW];exact hi)];rfl
 show decide ((keysOf m (cH m s))[j]?=(keysOf m (cH m s))[i]?)=_;rw[kg i hi,kg j hj]
 have ub:∀(a i k:Nat),k<(ae m).length->((nt (cH m s) (cn (b9 m a i) (ae m).length)).testBit k=L↔∃x∈b8 m a (at_ m i),bH s x (at_ m k)=L):=λa i k hk=>by
  unfold nt;rw[NK,Cf,EG,nH,xI];constructor
  .rintro⟨p,hp,e⟩;rw[ou (o9.mp hp).1 hk]at e;grind
  .rintro⟨x,hx,e⟩;obtain⟨p,hp,rfl⟩:=cx.mp hx;exact⟨p,hp,by rw[ou (o9.mp hp).1 hk];exact e⟩
 have fu:∀a i,Fits (ae m).length (nt (cH m s) (cn (b9 m a i) (ae m).length)):=λa i=>akI _ λp hp=>(o9.mp hp).1;have YT:∀x,x∈ae m->∃k,k<(ae m).length/\at_ m k=x:=λx hx=>⟨dZ m x,lE hx,pz hx⟩
 have main:keyOf m (cH m s) j=keyOf m (cH m s) i↔bH (fE m s) (at_ m i) (at_ m j)=true:=by
  rw[me,uc];unfold keyOf;rw[Xk]
  have r1:(cH m s).getD j 0=(cH m s).getD i 0↔bH s (at_ m i) (at_ m j)=true:=by
   constructor
   .intro e;have:=ou (s:=s) hj hj;rw[e,ou hi hj,h.refl _ (iW hj)]at this;exact this
   .intro e;refine sm (GK hj) (GK hi) λk hk=>?_;rw[ou hj hk,ou hi hk,mq];exact⟨λz=>h.trans _ _ _ e z,λz=>h.trans _ _ _ (h.symm _ _ e) z⟩
  have r2:∀a,nt (cH m s) (cn (b9 m a j) (ae m).length)=nt (cH m s) (cn (b9 m a i) (ae m).length)↔((∀x∈b8 m a (at_ m i),∃y∈b8 m a (at_ m j),bH s x y=L)/\(∀y∈b8 m a (at_ m j),∃x∈b8 m a (at_ m i),bH s x y=L)):=λa=>by
   constructor
   .intro e;refine⟨λx hx=>?_,λy hy=>?_⟩
    .obtain⟨k,hk,rfl⟩:=YT x (jG.mp hx).1;have b:=(ub a i k hk).mpr ⟨_,hx,h.refl _ (iW hk)⟩;rw[<-e]at b;obtain⟨y,hy,e'⟩:=(ub a j k hk).mp b;exact⟨y,hy,h.symm _ _ e'⟩
    .obtain⟨k,hk,rfl⟩:=YT y (jG.mp hy).1;have b:=(ub a j k hk).mpr ⟨_,hy,h.refl _ (iW hk)⟩;grind
   .rintro⟨p,q⟩;refine sm (fu a j) (fu a i) λk hk=>?_;rw[mq,ub a j k hk,ub a i k hk];constructor
    .rintro⟨y,hy,e⟩;obtain⟨x,hx,e'⟩:=q y hy;exact⟨x,hx,h.trans _ _ _ e' e⟩
    .rintro⟨x,hx,e⟩;obtain⟨y,hy,e'⟩:=p x hx;exact⟨y,hy,h.trans _ _ _ (h.symm _ _ e') e⟩
  rw[r1];refine and_congr Iff.rfl ?_;rw[List.map_inj_left];constructor
  .intro z a ha;have xJ:a=0\/a=1\/a=2\/a=3:=by unfold ka at ha;simpa using ha
   exact(r2 a).mp (z a (oG.mpr (by lia)))
  .intro z a ha;have ha:=oG.mp ha;refine(r2 a).mpr (z a ?_);unfold ka;grind
 rfl'
def YU (h:Eqv m s):cH m (fE m s)=cH m s↔(fE m s).length=s.length:=by
 constructor
 .intro e;unfold fE;rw[M6];intro x hx;obtain⟨h1,h2⟩:=h.sub x hx;have hb:=ou (s:=fE m s) (lE h1) (lE h2);rw[e,ou (lE h1) (lE h2),pz h1,pz h2,xH.mpr (show(x.1,x.2)∈s from hx)]at hb;exact(me.mp hb.symm).2
 .intro e;unfold fE at e;rw[M6]at e;have:fE m s=s:=vX.mpr e;rw[this]
def akK (h:Fits n b):b<2^n:=Nat.lt_pow_two_of_testBit b λi hi=>by
 cases e:b.testBit i with
 |false=>rfl
 |true=>have:=h i e;lia
theorem YV (h:b<2^bV):∀d,cn b (bV+d)=cn b bV
 |0=>rfl
 |d+1=>by have ih:=YV h d;unfold cn at ih ⊢;rw[<-Nat.add_assoc,MC,nj,ih];have:b.testBit (bV+d)=false:=CN (jh h (zr (by decide) (by lia)));grind
def akL (h:Fits n b):(u4 (b:Int))<=n/\cn b (u4 (b:Int))=cn b n:=by
 have h1:u4 (b:Int)<=n:=intBits_le_iff.mpr (by simpa using akK h);refine⟨h1,?_⟩
 have h2:b<2^u4 (b:Int):=by have:=intBits_le_iff.mp (aX (u4 (b:Int)));lia
 have:=YV h2 (n-u4 (b:Int));grind
def zX:Sp:=λvs H Q _=>e_2 λ(b n:Nat)=>vs=[.int (b:Nat)]/\Fits n b/\n<=64/\∀(H':Hp)(S:J),aw H H'->H S=N->H' S=B (.Z (aA (cn b n)))->Q (.ref S) H'
structure YW (H:Hp)(ts:List J)(ks:List (List Nat)):Prop where
 len:ts.length=ks.length
 at_:∀(i:Nat)(t:J)(k:List Nat),ts[i]?=B t->ks[i]?=B k->H t=B (.tup (aA k))
def YX (K:aM):Sp:=λvs H Q _=>
 (e_2 λ(a:J)(ks:List Nat)=>vs=[.ref a]/\aC K H a (aA ks)/\ks.length<=16/\∀(H':Hp)(S:J),aw H H'->H S=N->H' S=B (.Z (aA (vF ks)))->Q (.ref S) H')\/
 (e_3 λ(a:J)(ts:List J)(ks:List (List Nat))=>vs=[.ref a]/\aC K H a (refs ts)/\YW H ts ks/\ks.length<=16/\∀(H':Hp)(S:J),aw H H'->H S=N->H' S=B (.Z (aA (vF ks)))->Q (.ref S) H')
noncomputable def kK {κ:Type}[DecidableEq κ](ks:List κ)(k:κ)(i:Nat):Nat:=iI (λj=>decide (ks[j]?=B k)) i
def YY [DecidableEq κ](h:ks[i]?=B x)(k:κ):kK ks k (i+1)=if x=k then kK ks k i|||2^i else kK ks k i:=by unfold kK;rw[Cg,h];all_goals simp
def YZ {κ:Type}[DecidableEq κ]{ks:List κ}{k:κ}{i:Nat}(h:k∉ks.take i):kK ks k i=0:=MB λj hj=>eG λz=>h (by
 have:=cR z;refine gG (i:=j) ?_
 grind)
def Y0 [DecidableEq κ](ks:List κ):vF ks=ks.map λk=>kK ks k ks.length:=by unfold vF kK;refine yV λi=>?_<;>grind
def Y1:bZ ["some","place"] ["some"] (bb Fp):=by left
def akM (F:bG K "places_in" "places_in" Fp f fd)(T:Txt K mg):b_ 1 f fd ["some"] (zX):=by
 rcases F,Y1 with⟨b,n,rfl,hf,hn,k⟩;obtain⟨h1,h2⟩:=akL hf;refine⟨_,(aE (aW (lT O nd (rh (by rfl) T.rH (af (rA PySem.F.plainAttrs_int slot_int_bit_length type_int_bit_length afM (pv 0)) aq)) (jS (own:=[("place",1)]) (by show jn ["some","place"] (bb Fp) _ _=L;decide+kernel)) (λ_ _ _ _ _=>(bX (i:=1) nd O (bM O))) (λ_ _ _ _ _=>(yE (bA cy (b5 mF (b5 AS (pv 0) (pv 1)) aZ) aZ (bY _)))) (λ_ _ _ _ _=>(pv 1))))),?_⟩;refine⟨O,_,O,O,_,O,by lia,by lia,λG hG=>?_⟩;refine qv (n:=u4 (b:Int)) (λj H'=>aw H H'/\H' G=B (.Z (aA (cn b j)))) ⟨bp hG,ah⟩ (λj H' hj _=>(show j<qy _ by rw[ij];exact hj)) (λH' _=>(show qy _<=_ by rw[ij];exact aX _)) ?_ ?_
 .rintro j x H3 H4 hj ⟨s3,g3⟩ ⟨rfl,rfl⟩;have e0:((0:Int)+(j:Int))=((j:Nat):Int):=by lia
  refine⟨O,_,_,O,O,by lia,_,_,O,O,O,_,O,?_⟩;rw[e0,F9]
  have en:cn b (j+1)=cn b j++(if b.testBit j=L then[j]else[]):=by unfold cn;rw[MC,nj,kY];congr 1
  cases hb:b.testBit j with
  |true=>
   rw[hb,aD rfl]at en;refine bO ⟨_,g3,?_,aS s3 hG,?_⟩
   .rw[bP];unfold cn;exact rE (jT _ _) (by rw[NL];exact cY (by lia))
   .rw[ah,en,<-ng,<-e0]
  |false=>rw[hb,au eN,fV]at en;rw[<-en]at g3;exact bN ⟨s3,g3⟩
 .rintro H3 ⟨s3,g3⟩;rw[h2]at g3;exact k H3 G s3 hG g3
def Y2:bZ ["keys","classes","place","key"] ["keys"] (bb BL):=by left
def akN (F:bG K "paired_by" "paired_by" BL f fd)(T:Txt K mg):b_ 1 f fd ["keys"] (YX K):=by
 refine F.ok Y2 (λvs H Q E h=>?_) (λa6 A outer s H vs Q E hr h=>?_)
 .rcases h with⟨a,ks,rfl,_⟩|⟨a,ts,ks,rfl,_⟩<;>rfl
 have hu:=kX hr;have nd:=Y2.nd;rcases h with⟨a,ks,rfl,ha,hl,k⟩|⟨a,ts,ks,rfl,ha,hk,hl,k⟩
 .refine⟨_,(az (rG 1 nd yK) (az (eZ dR O (wW (by rfl) T.tJ (af (pv 0) aq)) (jP O (df (bX (i:=2) nd O (bM O)) (df (bX (i:=3) nd O (bM O)) jx))) (aE (nX hu (pv 1) (pv 3) (b5 sT (Su hu (pv 1) (pv 3) aZ ⟨O,O,O,O⟩) (b5 yo aZ (pv 2))) O))) (aE (aW (lT O nd (iY (pv 0)) (jS (own:=[("key",3)]) (by show jn ["keys","classes","place","key"] (bb BL) _ _=L;decide+kernel)) (λ_ _ _ _ _=>(bX (i:=3) nd O (bM O))) (λ_ _ _ _ _=>nU) (λ_ _ _ _ _=>(lU hu (pv 1) (pv 3) (λ_ _=>rfl)))))))),?_⟩;intro D hD;refine⟨a,_,O,(bp hD).seq ha,?_⟩
  refine jr (n:=(aA ks).length) (λi σ H'=>e_3 λv2 v3 kvs=>σ=[B (.ref a),B (.ref D),v2,v3]/\aw H H'/\H' D=B (.dK kvs)/\kvs.length<=i/\∀x:Nat,cE kvs (.inl (x:Int))=if x∈ks.take i then B (.int ((kK ks x i:Nat):Int))else N)
   ⟨N,N,[],O,bp hD,ah,aX _,λx=>by simp[cE]⟩ (λi σ H' hi ⟨_,_,_,_,s,_⟩=>⟨_,_,s.seq ha,cc hi⟩) (λσ H' ⟨_,_,_,_,s,_⟩=>⟨_,s.seq ha,aX _⟩) ?_ ?_
  .rintro i x σ H1 GL hi ⟨v2,v3,kvs,rfl,s1,d1,l1,q1⟩ ⟨T',y,rfl,hT,rfl,hy⟩;obtain⟨n,hn,rfl⟩:=jB (hy _ (s1.seq ha));have dA:=cR hn;have DT:D≠T':=aK d1 hT;have d2:=(aa (o:=.tup [.int (i:Nat),.int (n:Nat)]) DT).trans d1;have s2:=aS (p:=T') (o:=.tup [.int (i:Nat),.int (n:Nat)]) s1 (s1.free hT);refine⟨T',_,O,cW.of ah,O,_,_,O,_,_,O,O,?_⟩;generalize M H1 T' (.tup [.int (i:Nat),.int (n:Nat)])=H2 at d2 s2
   have eg:(cE kvs (.inl (n:Int))).getD (.int 0)=.int ((kK ks n i:Nat):Int):=by
    rw[q1 n];by_cases z:n∈ks.take i
    .rw[aD z];rfl
    .rw[au z,YZ z];rfl
   refine⟨D,O,.inl ⟨_,.inl d2⟩,_,f6.k (k:=.inl (n:Int)) d2,?_⟩;rw[eg];refine⟨_,_,O,O,zu (by lia),_,_,O,O,D,_,O,qo.k (k:=.inl (n:Int)) d2 (cY (by lia)),_,_,_,O,aS s2 hD,ah,fJ (Bk _ _ _) (by lia),λx=>?_⟩;rw[Se,take_snoc hn,q1 x,YY hn];by_cases z:x=n
   .subst z;rw[aD O,aD (by simp),aD O,vj];exact cb B (cb V.int (qB _ _))
   .have z1:¬(cC (x:Int):Key)=.inl (n:Int):=λy=>z (by grind);rw[au z1,au (λy:n=x=>z y.symm)];have:(x∈ks.take i++[n])↔x∈ks.take i:=by simp[z]
    simp only[this]
  .rintro σ H1 ⟨v2,v3,kvs,rfl,s1,d1,l1,q1⟩;rw[bP,eE]at q1;refine⟨a,O,⟨_,s1.seq ha⟩,λG hG=>?_⟩;have DG:D≠G:=aK d1 hG;refine uT (K:=K) (a:=a) (xs:=aA ks) (λi H'=>aw H1 H'/\H' G=B (.Z (aA ((ks.take i).map λk=>kK ks k ks.length)))) ⟨bp hG,ah⟩ (λi H' _ z=>(s1.trans z.1).seq ha) ?_ ?_
   .rintro i x H2 hi ⟨s2,g2⟩;obtain⟨n,hn,rfl⟩:=jB hi;have ev:cE kvs (.inl (n:Int))=B (.int ((kK ks n ks.length:Nat):Int)):=by grind
    refine⟨O,?_⟩;refine oa ?_;refine⟨D,_,O,.inl ⟨_,.inl (n:Int),.inl (s2 _ _ d1),O,ev.symm⟩,_,g2,by rw[bP,dj,eF];exact cY (by lia),aS s2 hG,?_⟩;rw[ah];exact cb B (cb HO.Z (F7 (g:=λk=>kK ks k ks.length) hn))
   .rintro H2 ⟨s2,g2⟩;rw[bP,eE,<-Y0]at g2;exact k H2 G (s1.trans s2) (s1.free hG) g2
 .refine⟨_,(az (rG 1 nd Bn) (az (eZ dR O (wW (by rfl) T.tJ (af (pv 0) aq)) (jP O (df (bX (i:=2) nd O (bM O)) (df (bX (i:=3) nd O (bM O)) jx))) (aE (nX hu (pv 1) (pv 3) (b5 sT (Su hu (pv 1) (pv 3) aZ ⟨O,O,O,O⟩) (b5 yo aZ (pv 2))) O))) (aE (aW (lT O nd (iY (pv 0)) (jS (own:=[("key",3)]) (by show jn ["keys","classes","place","key"] (bb BL) _ _=L;decide+kernel)) (λ_ _ _ _ _=>(bX (i:=3) nd O (bM O))) (λ_ _ _ _ _=>nU) (λ_ _ _ _ _=>(lU hu (pv 1) (pv 3) (λ_ _=>rfl)))))))),?_⟩;intro D hD;have ik:∀k:List Nat,(k.map λn:Nat=>(cC (n:Int):Key)).map kV=aA k:=λk=>by unfold aA;rw[gw];rfl
  have inj:∀k k':List Nat,(k.map λn:Nat=>(cC (n:Int):Key))=(k'.map λn:Nat=>(cC (n:Int):Key))->k=k':=λk k' e=>(List.map_inj_right (λx y e=>by grind)).mp e;refine⟨a,_,O,(bp hD).seq ha,?_⟩
  refine jr (n:=(refs ts).length) (λi σ H'=>e_3 λv2 v3 kvs=>σ=[B (.ref a),B (.ref D),v2,v3]/\aw H H'/\H' D=B (.dT kvs)/\kvs.length<=i/\∀x:List Nat,cE kvs (x.map λn:Nat=>(cC (n:Int):Key))=if x∈ks.take i then B (.int ((kK ks x i:Nat):Int))else N)
   ⟨N,N,[],O,bp hD,ah,aX _,λx=>by simp[cE]⟩ (λi σ H' hi ⟨_,_,_,_,s,_⟩=>⟨_,_,s.seq ha,cc hi⟩) (λσ H' ⟨_,_,_,_,s,_⟩=>⟨_,s.seq ha,aX _⟩) ?_ ?_
  .rintro i x σ H1 GL hi ⟨v2,v3,kvs,rfl,s1,d1,l1,q1⟩ ⟨T',y,rfl,hT,rfl,hy⟩;obtain⟨t,ht,rfl⟩:=Cb (hy _ (s1.seq ha));have dA:=cR ht;rw[hk.len]at dA;have hn:=cc dA;have uK:=hk.at_ i t _ ht hn;generalize ks[i]=n at hn uK;have DT:D≠T':=aK d1 hT;have d2:=(aa (o:=.tup [.int (i:Nat),.ref t]) DT).trans d1;have s2:=aS (p:=T') (o:=.tup [.int (i:Nat),.ref t]) s1 (s1.free hT);refine⟨T',_,O,cW.of ah,O,_,_,O,_,_,O,O,?_⟩;generalize M H1 T' (.tup [.int (i:Nat),.ref t])=H2 at d2 s2;have fD:H2 t=B (.tup ((n.map λn:Nat=>(cC (n:Int):Key)).map kV)):=by rw[ik];exact s2 _ _ uK
   have eg:(cE kvs (n.map λn:Nat=>(cC (n:Int):Key))).getD (.int 0)=.int ((kK ks n i:Nat):Int):=by
    rw[q1 n];by_cases z:n∈ks.take i
    .rw[aD z];rfl
    .rw[au z,YZ z];rfl
   refine⟨D,O,.inr ⟨_,.inl d2⟩,_,f6.t (k:=n.map λn:Nat=>(cC (n:Int):Key)) d2 fD,?_⟩;rw[eg];refine⟨_,_,O,O,zu (by lia),_,_,O,O,D,_,O,.inr ⟨_,n.map λn:Nat=>(cC (n:Int):Key),t,d2,O,fD,cY (by lia),O⟩,_,_,_,O,aS s2 hD,ah,fJ (Bk _ _ _) (by lia),λx=>?_⟩;rw[Se,take_snoc hn,q1 x,YY hn];by_cases z:x=n
   .subst z;rw[aD O,aD (by simp),aD O,vj];exact cb B (cb V.int (qB _ _))
   .rw[au (λy=>z (inj _ _ y)),au (λy:n=x=>z y.symm)];have:(x∈ks.take i++[n])↔x∈ks.take i:=by simp[z]
    simp only[this]
  .rintro σ H1 ⟨v2,v3,kvs,rfl,s1,d1,l1,q1⟩;rw[la,hk.len,eE]at q1;refine⟨a,O,⟨_,s1.seq ha⟩,λG hG=>?_⟩;have DG:D≠G:=aK d1 hG;refine uT (K:=K) (a:=a) (xs:=refs ts) (λi H'=>aw H1 H'/\H' G=B (.Z (aA ((ks.take i).map λk=>kK ks k ks.length)))) ⟨bp hG,ah⟩ (λi H' _ z=>(s1.trans z.1).seq ha) ?_ ?_
   .rintro i x H2 hi ⟨s2,g2⟩;obtain⟨t,ht,rfl⟩:=Cb hi;have dA:=cR ht;rw[hk.len]at dA;have hn:=cc dA;have uK:=hk.at_ i t _ ht hn;generalize ks[i]=n at hn uK;have fD:H2 t=B (.tup ((n.map λn:Nat=>(cC (n:Int):Key)).map kV)):=by rw[ik];exact s2 _ _ (s1 _ _ uK)
    have ev:cE kvs (n.map λn:Nat=>(cC (n:Int):Key))=B (.int ((kK ks n ks.length:Nat):Int)):=by grind
    refine⟨O,?_⟩;refine oa ?_;refine⟨D,_,O,.inr ⟨_,n.map λn:Nat=>(cC (n:Int):Key),t,.inl (s2 _ _ d1),O,fD,ev.symm⟩,_,g2,by rw[bP,dj,eF];exact cY (by lia),aS s2 hG,?_⟩;rw[ah];exact cb B (cb HO.Z (F7 (g:=λk=>kK ks k ks.length) hn))
   .rintro H2 ⟨s2,g2⟩;rw[la,hk.len,eE,<-Y0]at g2;exact k H2 G (s1.trans s2) (s1.free hG) g2
def Y3 {K:aM}{H:Hp}{a:J}{l:List Nat}(h:aC K H a (aA l)):Dp K H (.ref a) (.list ((l.map λn=>((n:Nat):Int)).map CO)):=by
 refine .Z h ?_;clear h;induction l with
 |nil=>exact .nil
 |cons x l ih=>exact .cons (.int _) ih
theorem Y4:∀a b:List Nat,CP ((a.map λn=>((n:Nat):Int)).map CO) ((b.map λn=>((n:Nat):Int)).map CO)=decide (a=b)
 |[],[]=>by simp[CP]
 |[],_::_=>by simp[CP]
 |_::_,[]=>by simp[CP]
 |x::a,y::b=>by have ih:=Y4 a b;simp only[dX,CP,Ex];rfl'
def akO (a b:List Nat):Ex (.list ((a.map λn=>((n:Nat):Int)).map CO)) (.list ((b.map λn=>((n:Nat):Int)).map CO))=decide (a=b):=by rw[Ex,Y4]
def Y5 (K:aM)(C:J):Sp:=λvs H Q _=>e_5 λ(v pr i:Nat)(m:Md)(r:List Nat)=>vs=[.ref v,.ref pr,.int (i:Nat)]/\ll C H v m/\fg m/\aC K H pr (aA r)/\r.length=(ae m).length/\i<(ae m).length/\
 ∀(H':Hp)(t:J),aw H H'->H t=N->H' t=B (.tup (aA (keyOf m r i)))->Q (.ref t) H'
structure xK (m:Md)(H:Hp)(R:J)(rs:List J)(tb:List gb):Prop where
 Z:H R=B (.Z (refs rs))
 len:rs.length=tb.length
 at_:∀(i:Nat)(r:J)(s:gb),rs[i]?=B r->tb[i]?=B s->H r=B (.Z (aA (cH m s)))
def xK.same (h:xK m H R rs tb)(s:aw H H'):xK m H' R rs tb:=⟨s _ _ h.Z,h.len,λi r t e1 e2=>s _ _ (h.at_ i r t e1 e2)⟩
def NN (C:J):Sp:=λvs H Q _=>e_2 λ(v:J)(m:Md)=>vs=[.ref v]/\ll C H v m/\fg m/\
 ∀(H':Hp)(R:J)(rs:List J),aw H H'->H R=N->xK m H' R rs (bq m)->Q (.ref R) H'
def NO (K:aM):Sp:=λvs H Q _=>e_6 λ(R i j:Nat)(rs:List J)(m:Md)(tb:List gb)=>vs=[.ref R,.int (i:Nat),.int (j:Nat)]/\xK m H R rs tb/\i<(ae m).length/\j<(ae m).length/\
 ∀H',aw H H'->Q (WU (kL tb (at_ m i) (at_ m j))) H'
def akP {r ps:List Nat}{j p:Nat}(h:ps[j]?=B p):nt r (ps.take (j+1))=nt r (ps.take j)|||r.getD p 0:=by unfold nt;rw[take_snoc h,DI];rfl
def NP (m:Md)(s:gb):kM m 0 s=[s]:=rfl
def xM (h:(fE m s).length=s.length):kM m n s=[s]:=by
 cases n with
 |zero=>rfl
 |succ n=>exact aD h
def xN (h:¬(fE m s).length=s.length):kM m (n+1) s=s::kM m n (fE m s):=au h
def Y6 (m:Md):(jY m).length<=m.states.length*m.states.length:=by
 unfold jY;rw[NQ,<-gD];generalize hk:(ae m).length=k
 have:∀is:List Nat,((is.map λu=>(((ae m).filter λv=>cF m u==cF m v).map λv=>(u,v)).length)).sum<=is.length*k:=by
  intro is;induction is with
  |nil=>simp
  |cons x is ih=>rw[dX,xj,dj,dY,Nat.succ_mul];grind
 grind
def akQ (m:Md)(s:gb):(fE m s).length<=s.length:=jT _ _
def akR (l:List gb)(u v:Nat):∀k,((GN k l.length).zip l).findSome? (λx=>if bH x.2 u v=L then N else B x.1)=N/\(∀s∈l,bH s u v=L)\/∃c s,l[c]?=B s/\bH s u v=aH/\(∀c' s',c'<c->l[c']?=B s'->bH s' u v=L)/\((GN k l.length).zip l).findSome? (λx=>if bH x.2 u v=L then N else B x.1)=B (k+c):=by
 induction l with
 |nil=>simp
 |cons a l ih=>
  intro k;have er:(GN k (a::l).length).zip (a::l)=(k,a)::(GN (k+1) l.length).zip l:=by rw[dY,List.range'_succ,J2]
  rw[er,List.findSome?_cons];cases hb:bH a u v with
  |false=>refine .inr ⟨0,a,O,hb,λc' s' h=>by lia,?_⟩;simp[hb]
  |true=>
   rcases ih (k+1)with⟨h1,h2⟩|⟨c,s,h1,h2,h3,h4⟩
   .rfl'
   .refine .inr ⟨c+1,s,h1,h2,λc' s' h e=>?_,?_⟩<;>grind
def CQ (l:List gb)(u v:Nat):(kL l u v=N/\∀s∈l,bH s u v=L)\/∃c s,l[c]?=B s/\bH s u v=aH/\(∀c' s',c'<c->l[c']?=B s'->bH s' u v=L)/\kL l u v=B c:=by have:=akR l u v 0;unfold kL;rw[List.range_eq_range'];rfl'
def Y7 (h:l[c]?=B s)(hb:bH s u v=aH)(q:∀c' s',c'<c->l[c']?=B s'->bH s' u v=L):kL l u v=B c:=by rcases CQ l u v with⟨_,h2⟩|⟨d,t,h1,h2,h3,h4⟩<;>grind
def Y8 (q:∀(c':Nat)(s':gb),l[c']?=B s'->bH s' u v=L):kL l u v=none:=by rcases CQ l u v with⟨h,_⟩|⟨d,t,h1,h2,h3,h4⟩<;>grind
def Y9:bZ ["view","pairs","place","found","agent","partners","seen"] ["view","pairs","place"] (bb Kn):=by left
def akS (TV:n9 K br)(F:bG K "seen_from" "seen_from" Kn f fd)(T:Txt K mg)(lC:c_ "places_in" 1 ["some"] (zX)):b_ 2 f fd ["view","pairs","place"] (Y5 K br):=by
 rcases F,Y9 with⟨v,pr,i,m,r,rfl,⟨dv,aR,aY,A',Pp,b6,Rs,b4⟩,ok,hp,hl,hi,k⟩;have cz:=ok.cz;have il:=gD m;refine⟨_,(az (bz 3 nd (bU (af (cG cP (pv 1) (pv 2) (λ_ _=>rfl)) aq))) (az (eZ dR O (rh (by rfl) T.rH (af (aT T.AGENTS) aq)) (bX (i:=4) nd O (bM O)) (az (bz 5 nd aZ) (az (eZ dR O (iY (b7 lC hr (by rfl) (af (cG cP (cG cP (aQ (pv 0) O) (pv 4) (λ_ _=>rfl)) (pv 2) (λ_ _=>rfl)) aq))) (bX (i:=6) nd O (bM O)) (aE (bz 5 nd (b5 sT (pv 5) (cG cP (pv 1) (pv 6) (λ_ _=>rfl)))))) (aE (dF (e9 dJ ic iF iE (pv 3) (af (pv 5) aq))))))) (aE (aW (En ad4 (by rfl) T.ahF ahL (af (pv 3) aq)))))),?_⟩;have hri:r[i]?=B (r.getD i 0):=by grobner
 refine⟨pr,_,_,_,O,O,hp,eP (iq hri),a_1,λD hD=>?_⟩;refine⟨4,O,by decide,by decide,?_⟩
 refine jr (n:=4) (λa σ H'=>e_3 λv4 v5 v6=>σ=[B (.ref v),B (.ref pr),B (.int (i:Nat)),B (.ref D),v4,v5,v6]/\aw H H'/\H' D=B (.Z (aA (r.getD i 0::((ez 4).take a).map λa=>nt r (cn (b9 m a i) (ae m).length)))))
  ⟨N,N,N,O,bp hD,ah⟩ (λj σ H' hj _=>hj) (λσ H' _=>aX _) ?_ ?_
 .rintro a x σ H1 GL ha ⟨v4,v5,v6,rfl,s1,d1⟩ ⟨rfl,rfl⟩;have e0:((0:Int)+(a:Int))=((a:Nat):Int):=by cutsat
  have hR:Rs[a]?=B (Rs[a]'(by rw[b4.four];exact ha)):=cc _;generalize Rs[a]'(by grobner)=R at hR;have vH:=b4.rows a R hR;have xO:Fits (ae m).length (b9 m a i):=by unfold b9 eK;exact vW _ _
  refine⟨v,br,dv,_,_,O,s1 _ _ b4.obj,TV.cl,TV.tK,u7 _ _ _ _ _ _,Pp,_,_,_,O,O,aC.of (s1 _ _ b4.possible),(by rw[e0];exact eP (rS hR)),R,_,_,_,O,O,aC.of (s1 _ _ vH),eP (iq (oV hi)),?_⟩;refine⟨b9 m a i,(ae m).length,O,xO,by cutsat,λH2 S s2 hS hs=>?_⟩;have dn:=s1.trans s2;refine⟨S,O,⟨_,aC.of hs⟩,mE (K:=K) (a:=S) (xs:=aA (cn (b9 m a i) (ae m).length)) (λj σ H'=>∃v6,σ=[B (.ref v),B (.ref pr),B (.int (i:Nat)),B (.ref D),B (.int (0+(a:Nat))),B (.int ((nt r ((cn (b9 m a i) (ae m).length).take j):Nat):Int)),v6]/\H'=H2) ⟨v6,O,O⟩ (λj σ H' _ ⟨_,_,e⟩=>by rw[e];exact aC.of hs) ?_ ?_⟩
  .rintro j x σ H3 hj ⟨v6,rfl,rfl⟩;obtain⟨p,xP,rfl⟩:=jB hj;have yX:=o9.mp (gG xP);have NR:r[p]?=B (r.getD p 0):=by grobner
   refine⟨pr,_,_,_,O,O,dn.seq hp,eP (iq NR),_,_,O,O,B (.int (p:Nat)),?_,O⟩;rw[akP xP,<-qB];rfl
  .rintro σ H3 ⟨v6,rfl,rfl⟩;rw[bP,eE];have d3:=s2 _ _ d1;refine⟨.inl ⟨O,_,aC.of d3⟩,D,_,_,O,O,d3,by rw[bP,dY,dj,eF];exact cY (by cutsat),_,_,_,O,aS dn hD,?_⟩;rw[ah];refine cb B (cb HO.Z ?_);show V.int _::(aA _++_)=V.int _::aA _;rw[ME (g:=λa=>nt r (cn (b9 m a i) (ae m).length)) ha]
 .rintro σ H1 ⟨v4,v5,v6,rfl,s1,d1⟩;rw[yB (by simp)]at d1;refine⟨D,_,O,.inl ⟨aC.of d1,λt ht=>k _ t (aS s1 (s1.free ht)) (s1.free ht) ah⟩⟩
def Y':bZ ["rounds","first","second","count","pairs"] ["rounds","first","second"] (bb Ko):=by left
def akU (F:bG K "round_gone" "round_gone" Ko f fd)(T:Txt K mg):b_ 1 f fd ["rounds","first","second"] (NO K):=by
 rcases F,Y' with⟨R,i,j,rs,m,tb,rfl,ra,hi,hj,k⟩;refine⟨_,(az (eZ dR O (wW (by rfl) T.tJ (af (pv 0) aq)) (jP O (df (bX (i:=3) nd O (bM O)) (df (bX (i:=4) nd O (bM O)) jx))) (aE (bc (bA cy (b5 mF (b5 AS (cG cP (pv 4) (pv 1) (λ_ _=>rfl)) (pv 2)) aZ) aZ (bY _)) (aE (aW (pv 3))) bC))) (aE (aW sN))),?_⟩;refine⟨R,_,O,aC.of ra.Z,?_⟩
 refine jr (n:=(refs rs).length) (λc σ H'=>∃v3 v4,σ=[B (.ref R),B (.int (i:Nat)),B (.int (j:Nat)),v3,v4]/\aw H H'/\∀c' s,c'<c->tb[c']?=B s->bH s (at_ m i) (at_ m j)=L)
  ⟨N,N,O,aw.refl _,λc' s h=>by lia⟩ (λc σ H' hc ⟨_,_,_,s,_⟩=>⟨_,_,aC.of (s _ _ ra.Z),cc hc⟩) (λσ H' ⟨_,_,_,s,_⟩=>⟨_,aC.of (s _ _ ra.Z),aX _⟩) ?_ ?_
 .rintro c x σ H1 GL hc ⟨v3,v4,rfl,s1,q1⟩ ⟨T',y,rfl,hT,rfl,hy⟩;obtain⟨r,rO,rfl⟩:=Cb (hy _ (aC.of (s1 _ _ ra.Z)));have ku:=cR rO;rw[ra.len]at ku;have hs:=cc ku;have Za:=ra.at_ c r _ rO hs;generalize tb[c]=st at hs Za;have s2:=aS (p:=T') (o:=.tup [.int (c:Nat),.ref r]) s1 (s1.free hT);refine⟨T',_,O,cW.of ah,O,_,_,O,_,_,O,O,?_⟩;refine⟨r,_,_,_,O,O,aC.of (s2 _ _ Za),eP (iq (NH hi)),_,_,O,O,by lia,_,_,O,O,O,_,O,?_⟩;rw[aiN,iJ,cw hj,gc];cases hb:bH st (at_ m i) (at_ m j)with
  |true=>
   refine bN ⟨_,_,O,s2,λc' s h e=>?_⟩;by_cases z:c'=c
   .rw[z,hs]at e;cases e;exact hb
   .exact q1 c' s (by lia) e
  |false=>have:kL tb (at_ m i) (at_ m j)=B c:=Y7 hs hb q1;rw[this]at k;exact bO (k _ s2)
 .rintro σ H1 ⟨v3,v4,rfl,s1,q1⟩;rw[la,ra.len]at q1;have:kL tb (at_ m i) (at_ m j)=none:=Y8 λc' s e=>q1 c' s (cR e) e;rw[this]at k;exact k _ s1
def Zb:bZ ["view","rounds","pairs","fewer","place"] ["view"] (bb Fo):=by left
def akV {f:J}{fd:jk}(TV:n9 K br)(F:bG K "rounds_of" "rounds_of" Fo f fd)(T:Txt K mg)(GO:c_ "paired_by" 1 ["keys"] (YX K))(NS:c_ "seen_from" 2 ["view","pairs","place"] (Y5 K br)):b_ 3 f fd ["view"] (NN br):=by
 rcases F,Zb with⟨v,m,rfl,vw,ok,k⟩;obtain⟨dv,aR,aY,A',Pp,b6,Rs,b4⟩:=id vw;have cz:=ok.cz;have il:=gD m;have cI:=ok.nd;refine⟨_,(az (bz 1 nd (bU (af (b7 GO hr (by rfl) (af (aQ (pv 0) O) aq)) aq))) (aE (uF dR (lL nN) (az (rG 2 nd (cG cP (pv 1) (uJ AU aZ) (λ_ _=>rfl))) (az (bz 3 nd (b7 GO hr (by rfl) (af (lT O nd (rh (by rfl) T.rH (af (eJ nT (by rfl) T.gP gQ (af (pv 2) aq)) aq)) (jS (own:=[("place",4)]) (by show jn ["view","rounds","pairs","fewer","place"] (bb Fo) _ _=L;decide+kernel)) (λ_ _ _ _ _=>(bX (i:=4) nd O (bM O))) (λ_ _ _ _ _=>nU) (λ_ _ _ _ _=>(b7 NS hr (by rfl) (af (pv 0) (af (pv 2) (af (pv 4) aq)))))) aq))) (az (bc (bA (aeq hr.units) (pv 3) (pv 2) (bY _)) (aE (aW (pv 1))) bC) (aE (dF (e9 dJ ic iF iE (pv 1) (af (pv 3) aq)))))))))),?_⟩;refine⟨v,br,dv,_,_,O,b4.obj,TV.cl,TV.f7,FJ _ _ _ _ _ _,?_⟩;refine .inl ⟨aY,_,O,aC.of b4.b0,by grobner,λH1 S s1 hS hs=>?_⟩;rw[akF cI]at hs;refine⟨a_1,λR hR=>?_⟩;have kI:=s1.free hR;refine⟨λn σ H'=>e_8 λ(pre:List gb)(st:gb)(f':Nat)(rs:List J)(Hb:Hp)(v2 v3 v4:Option V)=>n=st.length/\σ=[B (.ref v),B (.ref R),v2,v3,v4]/\aw H Hb/\aw Hb H'/\Hb R=N/\H' R=B (.Z (refs rs))/\rs.length=pre.length+1/\(∀(i:Nat)(r:J)(s:gb),rs[i]?=B r->(pre++[st])[i]?=B s->Hb r=B (.Z (aA (cH m s))))/\Eqv m st/\st.length<=f'/\pre++kM m f' st=bq m/\pre.length+st.length<=256,⟨_,[],jY m,m.states.length*m.states.length,[S],H1,N,N,N,O,O,s1,bp hR,hR,ah,O,?_,NI m,Y6 m,O,?_⟩,?_⟩
 .intro i r s e1 e2;cases i with
  |zero=>cases e1;cases e2;exact hs
  |succ i=>simp at e1
 .have:=Y6 m;have h2:m.states.length*m.states.length<=16*16:=HZ cz cz;show 0+_<=256;cutsat
 rintro n σ H' ⟨pre,st,f',rs,Hb,v2,v3,v4,rfl,rfl,sb,s2,bR,GP,rl,ra,eq,hf,ht,hlen⟩;refine⟨_,O,?_⟩;refine bO ⟨_,λ_ _ z=>z,?_⟩;have qI:rs[pre.length]?=B (rs[pre.length]'(by cutsat)):=cc _;have eY:(pre++[st])[pre.length]?=B st:=by simp
 have xQ:=ra _ _ _ qI eY;generalize rs[pre.length]'(by cutsat)=lr at qI xQ
 have gC:j4 (refs rs) (-1)=B (.ref lr):=by
  obtain⟨xR,x,e⟩:∃xR x,rs=xR++[x]:=⟨rs.dropLast,rs.getLast (λz=>by grobner),(Zc _).symm⟩;rw[e]at qI rl ⊢;rw[<-oe];have:xR.length=pre.length:=by simpa using rl
  rw[<-this,nk (aX _),yT]at qI;cases qI
  exact Eo _ _
 refine⟨_,O,R,_,_,_,O,O,aC.of GP,gC,?_⟩;have NT:=s2 _ _ xQ;have vI:(cH m st).length=(ae m).length:=zW m st;refine⟨lr,_,O,.inl (aC.of NT),_,O,by cutsat,by rw[bP,vI];cutsat,λG hG=>?_⟩;have RG:R≠G:=aK GP hG;have hGb:=s2.free hG;refine qv (n:=(ae m).length) (λj H4=>∃ts,aw H' H4/\H4 G=B (.Z (refs ts))/\YW H4 ts (((ez (ae m).length).take j).map (keyOf m (cH m st)))) ⟨[],bp hG,ah,O,λi t k e=>by simp at e⟩ (λj H4 hj _=>(show j<qy _ by rw[bP,vI,ij];exact hj)) (λH4 _=>(show qy _<=_ by rw[bP,vI,ij];exact aX _)) ?_ ?_
 .rintro j x H4 H5 hj ⟨ts,s4,g4,k4⟩ ⟨rfl,rfl⟩;refine⟨O,?_⟩;refine oa ?_;refine⟨v,lr,j,m,cH m st,by simp,vw.same (sb.trans (s2.trans s4)),ok,aC.of (s4 _ _ NT),vI,hj,λH6 t s6 GQ ht=>?_⟩;have tl:ts.length<=16:=by rw[k4.len,dj,eF,NL];cutsat
  have tG:t≠G:=λz=>by rw[z,g4]at GQ;cases GQ
  refine⟨_,s6 _ _ g4,by rw[la];exact cY (by cutsat),ts++[t],aS (s4.trans s6) hG,by rw[ah,oe],?_⟩;have hjr:(ez (ae m).length)[j]?=B j:=zy hj;rw[take_snoc hjr,f9];refine⟨by simp[k4.len],λi t' k' e1 e2=>?_⟩;rcases nh i ts.length with z|z
  .rw[om z]at e1;rw[om (by rw[<-k4.len];exact z)]at e2;have h':=s6 _ _ (k4.at_ i t' k' e1 e2);exact(aa (bE h' (s6 _ _ g4) nofun)).trans h'
  .rw[nk z]at e1;rw[nk (by rw[<-k4.len];exact z)]at e2;have hz:i-ts.length=0:=by grobner
   rw[hz]at e1;rw[show i-(((ez (ae m).length).take j).map (keyOf m (cH m st))).length=0 by rw[<-k4.len];exact hz]at e2;cases e1;cases e2
   exact(aa tG).trans ht
 rintro H4 ⟨ts,s4,g4,k4⟩;rw[yB (by simp),<-vI]at k4;have ek:(ez (cH m st).length).map (keyOf m (cH m st))=keysOf m (cH m st):=rfl;rw[ek]at k4;have kl:(keysOf m (cH m st)).length<=16:=by grobner
 refine .inr ⟨G,ts,_,O,aC.of g4,k4,kl,λH5 S5 s5 NU NV=>?_⟩;rw[akJ cI eq]at NV;have NW:aw Hb H5:=s2.trans (s4.trans s5);have lr5:=s5 _ _ (s4 _ _ NT);refine⟨_,_,Y3 (aC.of NV),Y3 (aC.of lr5),Zd _,Zd _,_,O,?_⟩;rw[akO];have R5:=s5 _ _ (s4 _ _ GP);by_cases he:(fE m st).length=st.length
 .rw[cw ((YU eq).mpr he)];rw[xM he]at ht;refine bO (k _ R rs (sb.trans NW) (sb.free bR) ⟨R5,by rw[<-ht,cK,rl];rfl,λi r s e1 e2=>NW _ _ (ra i r s e1 (by grobner))⟩)
 .rw[eG (λz=>he ((YU eq).mp z))];have nl:=akQ m st;obtain⟨NX,rfl⟩:∃NX,f'=NX+1:=⟨f'-1,by cutsat⟩;rw[xN he]at ht;have Ze:Hb S5=none:=s2.free (s4.free NU);have Zf:S5≠R:=λz=>by rw[z,s4 _ _ GP]at NU;cases NU
  refine bN ⟨.inl ⟨O,_,aC.of R5⟩,R,_,_,O,O,R5,by rw[la,rl];exact cY (by cutsat),?_⟩;refine⟨(fE m st).length,by cutsat,pre++[st],fE m st,NX,rs++[S5],M Hb S5 (.Z (aA (cH m (fE m st)))),_,_,_,O,O,aS sb (sb.free Ze),?_,(aa (aP Zf)).trans bR,by rw[ah,oe],by simp[rl],?_,NJ eq,by cutsat,by rw[<-ht];simp,by grobner⟩
  .intro b o e;have nR:b≠R:=aK e ((aa (aP Zf)).trans bR);rw[aa nR];by_cases z:b=S5
   .rw[z]at e ⊢;rw[ah]at e;rw[<-e];exact NV
   .rw[aa z]at e;exact NW _ _ e
  .intro i r s e1 e2;rcases nh i rs.length with z|z
   .rw[om z]at e1;rw[om (by grobner)]at e2;have h':=ra i r s e1 e2;exact(aa (aK h' Ze)).trans h'
   .rw[nk z]at e1;have hz:i-rs.length=0:=by grobner
    rw[hz]at e1;rw[nk (by rw[cK];simp only[dY,mQ];cutsat),show i-(pre++[st]).length=0 by rw[cK];simp only[dY,mQ];cutsat]at e2;cases e1;cases e2
    exact ah
theorem Zg (m:Md):∀(n:Nat)(s:gb),Eqv m s->∃pre t,kM m n s=pre++[t]/\Eqv m t/\(∀u v,bH t u v=L->bH s u v=L)/\∀x∈pre,∀u v,bH t u v=L->bH x u v=L
 |0,s,h=>⟨[],s,O,h,λ_ _ z=>z,λx hx=>by cases hx⟩
 |n+1,s,h=>by
  by_cases e:(fE m s).length=s.length
  .exact⟨[],s,xM e,h,λ_ _ z=>z,λx hx=>by cases hx⟩
  .obtain⟨pre,t,h1,h2,h3,h4⟩:=Zg m n _ (NJ h);refine⟨s::pre,t,by rw[xN e,h1];rfl,h2,λu v z=>(me.mp (h3 u v z)).1,λx hx u v z=>?_⟩;rcases dz.mp hx with y|y
   .rw[y];exact(me.mp (h3 u v z)).1
   .grind
def NY (m:Md):∃pre t,bq m=pre++[t]/\Eqv m t/\∀x∈pre,∀u v,bH t u v=L->bH x u v=true:=by obtain⟨pre,t,h1,h2,_,h4⟩:=Zg m (m.states.length*m.states.length) (jY m) (NI m);exact⟨pre,t,h1,h2,h4⟩
def GS (h:∀x∈pre,∀u v,bH t u v=L->bH x u v=L)(u v:Nat):(kL (pre++[t]) u v).isNone=bH t u v:=by
 cases hb:bH t u v with
 |true=>rw[Y8 λc s e=>?_];rfl'
 |false=>rcases CQ (pre++[t]) u v with⟨_,h2⟩|⟨c,s,h1,h2,h3,h4⟩;rfl'
def akY:((ez n).map g).find? p=((ez n).filter (p∘g)).head?.map g:=by simp
def akZ (m:Md):(ez (ae m).length).map (at_ m)=ae m:=by
 refine yV λj=>?_;rw[ig];rcases nh j (ae m).length with h|h
 .rw[zy h,cc h];show B ((ae m).getD j 0)=_;grind
 rfl'
def NZ (ht:bq m=pre++[t])(eq:Eqv m t)(h:∀x∈pre,∀u v,bH t u v=L->bH x u v=L)(hi:i<(ae m).length):∃j,(cn ((cH m t).getD i 0) (ae m).length)[0]?=B j/\j<(ae m).length/\cu (bq m) m (at_ m i)=at_ m j/\bH t (at_ m i) (at_ m j)=true:=by
 have hm:i∈cn ((cH m t).getD i 0) (ae m).length:=o9.mpr ⟨hi,by rw[ou hi hi];exact eq.refl _ (iW hi)⟩
 obtain⟨j,hj⟩:∃j,(cn ((cH m t).getD i 0) (ae m).length)[0]?=B j:=by grind
 have N0:=o9.mp (gG hj);refine⟨j,hj,N0.1,?_,by rw[<-ou hi N0.1];exact N0.2⟩;unfold cu;rw[ht]
 have e1:(ae m).find? (λv=>(kL (pre++[t]) (at_ m i) v).isNone)=B (at_ m j):=by
  have e2:(λv=>(kL (pre++[t]) (at_ m i) v).isNone)=λv=>bH t (at_ m i) v:=funext λv=>GS h _ _;rw[e2];conv=>lhs;rw[<-akZ m]
  rw[akY]
  have e3:(ez (ae m).length).filter ((λv=>bH t (at_ m i) v)∘at_ m)=cn ((cH m t).getD i 0) (ae m).length:=by unfold cn;refine si λk hk=>?_;have hk:=oG.mp hk;show bH t (at_ m i) (at_ m k)=_;rw[ou hi hk]
  rw[e3,Zh,hj];rfl
 rw[e1];rfl
def GU (hu:u∈ae m):cu (bq m) m u∈ae m:=by obtain⟨pre,t,ht,eq,h⟩:=NY m;obtain⟨j,_,hj,e,_⟩:=NZ ht eq h (lE hu);rw[pz hu]at e;rw[e];exact iW hj
def GV (hu:u∈ae m):cu (bq m) m (cu (bq m) m u)=cu (bq m) m u:=by
 obtain⟨pre,t,ht,eq,h⟩:=NY m;obtain⟨j,_,hj,e,hb⟩:=NZ ht eq h (lE hu);rw[pz hu]at e hb;rw[e]
 have e2:∀v,bH t (at_ m j) v=bH t u v:=λv=>by rw[mq];exact⟨λz=>eq.trans _ _ _ hb z,λz=>eq.trans _ _ _ (eq.symm _ _ hb) z⟩
 have e3:(λv=>(kL (bq m) (at_ m j) v).isNone)=λv=>(kL (bq m) u v).isNone:=funext λv=>by rw[ht,GS h,GS h,e2]
 have e4:cu (bq m) m u=at_ m j:=e;unfold cu at e4 ⊢;rw[e3]
 have:((ae m).find? λv=>(kL (bq m) u v).isNone).isSome=true:=by rw[List.find?_isSome];exact⟨u,hu,by rw[ht,GS h];exact eq.refl u hu⟩
 obtain⟨x,hx⟩:=El.mp this;grind
def Zi (h:p∈gL m x):p.2∈xS m x:=by obtain⟨h1,_,l,hl,e1,e2,e3⟩:=o7 h;unfold xS;grind
def Zj (ok:fg m)(h:v∈xS m x):∃p∈gL m x,p.2=v:=by
 unfold xS at h;obtain⟨h1,h2⟩:=fw.mp h;obtain⟨l,hl,e⟩:=nH.mp h2;have e:l.u=x/\l.v=v:=by simpa using e
 have ha:=ok.agents l hl;refine⟨(l.a,v),?_,O⟩;unfold gL;refine qF.mpr ⟨l.a,?_,cx.mpr ⟨v,jG.mpr ⟨h1,l,hl,O,e.1,e.2⟩,O⟩⟩;unfold ka;grind
theorem Zk {D:Nat->Prop}(hD:∀x,D x->∀p∈gL m x,D p.2):∀(F:Nat)(q:List Ent)(K:List Nat),(∀e∈q,D e.1)->∀e∈WK.T m F q K,D e.1
 |0,q,K,_,e,h=>by cases h
 |F+1,[],K,_,e,h=>by cases h
 |F+1,x::r,K,hq,e,h=>by
  have new:∀e∈(fr (bg m [x]) K).1,D e.1:=λe he=>by
   obtain⟨y,hy,p,hp,rfl⟩:=vz (vy _ _ e he).1;have:y=x:=by grind
   subst this;exact hD _ (hq y eR) p hp
  rcases eX.mp h with z|z
  .exact new e z
  .refine Zk hD F _ _ (λy hy=>?_) e z<;>grind
theorem Zl (hn:(ae m).Nodup):∀(F:Nat)(q:List Ent)(K:List Nat),q.length+rem m K<=F->∀e∈q++WK.T m F q K,∀p∈gL m e.1,p.2∈K\/∃x∈WK.T m F q K,x.1=p.2
 |0,q,K,hF,e,h,p,hp=>by have:q=[]:=E7 (by lia);subst this;cases h
 |F+1,[],K,hF,e,h,p,hp=>by cases h
 |F+1,y::r,K,hF,e,h,p,hp=>by
  have hr:=zO hn (bg m [y]) K λe he=>CF he;rw[dY]at hF;have ih:=Zl hn F (r++(fr (bg m [y]) K).1) (fr (bg m [y]) K).2 (by grind);have eT:WK.T m (F+1) (y::r) K=(fr (bg m [y]) K).1++WK.T m F (r++(fr (bg m [y]) K).1) (fr (bg m [y]) K).2:=rfl;rw[eT]at h ⊢
  have lift:(p.2∈(fr (bg m [y]) K).2\/∃x∈WK.T m F (r++(fr (bg m [y]) K).1) (fr (bg m [y]) K).2,x.1=p.2)->(p.2∈K\/∃x∈(fr (bg m [y]) K).1++WK.T m F (r++(fr (bg m [y]) K).1) (fr (bg m [y]) K).2,x.1=p.2):=by
   rintro(z|⟨x,hx,z⟩)
   .rcases(vv _ _ _).mp z with z|⟨x,hx,z⟩<;>grind
   rfl'
  refine lift ?_;rcases eX.mp h with z|z
  .rcases dz.mp z with w|w
   .subst w;refine .inl ((xB _ _ _).mpr (.inr ⟨jH e.2 p,?_,O⟩));unfold bg;grind
   rfl'
  rfl'
def ak0 (ok:fg m){u:Nat}(hu:u∈ae m)(v:Nat):v∈(kb m u).map (·.1)↔v∈(ae m).filter λv=>v==u||(cV m u).contains v:=by
 rw[fw]
 have P:∀e∈kb m u,e.1=u\/e.1∈cV m u:=λe he=>by
  rcases dz.mp he with z|z
  .grind
  .refine Zk (D:=λx=>x=u\/x∈cV m u) (λx hx p hp=>?_) _ _ _ (λy hy=>?_) e z
   .rcases hx with hx|hx
    .rw[hx]at hp;exact .inr (HH (Zi hp))
    .exact .inr (HI hx (Zi hp))
   rfl'
 constructor
 .intro h;obtain⟨e,he,rfl⟩:=cx.mp h;refine⟨YK hu he,?_⟩<;>grind
 .rintro⟨hv,h⟩
  have cl:∀e∈kb m u,∀p∈gL m e.1,p.2∈(kb m u).map (·.1):=λe he p hp=>by
   rcases Zl ok.nd (1+rem m [u]) [(u,[])] [u] (aX _) e he p hp with z|⟨x,hx,z⟩
   .have:p.2=u:=by simpa using z
    rw[this];exact cx.mpr ⟨(u,[]),eR,O⟩
   .exact cx.mpr ⟨x,eD _ hx,z⟩
  have h:v=u\/v∈cV m u:=by simpa using h
  rcases h with h|h
  .rw[h];exact cx.mpr ⟨(u,[]),eR,O⟩
  .refine HJ (D:=λx=>x∈(kb m u).map (·.1)) (λx hx=>?_) (λx hx y hy=>?_) v h
   .obtain⟨p,hp,rfl⟩:=Zj ok hx;exact cl (u,[]) eR p hp
   .obtain⟨e,he,rfl⟩:=cx.mp hx;obtain⟨p,hp,rfl⟩:=Zj ok hy;grind
noncomputable def CS (m:Md)(at_ last:Nat):fi×List Int:=if at_=0 then(W0 m at_ last,[-7])else
 (W0 (vJ m at_) (cu (bq (dh m λv=>v==at_||(cV m at_).contains v)) (dh m λv=>v==at_||(cV m at_).contains v) at_) last,[0,((vJ m at_).states.length:Int)])
def Zm {l:List cD}:(l.any λx=>x.a==k.a&&(x.u==k.u&&x.v==k.v))=L↔k∈l:=by
 rw[nH];constructor
 .rintro⟨x,hx,e⟩;have e:x.a=k.a/\x.u=k.u/\x.v=k.v:=by simpa using e
  have:x=k:=by cases x;all_goals simp_all
  grind
 rfl'
def CT {l:List cD}(h:k∈l):CU k l=l:=aD (Zm.mpr h)
def zY {l:List cD}(h:k∉l):CU k l=l++[k]:=au λz=>h (Zm.mp z)
noncomputable def vK (m:Md)(l:List Nat):List (Key×V):=l.map λu:Nat=>(.inl (u:Int),.int ((cu (bq m) m u:Nat):Int))
def GW {l:List Nat}{u:Nat}(h:u∈l):cE (vK m l) (.inl (u:Int))=B (.int ((cu (bq m) m u:Nat):Int)):=by
 induction l with
 |nil=>cases h
 |cons x k ih=>
  by_cases z:x=u
  .subst z;exact mO rfl
  .show cE ((.inl (x:Int),_)::vK m k) _=_;rw[mP (λy=>z (by grind))];grind
def ak1 {l:List Nat}{u:Nat}(h:u∉l):cE (vK m l) (.inl (u:Int))=none:=xm λp hp=>by obtain⟨x,hx,rfl⟩:=cx.mp hp;grind
def Zn (C:J):Sp:=λvs H Q _=>e_2 λ(v:J)(m:Md)=>vs=[.ref v]/\ll C H v m/\fg m/\
 ∀(H':Hp)(d:J),aw H H'->H d=N->H' d=B (.dK (vK m (ae m)))->Q (.ref d) H'
def Zo (C:J):Sp:=λvs H Q _=>e_8 λ(p dx dm dl pl:J)(m:Md)(at_ last:Nat)=>vs=[.ref p]/\Core C H p dx dm dl pl m at_ last/\cg m at_ last/\j' C H p dx dm dl pl (CS m at_ last) Q
theorem N1:∀(bV:List Ent)(K':List Nat),((fr bV K').1.map (·.1)).Nodup/\∀v∈(fr bV K').1.map (·.1),v∉K'
 |[],K'=>⟨j5,λv h=>by cases h⟩
 |y::bV,K'=>by
  by_cases z:y.1∈K'
  .rw[jI z];exact N1 bV K'
  .rw[kJ z];have:=N1 bV (y.1::K');rfl'
theorem Zp (m:Md):∀(F:Nat)(q:List Ent)(K':List Nat),((WK.T m F q K').map (·.1)).Nodup/\∀v∈(WK.T m F q K').map (·.1),v∉K'
 |0,q,K'=>⟨j5,λv h=>by cases h⟩
 |F+1,[],K'=>⟨j5,λv h=>by cases h⟩
 |F+1,e::r,K'=>by
  have a:=N1 (bg m [e]) K';have b:=Zp m F (r++(fr (bg m [e]) K').1) (fr (bg m [e]) K').2;show(((fr (bg m [e]) K').1++WK.T m F _ _).map (·.1)).Nodup/\∀v∈((fr (bg m [e]) K').1++WK.T m F _ _).map (·.1),v∉K';rw[f9];refine⟨Cj.mpr ⟨a.1,b.1,λx hx y hy z=>?_⟩,λv hv=>?_⟩
  .subst z;obtain⟨w,hw,e'⟩:=cx.mp hx;exact b.2 x hy ((vv _ _ _).mpr (.inr ⟨w,hw,e'⟩))
  .rcases eX.mp hv with z|z
   .exact a.2 v z
   .exact λw=>b.2 v z ((vv _ _ _).mpr (.inl w))
def ak2 (m:Md)(u:Nat):((kb m u).map (·.1)).Nodup:=by have:=Zp m (1+rem m [u]) [(u,[])] [u];show(u::_).Nodup;grind
def ak3 (ok:fg m)(up:(ae m).Pairwise (·<·)){u:Nat}(hu:u∈ae m){ns:List Int}(hp:ns.Perm ((kb m u).map λe=>((e.1:Nat):Int)))(hs:ns.Pairwise (·<=·)):ns.map V.int=aA ((ae m).filter λv=>v==u||(cV m u).contains v):=by
 have p1:((kb m u).map (·.1)).Perm ((ae m).filter λv=>v==u||(cV m u).contains v):=Ng (ak2 m u) (ok.nd.filter _) λv=>ak0 ok hu v
 have p2:ns.Perm (((ae m).filter λv=>v==u||(cV m u).contains v).map λn=>((n:Nat):Int)):=by have:=p1.map λn=>((n:Nat):Int);rw[gw]at this;exact hp.trans this
 have e:=Nf (r:=λa b:Int=>decide (a<b)) p2 (hs.imp λ{a b} h=>eG (by lia)) (by grind)
 rw[e];unfold aA;simp
noncomputable def fk (g:Nat->Nat)(ls:List cD):List Link:=ls.foldl (λk x=>CU {a:=x.a,u:=g x.u,v:=g x.v} k) []
def CV (g:Nat->Nat)(ls:List cD)(l:cD):fk g (ls++[l])=CU {a:=l.a,u:=g l.u,v:=g l.v} (fk g ls):=by unfold fk;simp
def snoc_ind {α:Type}{P:List α->Prop}(h0:P [])(hs:∀l x,P l->P (l++[x]))(l:List α):P l:=by
 have:∀r:List α,P r.reverse:=λr=>by
  induction r with
  |nil=>exact h0
  |cons x r ih=>grind
 have h:=this l.reverse;grind
def GX (g:Nat->Nat)(ls:List cD):(fk g ls).Nodup:=by
 refine snoc_ind (P:=λls=>(fk g ls).Nodup) j5 (λls l ih=>?_) ls;rw[CV];by_cases z:({a:=l.a,u:=g l.u,v:=g l.v}:cD)∈fk g ls
 .rw[CT z];exact ih
 .rw[zY z];grind
def N2 (g:Nat->Nat)(ls:List cD):(fk g ls).length<=ls.length:=by
 refine snoc_ind (P:=λls=>(fk g ls).length<=ls.length) (aX _) (λls l ih=>?_) ls;rw[CV];by_cases z:({a:=l.a,u:=g l.u,v:=g l.v}:cD)∈fk g ls
 .rw[CT z,cK];lia
 .rw[zY z,cK,cK];grind
def xT (g:Nat->Nat)(ls:List cD):∀x∈fk g ls,∃l∈ls,x={a:=l.a,u:=g l.u,v:=g l.v}:=by
 refine snoc_ind (P:=λls=>∀x∈fk g ls,∃l∈ls,x=({a:=l.a,u:=g l.u,v:=g l.v}:cD)) (λx h=>by cases h) (λls l ih x hx=>?_) ls;rw[CV]at hx;by_cases z:({a:=l.a,u:=g l.u,v:=g l.v}:cD)∈fk g ls
 .rw[CT z]at hx;grind
 .rw[zY z]at hx;rfl'
def Zq:bZ ["view","found","place","partners"] ["view"] (bb Kp):=by left
def ak4 (TV:n9 K br)(F:bG K "least_alike" "least_alike" Kp f fd)(T:Txt K mg)(lC:c_ "places_in" 1 ["some"] (zX))(zZ:c_ "rounds_of" 3 ["view"] (NN br)):b_ 4 f fd ["view"] (Zn br):=by
 rcases F,Zq with⟨v,m,rfl,vw,ok,k⟩;have hu:=kX hr;have cz:=ok.cz;have il:=gD m;have cI:=ok.nd;obtain⟨pre,t,N3,eq,tI⟩:=NY m;refine⟨_,(az (bz 1 nd yK) (az (eZ dR O (wW (by rfl) T.tJ (af (cG cP (b7 zZ hr (by rfl) (af (pv 0) aq)) (uJ AU aZ) (λ_ _=>rfl)) aq)) (jP O (df (bX (i:=2) nd O (bM O)) (df (bX (i:=3) nd O (bM O)) jx))) (aE (nX hu (pv 1) (cG cP (aQ (pv 0) O) (pv 2) (λ_ _=>rfl)) (cG cP (aQ (pv 0) O) (cG cP (b7 lC hr (by rfl) (af (pv 3) aq)) aZ (λ_ _=>rfl)) (λ_ _=>rfl)) O))) (aE (aW (pv 1))))),?_⟩;intro D hD;have s1:aw H (M H D (.dK [])):=bp hD;refine⟨v,m,O,vw.same s1,ok,λH2 R rs s2 hR ra=>?_⟩;have dn:=s1.trans s2;have qI:rs[pre.length]?=B (rs[pre.length]'(by rw[ra.len,N3,cK];simp)):=cc _;have eY:(bq m)[pre.length]?=B t:=by grobner
 have xQ:=ra.at_ _ _ _ qI eY;generalize rs[pre.length]'(by grobner)=lr at qI xQ;have rl:rs.length=pre.length+1:=by rw[ra.len,N3,cK];rfl
 have gC:j4 (refs rs) (-1)=B (.ref lr):=by
  obtain⟨xR,x,e⟩:∃xR x,rs=xR++[x]:=⟨rs.dropLast,rs.getLast (λz=>by grobner),(Zc _).symm⟩;rw[e]at qI rl ⊢;rw[<-oe];have:xR.length=pre.length:=by simpa using rl
  rw[<-this,nk (aX _),yT]at qI;cases qI
  exact Eo _ _
 have vI:(cH m t).length=(ae m).length:=zW m t;obtain⟨dv,aR,aY,A',Pp,b6,Rs,b4⟩:=vw.same dn;have xo:=s2 _ _ (ah (H:=H) (a:=D) (o:=.dK []))
 have sB:aw (del H2 D) H2:=λb o e=>by
  by_cases z:b=D
  .rw[z,rQ]at e;cases e
  .rw[kD z]at e;exact e
 have sH:aw H (del H2 D):=Ca dn hD;have nD:aR≠D:=bE b4.qC xo nofun;have vD:v≠D:=bE b4.obj xo nofun;have lD:lr≠D:=bE xQ xo nofun;have zB:del H2 D D=none:=rQ;have nB:=(kD nD).trans b4.qC;have vB:=(kD vD).trans b4.obj;have lB:=(kD lD).trans xQ;generalize del H2 D=HB at sB sH zB nB vB lB;refine⟨_,O,R,_,_,_,O,O,aC.of ra.Z,gC,lr,_,O,aC.of xQ,?_⟩
 refine jr (n:=(aA (cH m t)).length) (λi σ H'=>∃v2 v3,σ=[B (.ref v),B (.ref D),v2,v3]/\aw HB H'/\H' D=B (.dK (vK m ((ae m).take i))))
  ⟨N,N,O,sB,xo⟩ (λi σ H' hi ⟨_,_,_,s,_⟩=>⟨_,_,aC.of (s _ _ lB),cc hi⟩) (λσ H' ⟨_,_,_,s,_⟩=>⟨_,aC.of (s _ _ lB),aX _⟩) ?_ ?_
 .rintro i x σ H3 H3' hi ⟨v2,v3,rfl,s3,d3⟩ ⟨T',y,rfl,hT,rfl,hy⟩;obtain⟨c,hc,rfl⟩:=jB (hy _ (aC.of (s3 _ _ lB)));have dA:=cR hc;rw[vI]at dA;have ec:c=(cH m t).getD i 0:=(getD_at hc).symm;obtain⟨j,Zr,hj,ej,_⟩:=NZ N3 eq tI dA;have ak5:Fits (ae m).length c:=by rw[ec];exact GK dA
  have s4:=aS (p:=T') (o:=.tup [.int (i:Nat),.int (c:Nat)]) s3 (s3.free hT);have DT:D≠T':=aK d3 hT;have d4:=(aa (o:=.tup [.int (i:Nat),.int (c:Nat)]) DT).trans d3;refine⟨T',_,O,cW.of ah,O,_,_,O,_,_,O,O,?_⟩;generalize M H3 T' (.tup [.int (i:Nat),.int (c:Nat)])=H4 at s4 d4
  have nZ:∀k,k<(ae m).length->(ae m)[k]?=B (at_ m k):=λk hk=>by rw[cc hk];unfold at_;rw[getD_get hk]
  refine⟨v,br,dv,_,_,O,s4 _ _ vB,TV.cl,TV.xc,za _ _ _ _ _ _,c,(ae m).length,O,ak5,by cutsat,λH5 S s5 hS hs=>?_⟩;have GY:=s4.trans s5;rw[<-ec]at Zr;refine⟨S,_,0,_,O,O,aC.of hs,eP (j:=0) (iq Zr),aR,_,_,_,O,O,aC.of (GY _ _ nB),eP (iq (nZ j hj)),v,br,dv,_,_,O,GY _ _ vB,TV.cl,TV.xc,za _ _ _ _ _ _,aR,_,_,_,O,O,aC.of (GY _ _ nB),eP (iq (nZ i dA)),D,_,O,qo.k (k:=.inl ((at_ m i:Nat):Int)) (s5 _ _ d4) (by unfold vK;rw[dj,eF];exact cY (by cutsat)),_,_,O,aS GY zB,?_⟩
  have j9:cE (vK m ((ae m).take i)) (.inl ((at_ m i:Nat):Int))=none:=ak1 λz=>by obtain⟨k,hk⟩:=lX z;have hkl:=cR hk;rw[eF]at hkl;rw[tV,aD (by cutsat)]at hk;have:=zx cI hk (nZ i dA);cutsat
  rw[ah,wL _ j9,take_snoc (nZ i dA)];unfold vK;rw[f9];refine cb B (cb HO.dK (cb _ ?_));show _=[(cC ((at_ m i:Nat):Int),V.int ((cu (bq m) m (at_ m i):Nat):Int))];rw[ej]
 .rintro σ H3 ⟨v2,v3,rfl,s3,d3⟩;rw[bP,vI,eE]at d3;exact k _ D (sH.trans s3) hD d3
def Zs:bZ ["model","made_to","links","agent","start","end","number"] ["model"] (bb Fq):=by left
def ak7 (TM:ip K aG)(F:bG K "least" "least" Fq f fd)(T:Txt K mg)(oj:f_ aG "keep_only" 1 ["self","numbers"] (Cs K aG))(tZ:n_ "View" br 2 ["self","masks","links"] (Ge br))(zU:c_ "chains_from" 1 ["links","start"] (Nv))(N4:c_ "least_alike" 4 ["view"] (Zn br)):b_ 5 f fd ["model"] (Zo aG):=by
 rcases F,Zs with⟨p,dx,dm,dl,pl,m,at_,last,rfl,c,ok,q⟩;have hu:=kX hr;refine⟨_,(az (bc (bA cy (aQ (pv 0) O) aZ (bY _)) (aE (aW (bU (af (aT T.xa) aq)))) bC) (az (dF (gm (pv 0) oj hr (af (eJ (agC O) (by rfl) T.FG FH (af (b7 zU hr (by rfl) (af (aQ (pv 0) O) (af (aQ (pv 0) O) aq))) aq)) aq))) (az (rG 1 nd (b7 N4 hr (by rfl) (af (rJ tZ hr (by rfl) (af (aQ (pv 0) O) (af (aQ (pv 0) O) aq))) aq))) (az (bz 2 nd Bn) (az (uW (eZ dR O (uY (aQ (pv 0) O)) (jP O (df (bX (i:=3) nd O (bM O)) (df (bX (i:=4) nd O (bM O)) (df (bX (i:=5) nd O (bM O)) jx)))) (aE (nX hu (pv 2) (iZ (af (pv 3) (af (lU hu (pv 1) (pv 4) (λ_ _=>rfl)) (af (lU hu (pv 1) (pv 5) (λ_ _=>rfl)) aq)))) nN O)))) (az (dk (pv 0) (lU hu (pv 1) (aQ (pv 0) O) (λ_ _=>rfl)) O) (az (dk (pv 0) (pv 2) O) (az (dF (gm (pv 0) oj hr (af (JF (lT O nd (uY (aQ (pv 0) O)) (jS (own:=[("number",6)]) (by show jn ["model","made_to","links","agent","start","end","number"] (bb Fq) _ _=L;decide+kernel)) (λ_ _ _ _ _=>(bX (i:=6) nd O (bM O))) (λ_ _ _ _ _=>(yE (bA cy (lU hu (pv 1) (pv 6) (λ_ _=>rfl)) (pv 6) (bY _)))) (λ_ _ _ _ _=>(pv 6)))) aq))) (aE (aW (bU (af aZ (af (eJ tF (by rfl) T.gP gQ (af (aQ (pv 0) O) aq)) aq))))))))))))),?_⟩;refine⟨p,aG,dx,_,_,O,c.obj,TM.cl,TM.gZ,jz _ _ _ _ _,O,_,O,?_⟩;unfold CS at q;by_cases h0:at_=0
 .rw[aD h0]at q;exact dC (by lia) ⟨a_1,λR hR=>q.ask c (bp hR) hR ah⟩
 rw[au h0]at q;have gC:at_∈ae m:=ok.so.resolve_left h0;refine cX (by lia) ⟨p,dx,_,O,c.obj,BV _ _ _ _ _,p,aG,dx,_,_,O,c.obj,TM.cl,TM.gY,jq _ _ _ _ _,p,aG,dx,_,_,O,c.obj,TM.cl,TM.gZ,jz _ _ _ _ _,?_⟩;refine⟨dl,at_,m,O,c.links,ok.tofg,ok.up,ok.gq,gC,λH1 d cs s1 hd gF=>?_⟩
 have Zt:(iy (kb m at_) cs).map (·.1)=((kb m at_).map λe=>((e.1:Nat):Int)).map cC:=by
  unfold iy;rw[gw,gw]
  have:∀(Q:List Ent)(cs:List J),cs.length=Q.length->(Q.zip cs).map ((λx:Key×V=>x.1)∘λx:Ent×J=>((cC ((x.1.1:Nat):Int),V.ref x.2):Key×V))=Q.map (cC∘λe:Ent=>((e.1:Nat):Int)):=by
   intro Q;induction Q with
   |nil=>simp
   |cons x Q ih=>
    intro cs hl;cases cs with
    |nil=>simp at hl
    |cons b cs=>simp_all
  exact this _ _ gF.len
 refine⟨d,_,_,O,gF.dict,Zt,λns W BG yW hW=>?_⟩;have s2:aw H (M H1 W (.Z (ns.map V.int))):=aS s1 (s1.free hW);have eW:ns.map V.int=aA ((ae m).filter λv=>v==at_||(cV m at_).contains v):=ak3 ok.tofg ok.up gC BG yW;have CW:at_∈(ae m).filter λv=>v==at_||(cV m at_).contains v:=fw.mpr ⟨gC,by simp⟩;refine⟨p,dx,dm,dl,pl,W,m,at_,last,λv=>v==at_||(cV m at_).contains v,O,c.same s2,ok.tofg,ok.gq,by rw[<-eW];exact aC.of ah,λH3 iw ja k3 t7 t8 c3=>?_⟩;rw[aD CW]at c3;have eL:vJ m at_={states:=(dh m λv=>v==at_||(cV m at_).contains v).states.filter (λx=>cu (bq (dh m λv=>v==at_||(cV m at_).contains v)) (dh m λv=>v==at_||(cV m at_).contains v) x.id==x.id),links:=fk (cu (bq (dh m λv=>v==at_||(cV m at_).contains v)) (dh m λv=>v==at_||(cV m at_).contains v)) (dh m λv=>v==at_||(cV m at_).contains v).links}:=rfl;rw[eL]at q;have pb:fg (dh m λv=>v==at_||(cV m at_).contains v):=ok.tofg.only _;have z4:at_∈ae (dh m λv=>v==at_||(cV m at_).contains v):=by rw[r9];exact CW
 have ak8:(dh m λv=>v==at_||(cV m at_).contains v).links.Nodup:=ok.gq.filter _;generalize(dh m λv=>v==at_||(cV m at_).contains v)=r at c3 q pb z4 ak8;have s3k:bQ [p] H H3:=(bQ.jA s2).trans k3;have ap8:H iw=none:=s2.free t7;have ap9:H ja=none:=s2.free t8;clear gF Zt eW;refine⟨p,aG,dx,_,_,O,c3.obj,TM.cl,TM.f7,i8 _ _ _ _ _,p,aG,dx,_,_,O,c3.obj,TM.cl,TM.gY,jq _ _ _ _ _,λv dv vk eQ ck=>?_⟩;have md:iw≠dv:=aK c3.b0 eQ;have mv:iw≠v:=aK c3.b0 vk;have ld:ja≠dv:=aK c3.links eQ;have lv:ja≠v:=aK c3.links vk;refine⟨v,dv,iw,ja,r,O,ah,(aa mv).trans ((aa md).trans c3.b0),(aa lv).trans ((aa ld).trans c3.links),pb,λH4 k4 hv=>⟨O,?_⟩⟩;have s4:aw H3 H4:=aw.made vk eQ λb o e hb=>k4 b o e (by simpa using hb);refine⟨v,r,O,hv,pb,λH5 d5 s5 Zu i7=>?_⟩;have c5:=(c3.same s4).same s5;have s35:=s4.trans s5;intro D hD;have pD:p≠D:=aK c5.obj hD;have N5:D≠ja:=λz=>by rw[z,c5.links]at hD;cases hD
 have lp:p≠ja:=bE c5.obj c5.links nofun;have s6:aw H5 (M H5 D (.dT [])):=bp hD;have dd5:d5≠ja:=bE i7 c5.links nofun;refine⟨ja,_,s6 _ _ c5.links,trivial,λod=>⟨p,aG,dx,_,_,O,(aa lp).trans (s6 _ _ c5.obj),TM.cl,TM.gY,jq _ _ _ _ _,ja,od,O,.inr ⟨_,ah,?_⟩⟩⟩
 have sL:aw (M H5 ja (.bF od (.dT (bw r.links)))) (M (M H5 D (.dT [])) ja (.bF od (.dT (bw r.links)))):=λb o e=>by
  by_cases z:b=ja
  .rw[z]at e ⊢;rw[ah]at e ⊢;exact e
  .rw[aa z]at e ⊢;exact s6 _ _ e
 have nL:M H5 ja (.bF od (.dT (bw r.links))) D=none:=(aa N5).trans hD;have mL:M H5 ja (.bF od (.dT (bw r.links))) d5=_:=(aa dd5).trans i7
 refine jr (n:=(bw r.links).length) (λj σ H'=>e_3 λv3 v4 v5=>σ=[B (.ref p),B (.ref d5),B (.ref D),v3,v4,v5,N]/\aw (M H5 ja (.bF od (.dT (bw r.links)))) H'/\H' D=B (.dT (bw (fk (cu (bq r) r) (r.links.take j)))))
  ⟨N,N,N,O,sL,(aa N5).trans ah⟩ (λj σ H' hj ⟨_,_,_,_,s,_⟩=>⟨s _ _ ah,hj⟩) (λσ H' ⟨_,_,_,_,s,_⟩=>⟨s _ _ ah,aX _⟩) ?_ ?_
 .rintro j x σ H6 H7 hj ⟨v3,v4,v5,rfl,s7,d7⟩ ⟨rfl,kx,vx,t,hk,rfl,ht⟩;obtain⟨l,dU,rfl,rfl⟩:=zv hk;have Co:=gG dU;have he:=pb.ends l Co;refine⟨t,_,O,cW.of ht,O,_,_,O,_,_,O,_,_,O,O,?_⟩;have m7:=s7 _ _ mL;refine⟨d5,_,O,.inl ⟨_,.inl (l.u:Int),.inl m7,O,(GW he.1).symm⟩,d5,_,O,.inl ⟨_,.inl (l.v:Int),.inl m7,O,(GW he.2).symm⟩,a_3,λt2 fD=>?_⟩;have n1:D≠t2:=aK d7 fD;refine⟨D,_,O,.inr ⟨_,fc {a:=l.a,u:=cu (bq r) r l.u,v:=cu (bq r) r l.v},t2,(aa n1).trans d7,O,ah,?_,O⟩,_,_,_,O,aS (aS s7 (s7.free fD)) nL,?_⟩
  .rw[lh];exact rE (N2 _ _) (by rw[eF];exact cY (by have:=pb.iS;lia))
  .rw[ah,take_snoc dU,CV];by_cases z:({a:=l.a,u:=cu (bq r) r l.u,v:=cu (bq r) r l.v}:cD)∈fk (cu (bq r) r) (r.links.take j)
   .rw[CT z,ajz z]
   .rw[zY z,Gr z]
 rintro σ H6 ⟨v3,v4,v5,rfl,s7,d7⟩;rw[lh,eE]at d7;refine⟨s7 _ _ ah,?_⟩;have s8:aw H5 (M H6 ja (.dT (bw r.links))):=unlock s7 c5.links;have d8:M H6 ja (.dT (bw r.links)) D=_:=(aa N5).trans d7;generalize M H6 ja (.dT (bw r.links))=H8 at s8 d8;have c8:=c5.same s8;have m8:=s8 _ _ i7;refine⟨p,aG,dx,_,_,O,c8.obj,TM.cl,TM.gZ,jz _ _ _ _ _,d5,_,O,.inl ⟨_,.inl (at_:Int),.inl m8,O,(GW z4).symm⟩,p,aG,dx,_,O,c8.obj,TM.cl,TM.gZ,(by show 5<1000;decide),?_⟩;refine⟨p,aG,dx,_,O,ah,TM.cl,TM.gY,(by show 5<1000;decide),?_⟩;rw[mz,ahY,ahX];have Gu:iw≠p:=bE c3.b0 c3.obj nofun;have d5p:d5≠p:=bE m8 c8.obj nofun;have k8:bQ [p] H8 (M H8 p (.ins aG dx (fX (.ref iw) (.ref D) (.int ((cu (bq r) r at_:Nat):Int)) (.int (last:Nat)) (.ref pl)))):=(bQ.refl _ _).M (.inl (by simp));have c9:Core aG (M H8 p (.ins aG dx (fX (.ref iw) (.ref D) (.int ((cu (bq r) r at_:Nat):Int)) (.int (last:Nat)) (.ref pl)))) p dx iw D pl ⟨r.states,fk (cu (bq r) r) r.links⟩ (cu (bq r) r at_) last:=⟨ah,(aa Gu).trans c8.b0,(aa (aP pD)).trans d8⟩;have m9:M H8 p (.ins aG dx (fX (.ref iw) (.ref D) (.int ((cu (bq r) r at_:Nat):Int)) (.int (last:Nat)) (.ref pl))) d5=_:=(aa d5p).trans m8;have k9:bQ [p] H (M H8 p (.ins aG dx (fX (.ref iw) (.ref D) (.int ((cu (bq r) r at_:Nat):Int)) (.int (last:Nat)) (.ref pl)))):=(s3k.trans (.jA (s35.trans s8))).trans k8
 have ok9:fg (⟨r.states,fk (cu (bq r) r) r.links⟩:Md):=⟨pb.nd,pb.cz,λx hx=>by
  obtain⟨l,hl,rfl⟩:=xT _ _ x hx;have:=pb.ends l hl;exact⟨GU this.1,GU this.2⟩,λx hx=>by
  obtain⟨l,hl,rfl⟩:=xT _ _ x hx
  exact pb.agents l hl,fJ (N2 _ _) pb.iS⟩
 generalize M H8 p (.ins aG dx (fX (.ref iw) (.ref D) (.int ((cu (bq r) r at_:Nat):Int)) (.int (last:Nat)) (.ref pl)))=H9 at c9 m9 k9 k8 ⊢;have mp9:p≠iw:=aP Gu
 have d5m:d5≠iw:=by intro z;rw[z,s4 _ _ c3.b0]at Zu;cases Zu
 refine⟨p,dx,_,O,c9.obj,BV _ _ _ _ _,iw,_,c9.b0,trivial,λod=>⟨p,aG,dx,_,_,O,(aa mp9).trans c9.obj,TM.cl,TM.f7,i8 _ _ _ _ _,iw,od,O,.inl ⟨_,ah,λG hG=>?_⟩⟩⟩;have Gm:G≠iw:=λz=>by rw[z,ah]at hG;cases hG
 have hG9:H9 G=none:=(aa Gm).symm.trans hG;refine qv (n:=(cQ r.states).length) (λj H'=>aw (M H9 iw (.bF od (.dK (cQ r.states)))) H'/\H' G=B (.Z (aA (((ae r).take j).filter λx=>cu (bq r) r x==x)))) ⟨bp hG,ah⟩ (λj H' hj z=>⟨z.1 _ _ ah,hj⟩) (λH' z=>⟨z.1 _ _ ah,aX _⟩) ?_ ?_
 .rintro j x Bj Zv hj ⟨jm,z5⟩ ⟨rfl,kx,vx,hk,rfl⟩;obtain⟨st,eY,rfl,rfl⟩:=Ga hk;have nZ:(ae r)[j]?=B st.id:=by unfold ae;rw[ig,eY];rfl
  have gu:j<r.states.length:=cR eY;have cz:=pb.cz
  have en:((ae r).take (j+1)).filter (λx=>cu (bq r) r x==x)=((ae r).take j).filter (λx=>cu (bq r) r x==x)++(if(cu (bq r) r st.id==st.id)=L then[st.id]else[]):=by rw[take_snoc nZ,nj,kY];congr 1
  refine⟨O,d5,_,O,.inl ⟨_,.inl (st.id:Int),.inl (jm _ _ ((aa d5m).trans m9)),O,(GW (gG nZ)).symm⟩,O,_,O,?_⟩;by_cases h1:cu (bq r) r st.id=st.id
  .rw[aD (by simpa using h1)]at en;refine dC (by lia) ⟨_,z5,?_,aS jm hG,?_⟩
   .rw[bP];exact rE (jT _ _) (by rw[eF];exact cY (by lia))
   .rw[ah,en];exact cb B (cb HO.Z (ng _ _))
  .rw[au (by simpa using h1),fV]at en;rw[<-en]at z5;exact cX (by lia) ⟨jm,z5⟩
 .rintro Bj ⟨jm,z5⟩;rw[jE,<-gD,eE]at z5;refine⟨jm _ _ ah,?_⟩;have mN:aw H9 (M Bj iw (.dK (cQ r.states))):=unlock jm c9.b0;have Cq:M Bj iw (.dK (cQ r.states)) G=_:=(aa Gm).trans z5;generalize M Bj iw (.dK (cQ r.states))=Zv at mN Cq;have alf:cu (bq r) r at_∈(ae (⟨r.states,fk (cu (bq r) r) r.links⟩:Md)).filter λx=>cu (bq r) r x==x:=fw.mpr ⟨GU z4,by simpa using GV z4⟩;refine⟨p,dx,iw,D,pl,G,⟨r.states,fk (cu (bq r) r) r.links⟩,_,last,λx=>cu (bq r) r x==x,O,c9.same mN,ok9,GX _ _,aC.of Cq,λCr Zw alh k12 alj alk z6=>?_⟩;rw[aD alf]at z6
  have eo:dh (⟨r.states,fk (cu (bq r) r) r.links⟩:Md) (λx=>cu (bq r) r x==x)={states:=r.states.filter (λx=>cu (bq r) r x.id==x.id),links:=fk (cu (bq r) r) r.links}:=by
   unfold dh
   have:(fk (cu (bq r) r) r.links).filter (λl=>(cu (bq r) r l.u==l.u)&&(cu (bq r) r l.v==l.v))=fk (cu (bq r) r) r.links:=vX.mpr λx hx=>by obtain⟨l,hl,rfl⟩:=xT _ _ x hx;have:=pb.ends l hl;show((cu (bq r) r (cu (bq r) r l.u)==_)&&(cu (bq r) r (cu (bq r) r l.v)==_))=L;rw[GV this.1,GV this.2];simp
   rw[this]
  rw[eo]at z6;refine⟨p,aG,dx,_,_,O,z6.obj,TM.cl,TM.f7,i8 _ _ _ _ _,Zw,_,O,z6.b0,a_2,λR hR=>?_⟩;have kk:bQ [p] H Cr:=(k9.trans (.jA mN)).trans k12
  have Zx:∀{x:J},Cr x=N->H x=none:=λ{x} hx=>kk.free hx (λz=>by
   have:x=p:=by simpa using z
   rw[this,z6.obj]at hx;cases hx)
  have Zy:∀{x:J},Zv x=N->H x=none:=λ{x} hx=>(k9.trans (.jA mN)).free hx (λz=>by
   have:x=p:=by simpa using z
   rw[this,mN _ _ c9.obj]at hx;cases hx)
  refine q _ R Zw alh _ ((kk.mono (λb hb=>by grind)).M (.inr (Zx hR))) (.inr (Zy alj)) (.inr (Zy alk)) (dr.refl _) (z6.same (bp hR)) (Zx hR) ?_;rw[ah,jE];rfl
theorem CY (m:Md):∀(n:Nat)(s:gb)(i j:Nat)(a b:gb),i<=j->(kM m n s)[i]?=B a->(kM m n s)[j]?=B b->(∀u v,bH b u v=L->bH s u v=L)/\∀u v,bH b u v=L->bH a u v=L
 |0,s,i,j,a,b,Fb,ha,hb=>by have hi:=cR ha;have hj:=cR hb;rw[NP]at ha hb hi hj;rfl'
 |n+1,s,i,j,a,b,Fb,ha,hb=>by
  by_cases e:(fE m s).length=s.length
  .have hi:=cR ha;have hj:=cR hb;rw[xM e]at ha hb hi hj;rfl'
  .rw[xN e]at ha hb;cases j with
   |zero=>rfl'
   |succ j=>
    have hb:(kM m n (fE m s))[j]?=B b:=hb;cases i with
    |zero=>
     have ih:=CY m n _ j j b b (aX _) hb hb;cases ha
     exact⟨λu v z=>(me.mp (ih.1 u v z)).1,λu v z=>(me.mp (ih.1 u v z)).1⟩
    |succ i=>have ih:=CY m n _ i j a b (by lia) ha hb;exact⟨λu v z=>(me.mp (ih.1 u v z)).1,ih.2⟩
theorem Zz (m:Md):∀(n:Nat)(s:gb),Eqv m s->∀t∈kM m n s,Eqv m t
 |0,s,h,t,ht=>by
  have:t=s:=by simpa[NP]using ht
  grind
 |n+1,s,h,t,ht=>by
  by_cases e:(fE m s).length=s.length
  .rw[xM e]at ht;grind
  .rw[xN e]at ht;rcases dz.mp ht with z|z
   .grind
   .exact Zz m n _ (NJ h) t z
theorem ZA (m:Md):∀(n:Nat)(s:gb)(i:Nat)(b:gb),(kM m n s)[i+1]?=B b->∃a,(kM m n s)[i]?=B a/\b=fE m a
 |0,s,i,b,h=>by have:=cR h;rw[NP]at this;simp at this
 |n+1,s,i,b,h=>by
  by_cases e:(fE m s).length=s.length
  .have:=cR h;rw[xM e]at this;simp at this
  .rw[xN e]at h ⊢;have h:(kM m n (fE m s))[i]?=B b:=h;cases i with
   |zero=>
    refine⟨s,O,?_⟩
    have h0:∀(n:Nat)(s:gb),(kM m n s)[0]?=B s:=λn s=>by
     cases n with
     |zero=>rfl
     |succ n=>
      by_cases e:(fE m s).length=s.length
      .rw[xM e];rfl
      .rw[xN e];rfl
    grind
   |succ i=>exact ZA m n _ i b h
def ZC (m:Md):(bq m)[0]?=B (jY m):=by
 unfold bq;generalize m.states.length*m.states.length=n;cases n with
 |zero=>rfl
 |succ n=>
  by_cases e:(fE m (jY m)).length=(jY m).length
  .rw[xM e];rfl
  .rw[xN e];rfl
abbrev gM (m:Md)(u v:Nat):Option Nat:=kL (bq m) u v
def rb (m:Md)(g:Nat):gb:=((bq m)[g-1]?).getD []
def CZ (h:gM m u v=B g):∃t,(bq m)[g]?=B t/\bH t u v=aH/\∀c s,c<g->(bq m)[c]?=B s->bH s u v=true:=by rcases CQ (bq m) u v with⟨h1,_⟩|⟨c,s,h1,h2,h3,h4⟩<;>grind
def z7 (hs:(bq m)[g]?=B s):bH s u v=aH↔∃g',gM m u v=B g'/\g'<=g:=by
 constructor
 .intro h;rcases CQ (bq m) u v with⟨_,h2⟩|⟨c,t,h1,h2,h3,h4⟩<;>grind
 .rintro⟨g',h,hle⟩;obtain⟨t,h1,h2,_⟩:=CZ h;cases hb:bH s u v with
  |false=>rfl
  |true=>have:=(CY m _ _ g' g t s hle h1 hs).2 u v hb;rw[this]at h2;cases h2
def ny (m:Md)(u v:Nat):Option Nat:=(ez Vbtaag.ATOMS).find? λi=>(cF m u).testBit i !=(cF m v).testBit i
noncomputable def vL (m:Md)(s:gb)(u v:Nat):Option (Nat×Nat):=(gL m u).find? λc=>(b8 m c.1 v).all λy=>!bH s c.2 y
noncomputable def vM (m:Md)(s:gb)(u v:Nat):Option (Nat×Nat):=(gL m v).find? λc=>(b8 m c.1 u).all λx=>!bH s x c.2
def ke (op:bo->bo->bo)(empty:bo):List bo->bo
 |[]=>empty
 |[x]=>x
 |x::y::l=>op x (ke op empty (y::l))
noncomputable def ff (m:Md):Nat->Nat->Nat->bo
 |0,_,_=>.top
 |n+1,u,v=>match ny m u v with
  |some i=>if(cF m u).testBit i=L then .atom i else .no (.atom i)
  |none=>match vL m (rb m ((gM m u v).getD 0)) u v with
   |some c=>.no (.know c.1 (.no (ke .and .top ((b8 m c.1 v).map λy=>ff m n c.2 y))))
   |none=>match vM m (rb m ((gM m u v).getD 0)) u v with
    |some c=>.know c.1 (ke .or (.no .top) ((b8 m c.1 u).map λx=>ff m n x c.2))
    |none=>.top
def FF (m:Md)(u v:Nat):Form:=ff m ((gM m u v).getD 0+1) u v
def z8 (hb:∀s∈m.states,s.mask<256)(hu:u∈ae m)(hv:v∈ae m)(hn:(ae m).Nodup):ny m u v=N↔cF m u=cF m v:=by
 have lt:∀u∈ae m,cF m u<2^8:=λu hu=>by obtain⟨s,hs,rfl⟩:=cx.mp hu;obtain⟨i,hi⟩:=lX hs;rw[xn hn hi];exact hb s hs
 unfold ny;rw[zR];constructor
 .intro h;refine nF λi=>?_;rcases nh i 8 with z|z
  .have:=h i (oG.mpr z);grind
  .rw[CN (jh (lt u hu) (zr (by decide) z)),CN (jh (lt v hv) (zr (by decide) z))]
 .grind
def z9 (hu:u∈ae m)(hv:v∈ae m):gM m u v=B 0↔cF m u≠cF m v:=by
 have h0:=z7 (u:=u) (v:=v) (ZC m);constructor
 .intro h e;have:=h0.mpr ⟨0,h,aX _⟩;rw[qH.mpr ⟨hu,hv,e⟩]at this;cases this
 .intro h
  have:bH (jY m) u v=false:=by
   cases hb:bH (jY m) u v with
   |false=>rfl
   |true=>exact bT (qH.mp hb).2.2 h
  grind
def Aa (h:gM m u v=B (g+1)):∃s,(bq m)[g]?=B s/\rb m (g+1)=s/\bH s u v=L/\(bq m)[g+1]?=B (fE m s)/\Eqv m s:=by obtain⟨t,h1,h2,h3⟩:=CZ h;obtain⟨s,h4,h5⟩:=ZA m _ _ g t h1;refine⟨s,h4,?_,h3 g s (rY _) h4,by grind,Zz m _ _ (NI m) s (gG h4)⟩;unfold rb;rw[Nat.add_sub_cancel];show((bq m)[g]?).getD []=s;rw[show(bq m)[g]?=B s from h4];rfl
def ZD (cI:(ae m).Nodup)(iz:∀s∈m.states,s.mask<256):∀(g:Nat)(u v:Nat)(n:Nat),u∈ae m->v∈ae m->gM m u v=B g->g<n->ff m n u v=FF m u v:=by
 intro g;induction g using Nat.strongRecOn with
 |_ g ih=>
  intro u v n hu hv h hn;unfold FF;rw[h,oZ];obtain⟨n,rfl⟩:∃k,n=k+1:=⟨n-1,by lia⟩
  have sub:∀x y,x∈ae m->y∈ae m->bH (rb m g) x y=aH->0<g->ff m n x y=ff m g x y:=λx y hx hy hb hg=>by obtain⟨g',rfl⟩:∃k,g=k+1:=⟨g-1,by lia⟩;obtain⟨s,h1,h2,_⟩:=Aa h;rw[h2]at hb;obtain⟨k,hk,hle⟩:=(z7 h1).mp hb;rw[ih k (by lia) x y n hx hy hk (by lia),ih k (by lia) x y (g'+1) hx hy hk (by lia)]
  simp only[ff,h,oZ];cases ha:ny m u v with
  |some i=>rfl
  |none=>
   cases g with
   |zero=>exact bT ((z8 iz hu hv cI).mp ha) ((z9 hu hv).mp h)
   |succ g=>
    cases hl:vL m (rb m (g+1)) u v with
    |some c=>have hc:=vO hl;have e:(b8 m c.1 v).map (λy=>ff m n c.2 y)=(b8 m c.1 v).map (λy=>ff m (g+1) c.2 y):=lj λy hy=>sub _ _ (o7 (ma hl)).1 (jG.mp hy).1 (by grind) (by lia);grind
    |none=>
     cases hi:vM m (rb m (g+1)) u v with
     |some c=>have hc:=vO hi;have e:(b8 m c.1 u).map (λx=>ff m n x c.2)=(b8 m c.1 u).map (λx=>ff m (g+1) x c.2):=lj λx hx=>sub _ _ (jG.mp hx).1 (o7 (ma hi)).1 (by grind) (by lia);grind
     |none=>rfl
theorem N6 (ho:∀f g,(op f g).size=1+(f.size+g.size))(he:empty.size<=300):∀l:List bo,GZ op empty (l.map fH)=fH (ke op empty l)
 |[]=>by show B empty=fH empty;unfold fH C0;grind
 |[x]=>rfl
 |x::y::l=>by have ih:=N6 ho he (y::l);show(match fH x,GZ op empty ((y::l).map fH)with|some f,B g=>fH (op f g)|_,_=>N)=fH (op x (ke op empty (y::l)));rw[ih];generalize ke op empty (y::l)=r;unfold fH C0;rfl'
def ZE {g:bo->bo}(hg:∀f,f.size<=(g f).size)(f:bo):(fH f).bind (λf=>fH (g f))=fH (g f):=by have:=hg f;unfold fH C0;all_goals grobner
def G0 (m:Md)(s:gb)(k:C1):Prop:=∀u v,u∈ae m->v∈ae m->kf k u v=if bH s u v=L then N else B (fH (FF m u v))
def Ab:∀{l:List α},(∀x∈l,p x=q x)->l.find? p=l.find? q
 |[],_=>rfl
 |x::l,h=>by have h1:=h x eR;have ih:=Ab λy hy=>h y (eD _ hy);grind
def alm (cI:(ae m).Nodup)(iz:∀s∈m.states,s.mask<256){k:C1}{u v g:Nat}(hu:u∈ae m)(hv:v∈ae m)(h:gM m u v=B g)(hk:0<g->G0 m (rb m g) k):vP m k u v=fH (FF m u v):=by
 unfold FF;rw[h,oZ];unfold vP;simp only[ff,h,oZ];show(match ny m u v with|some i=>_|none=>_)=_;cases ha:ny m u v with
 |some i=>
  show B (if(cF m u).testBit i=L then vQ i else G1 (vQ i))=fH (if(cF m u).testBit i=L then vQ i else G1 (vQ i));unfold fH C0
  have hz:¬300<(if(cF m u).testBit i=L then vQ i else G1 (vQ i)).size:=by
   split
   .show¬300<1;lia
   .show¬300<1+1;lia
  grind
 |none=>
  cases g with
  |zero=>exact bT ((z8 iz hu hv cI).mp ha) ((z9 hu hv).mp h)
  |succ g=>
   have K1:=hk (by lia)
   have G3:∀x y,x∈ae m->y∈ae m->(kf k x y).isSome=!bH (rb m (g+1)) x y:=λx y hx hy=>by rw[K1 x y hx hy];rfl'
   have sub:∀x y,x∈ae m->y∈ae m->bH (rb m (g+1)) x y=aH->(kf k x y).getD N=fH (ff m (g+1) x y):=λx y hx hy hb=>by rw[K1 x y hx hy,hb];obtain⟨s,h1,h2,_⟩:=Aa h;rw[h2]at hb;obtain⟨k',uQ,hle⟩:=(z7 h1).mp hb;rw[ZD cI iz k' x y (g+1) hx hy uQ (by lia)];rfl
   have eO:((ka.flatMap λa=>(b8 m a u).map λx=>(a,x)).find? λc=>(b8 m c.1 v).all λy=>(kf k c.2 y).isSome)=vL m (rb m (g+1)) u v:=Ab λc hc=>by have ow:=(o7 (show c∈gL m u from hc)).1;refine mq.mpr ?_;rw[iK,iK];exact⟨λz y hy=>by rw[<-G3 _ _ ow (jG.mp hy).1];exact z y hy,λz y hy=>by rw[G3 _ _ ow (jG.mp hy).1];exact z y hy⟩
   have eI:((ka.flatMap λa=>(b8 m a v).map λy=>(a,y)).find? λc=>(b8 m c.1 u).all λx=>(kf k x c.2).isSome)=vM m (rb m (g+1)) u v:=Ab λc hc=>by have ow:=(o7 (show c∈gL m v from hc)).1;refine mq.mpr ?_;rw[iK,iK];exact⟨λz y hy=>by rw[<-G3 _ _ (jG.mp hy).1 ow];exact z y hy,λz y hy=>by rw[G3 _ _ (jG.mp hy).1 ow];exact z y hy⟩
   show(match((ka.flatMap λa=>(b8 m a u).map λx=>(a,x)).find? λc=>(b8 m c.1 v).all λy=>(kf k c.2 y).isSome)with|some c=>_|none=>_)=_;rw[eO];cases hl:vL m (rb m (g+1)) u v with
   |some c=>
    have hc:=vO hl;have ow:=(o7 (ma hl)).1;show(GZ .and .top ((b8 m c.1 v).map λy=>(kf k c.2 y).getD N)).bind (λf=>fH (.no (.know c.1 (.no f))))=fH (.no (.know c.1 (.no (ke .and .top ((b8 m c.1 v).map λy=>ff m (g+1) c.2 y)))))
    have e:(b8 m c.1 v).map (λy=>(kf k c.2 y).getD N)=((b8 m c.1 v).map λy=>ff m (g+1) c.2 y).map fH:=by rw[gw];exact lj λy hy=>sub _ _ ow (jG.mp hy).1 (by grind)
    rw[e,N6 (λ_ _=>rfl) (by decide)];exact ZE (g:=λf=>.no (.know c.1 (.no f))) (λf=>by simp only[jt];lia) _
   |none=>
    show(match((ka.flatMap λa=>(b8 m a v).map λy=>(a,y)).find? λc=>(b8 m c.1 u).all λx=>(kf k x c.2).isSome)with|some c=>_|none=>_)=_;rw[eI];cases hi:vM m (rb m (g+1)) u v with
    |some c=>
     have hc:=vO hi;have ow:=(o7 (ma hi)).1;show(GZ .or (.no .top) ((b8 m c.1 u).map λx=>(kf k x c.2).getD N)).bind (λf=>fH (.know c.1 f))=fH (.know c.1 (ke .or (.no .top) ((b8 m c.1 u).map λx=>ff m (g+1) x c.2)))
     have e:(b8 m c.1 u).map (λx=>(kf k x c.2).getD N)=((b8 m c.1 u).map λx=>ff m (g+1) x c.2).map fH:=by rw[gw];exact lj λx hx=>sub _ _ (jG.mp hx).1 ow (by grind)
     rw[e,N6 (λ_ _=>rfl) (by decide)];exact ZE (g:=λf=>.know c.1 f) (λf=>by simp only[jt];lia) _
    |none=>
     exfalso;obtain⟨s,h1,h2,h3,h4,eq⟩:=Aa h;rw[h2]at hl hi;obtain⟨t,h5,h6,_⟩:=CZ h;rw[show(bq m)[g+1]?=B (fE m s)from h4]at h5;cases h5
     have hm:¬vG m s u v=true:=λz=>by rw[me.mpr ⟨h3,z⟩]at h6;cases h6
     refine hm (uc.mpr λa ha=>⟨λx hx=>?_,λy hy=>?_⟩)
     .have BK:(a,x)∈gL m u:=qF.mpr ⟨a,ha,cx.mpr ⟨x,hx,O⟩⟩;have:=zR.mp hl (a,x) BK;rfl'
     .have uN:(a,y)∈gL m v:=qF.mpr ⟨a,ha,cx.mpr ⟨y,hy,O⟩⟩;have:=zR.mp hi (a,y) uN;rfl'
def aln (a b:C1)(u v:Nat):kf (a++b) u v=(kf a u v).or (kf b u v):=by unfold kf;rfl'
theorem ZF {g:Nat×Nat->Option bo}{u v:Nat}:∀{l:gb},kf (l.map λx=>(x,g x)) u v=if(u,v)∈l then B (g (u,v))else N
 |[]=>rfl
 |x::l=>by have ih:=ZF (g:=g) (u:=u) (v:=v) (l:=l);unfold kf at ih ⊢;rfl'
def ZG (hu:u∈ae m)(hv:v∈ae m):bH (C2 m) u v=true:=by rw[xH];unfold C2;grind
theorem ZH (cI:(ae m).Nodup)(iz:∀s∈m.states,s.mask<256):∀(l:List gb)(g:Nat)(s:gb)(k:C1),(bq m).drop g=l->(g=0/\s=C2 m\/0<g/\(bq m)[g-1]?=B s)->G0 m s k->∃t,(l=[]/\t=s\/l.getLast?=B t)/\G0 m t (G4 m (s::l) k)
 |[],g,s,k,_,_,hk=>⟨s,.inl ⟨O,O⟩,hk⟩
 |t::l,g,s,k,hl,hs,hk=>by
  have ZI:g<(bq m).length:=by grind
  rw[B2 ZI]at hl;have ht:(bq m)[g]?=B t:=by grind
  have kQ:=(List.cons.inj hl).2
  have dec:∀u v,u∈ae m->v∈ae m->bH t u v=L->bH s u v=true:=λu v hu hv hb=>by
   rcases hs with⟨_,rfl⟩|⟨hg,h1⟩
   .exact ZG hu hv
   .exact(CY m _ _ (g-1) g s t (by lia) h1 ht).2 u v hb
  have hrb:0<g->rb m g=s:=λhg=>by
   rcases hs with⟨h,_⟩|⟨_,h1⟩
   .omega
   .unfold rb;rw[h1];rfl
  have uQ:G0 m t (k++((s.filter λx=>!bH t x.1 x.2).map λx=>(x,vP m k x.1 x.2))):=λu v hu hv=>by
   rw[aln,hk u v hu hv,ZF (g:=λx=>vP m k x.1 x.2)];cases ZJ:bH s u v with
   |false=>grind
   |true=>
    cases ZK:bH t u v with
    |true=>grind
    |false=>
     rw[aD O,aD (fw.mpr ⟨xH.mp ZJ,by rw[ZK];rfl⟩),au eN]
     have hd:gM m u v=B g:=Y7 ht ZK λc' s' hc e=>by
      rcases hs with⟨h,_⟩|⟨hg,h1⟩
      .omega
      .exact(CY m _ _ c' (g-1) s' s (by lia) e h1).2 u v ZJ
     show(N:Option (Option bo)).or (B (vP m k u v))=_;rw[alm cI iz hu hv hd λhg=>by grind];rfl
  obtain⟨t',h1,h2⟩:=ZH cI iz l (g+1) t _ kQ (.inr ⟨by lia,by grind⟩) uQ;refine⟨t',.inr ?_,h2⟩<;>grind
def alo (cI:(ae m).Nodup)(iz:∀s∈m.states,s.mask<256)(hu:u∈ae m)(hv:v∈ae m)(h:gM m u v=B n):kf (C3 m) u v=B (fH (FF m u v)):=by
 obtain⟨t,h1,h2⟩:=ZH cI iz (bq m) 0 (C2 m) [] O (.inl ⟨O,O⟩) (λu v hu hv=>by rw[ZG hu hv];rfl);unfold C3;rw[h2 u v hu hv];have ck:bq m≠[]:=λz=>by have:=ZC m;rw[z]at this;cases this
 have h1:=h1.resolve_left λz=>ck z.1;rw[FY]at h1;obtain⟨t',h3,_,_⟩:=CZ h;have fM:=cR h3;rw[(z7 h1).mpr ⟨n,h,by lia⟩];rfl
noncomputable def C4 (m:Md)(u v:Int):List Int:=if(eB m u&&eB m v)=aH then[-4]else match gM m u.toNat v.toNat with
 |none=>[0,1]
 |some n=>match fH (FF m u.toNat v.toNat)with
  |some f=>0::0::(n:Int)::Vbtaag.ints (Cy f)
  |none=>[-9]
abbrev gS:=Nat⊕(Nat×Nat)
noncomputable def mf (c:Nat)(empty:List gS):List gS->List gS
 |[]=>empty
 |[x]=>[x]
 |x::y::l=>.inl c::x::mf c empty (y::l)
theorem ZL (c:Nat)(empty:List gS):∀(l:List gS)(x:gS),mf c empty (l++[x])=(l.flatMap λe=>[.inl c,e])++[x]
 |[],x=>rfl
 |[a],x=>rfl
 |a::b::l,x=>by have ih:=ZL c empty (b::l) x;show cC c::a::mf c empty ((b::l)++[x])=_;rw[ih];rfl
noncomputable def mh (m:Md):gS->List Nat
 |.inl c=>[c]
 |.inr p=>enc (FF m (at_ m p.1) (at_ m p.2))
theorem N7 (ho:∀f g,enc (op f g)=c::(enc f++enc g))(he:empty.flatMap (mh m)=enc ef):∀(ps:List (Nat×Nat)),(mf c empty (ps.map pT)).flatMap (mh m)=enc (ke op ef (ps.map λp=>FF m (at_ m p.1) (at_ m p.2)))
 |[]=>he
 |[x]=>by show mh m (.inr x)++[]=_;rw[fV];rfl
 |x::y::l=>by have ih:=N7 (m:=m) ho he (y::l);show([c]++(mh m (.inr x)++(mf c empty ((y::l).map pT)).flatMap (mh m)))=enc (op (FF m (at_ m x.1) (at_ m x.2)) (ke op ef ((y::l).map λp=>FF m (at_ m p.1) (at_ m p.2))));rw[ih,ho];rfl
noncomputable def C5 (m:Md)(i:Nat):List (Nat×Nat):=(ez 4).flatMap λa=>(cn (b9 m a i) (ae m).length).map λx=>(a,x)
noncomputable def kh (m:Md)(r:List Nat)(i j:Nat):Option (Nat×Nat):=(C5 m i).find? λc=>(r.getD c.2 0&&&b9 m c.1 j)==0
def ZM (m:Md)(i:Nat):gL m (at_ m i)=(C5 m i).map λc=>(c.1,at_ m c.2):=by unfold gL C5;show((ez 4).flatMap λa=>(b8 m a (at_ m i)).map λv=>(a,v))=_;rw[vC];congr 1;funext a;rw[xI,gw,gw];rfl
def Ac (h:c∈C5 m i):c.1<4/\c.2<(ae m).length:=by obtain⟨a,ha,h⟩:=qF.mp h;obtain⟨x,hx,rfl⟩:=cx.mp h;exact⟨oG.mp ha,(o9.mp hx).1⟩
def and_zero (hx:x<(ae m).length):((cH m s).getD x 0&&&b9 m a j==0)=(b8 m a (at_ m j)).all λy=>!bH s (at_ m x) y:=by
 rw[xI,Ew,mq,iK,pq];constructor
 .intro h y hy;obtain⟨h1,h2⟩:=o9.mp hy;have:=cb (λn=>n.testBit y) h;simp only[mn,Cf,h2,DE]at this;rw[ou hx h1]at this;grind
 .intro h;refine nF λy=>?_;rw[mn,Cf];cases hb:(b9 m a j).testBit y with
  |false=>simp
  |true=>
   have hy:y<(ae m).length:=by rw[YS]at hb;grind
   have:=h y (o9.mpr ⟨hy,hb⟩);have this:(!bH s (at_ m x) (at_ m y))=true:=this;rw[ou hx hy,DE];rfl'
def alp:vL m s (at_ m i) (at_ m j)=(kh m (cH m s) i j).map λc=>(c.1,at_ m c.2):=by unfold vL kh;rw[ZM,MW];congr 1;refine Ab λc hc=>?_;show((b8 m c.1 (at_ m j)).all λy=>!bH s (at_ m c.2) y)=_;rw[<-and_zero (Ac hc).2]
def alq (eq:Eqv m s):vM m s (at_ m i) (at_ m j)=(kh m (cH m s) j i).map λc=>(c.1,at_ m c.2):=by unfold vM kh;rw[ZM,MW];congr 1;refine Ab λc hc=>?_;show((b8 m c.1 (at_ m i)).all λx=>!bH s x (at_ m c.2))=_;rw[and_zero (Ac hc).2];rw[mq,iK,iK];have sy:∀x y,bH s x y=bH s y x:=λx y=>mq.mpr ⟨eq.symm x y,eq.symm y x⟩;grind
noncomputable def nz (m:Md)(i j:Nat):List gS:=match ny m (at_ m i) (at_ m j)with
 |some a=>if(cF m (at_ m i)).testBit a=L then[.inl (48+a)]else[.inl 126,.inl (48+a)]
 |none=>match kh m (cH m (rb m ((gM m (at_ m i) (at_ m j)).getD 0))) i j with
  |some c=>[.inl 126,.inl (97+c.1),.inl 126]++mf 38 [.inl 84] ((cn (b9 m c.1 j) (ae m).length).map λy=>.inr (c.2,y))
  |none=>match kh m (cH m (rb m ((gM m (at_ m i) (at_ m j)).getD 0))) j i with
   |some c=>[.inl (97+c.1)]++mf 124 [.inl 126,.inl 84] ((cn (b9 m c.1 i) (ae m).length).map λx=>.inr (x,c.2))
   |none=>[]
def N8 (cI:(ae m).Nodup)(iz:∀s∈m.states,s.mask<256)(hi:i<(ae m).length)(hj:j<(ae m).length)(h:gM m (at_ m i) (at_ m j)=B g):(nz m i j).flatMap (mh m)=enc (FF m (at_ m i) (at_ m j)):=by
 have hu:=iW hi;have hv:=iW hj;unfold nz FF;rw[h,oZ];simp only[ff,h,oZ];cases ha:ny m (at_ m i) (at_ m j)with
 |some a=>show vq (mh m) (if(cF m (at_ m i)).testBit a=L then[.inl (48+a)]else[.inl 126,.inl (48+a)])=enc (if(cF m (at_ m i)).testBit a=L then vQ a else G1 (vQ a));split<;>rfl
 |none=>
  cases g with
  |zero=>exact bT ((z8 iz hu hv cI).mp ha) ((z9 hu hv).mp h)
  |succ g=>
   obtain⟨s,h1,h2,h3,h4,eq⟩:=Aa h;rw[h2]
   have sub:∀x y,x∈ae m->y∈ae m->bH s x y=aH->ff m (g+1) x y=FF m x y:=λx y hx hy hb=>by obtain⟨k,hk,hle⟩:=(z7 h1).mp hb;exact ZD cI iz k x y (g+1) hx hy hk (by lia)
   have eO:=alp (m:=m) (s:=s) (i:=i) (j:=j);have eI:=alq (m:=m) (s:=s) eq (i:=i) (j:=j);show vq (mh m) (match kh m (cH m s) i j with|some c=>_|none=>_)=enc (match vL m s (at_ m i) (at_ m j)with|some c=>_|none=>_);cases hl:kh m (cH m s) i j with
   |some c=>
    rw[hl]at eO;rw[eO];have hc:=vO eO;have ow:=(o7 (ma eO)).1;show vq (mh m) ([.inl 126,.inl (97+c.1),.inl 126]++mf 38 [.inl 84] ((cn (b9 m c.1 j) (ae m).length).map λy=>.inr (c.2,y)))=126::(97+c.1)::126::enc (ke .and .top ((b8 m c.1 (at_ m j)).map λy=>ff m (g+1) (at_ m c.2) y));rw[tW];have e1:((cn (b9 m c.1 j) (ae m).length).map λy=>(pT (c.2,y):gS))=((cn (b9 m c.1 j) (ae m).length).map λy=>(c.2,y)).map pT:=by simp
    rw[e1,N7 (op:=.and) (ef:=.top) (λ_ _=>rfl) O,gw]
    have e2:(b8 m c.1 (at_ m j)).map (λy=>ff m (g+1) (at_ m c.2) y)=(cn (b9 m c.1 j) (ae m).length).map ((λp=>FF m (at_ m p.1) (at_ m p.2))∘λy=>(c.2,y)):=by have e3:(b8 m c.1 (at_ m j)).map (λy=>ff m (g+1) (at_ m c.2) y)=(b8 m c.1 (at_ m j)).map (λy=>FF m (at_ m c.2) y):=lj λy hy=>sub _ _ ow (jG.mp hy).1 (by grind);rw[e3,xI,gw];rfl
    rw[e2];rfl
   |none=>
    rw[hl]at eO;rw[eO];show vq (mh m) (match kh m (cH m s) j i with|some c=>_|none=>_)=enc (match vM m s (at_ m i) (at_ m j)with|some c=>_|none=>_);cases w6:kh m (cH m s) j i with
    |some c=>
     rw[w6]at eI;rw[eI];have hc:=vO eI;have ow:=(o7 (ma eI)).1;show vq (mh m) ([.inl (97+c.1)]++mf 124 [.inl 126,.inl 84] ((cn (b9 m c.1 i) (ae m).length).map λx=>.inr (x,c.2)))=(97+c.1)::enc (ke .or (.no .top) ((b8 m c.1 (at_ m i)).map λx=>ff m (g+1) x (at_ m c.2)));rw[tW];have e1:((cn (b9 m c.1 i) (ae m).length).map λx=>(pT (x,c.2):gS))=((cn (b9 m c.1 i) (ae m).length).map λx=>(x,c.2)).map pT:=by simp
     rw[e1,N7 (op:=.or) (ef:=.no .top) (λ_ _=>rfl) O,gw]
     have e2:(b8 m c.1 (at_ m i)).map (λx=>ff m (g+1) x (at_ m c.2))=(cn (b9 m c.1 i) (ae m).length).map ((λp=>FF m (at_ m p.1) (at_ m p.2))∘λx=>(x,c.2)):=by have e3:(b8 m c.1 (at_ m i)).map (λx=>ff m (g+1) x (at_ m c.2))=(b8 m c.1 (at_ m i)).map (λx=>FF m x (at_ m c.2)):=lj λx hx=>sub _ _ (jG.mp hx).1 ow (by grind);rw[e3,xI,gw];rfl
     rw[e2];rfl
    |none=>
     exfalso;rw[w6]at eI
     have hm:¬vG m s (at_ m i) (at_ m j)=true:=λz=>by
      obtain⟨t,h5,h6,_⟩:=CZ h;rw[show(bq m)[g+1]?=B (fE m s)from h4]at h5;cases h5
      rw[me.mpr ⟨h3,z⟩]at h6;cases h6
     refine hm (uc.mpr λa ha=>⟨λx hx=>?_,λy hy=>?_⟩)
     .have BK:(a,x)∈gL m (at_ m i):=qF.mpr ⟨a,ha,cx.mpr ⟨x,hx,O⟩⟩;have:=zR.mp eO (a,x) BK;rfl'
     .have uN:(a,y)∈gL m (at_ m j):=qF.mpr ⟨a,ha,cx.mpr ⟨y,hy,O⟩⟩;have:=zR.mp eI (a,y) uN;rfl'
def Ad (H:Hp)(v:V):gS->Prop
 |.inl c=>v=.int ((c:Nat):Int)
 |.inr p=>∃t,v=.ref t/\H t=B (.tup [.int ((p.1:Nat):Int),.int ((p.2:Nat):Int)])
def Ad.same (s:aw H H'):∀{p:gS},Ad H v p->Ad H' v p
 |.inl _,h=>h
 |.inr _,⟨t,e,h⟩=>⟨t,e,s _ _ h⟩
structure eS (H:Hp)(vs:List V)(ps:List gS):Prop where
 len:vs.length=ps.length
 at_:∀(i:Nat)(v:V)(p:gS),vs[i]?=B v->ps[i]?=B p->Ad H v p
def eS.same (h:eS H vs ps)(s:aw H H'):eS H' vs ps:=⟨h.len,λi v p e1 e2=>(h.at_ i v p e1 e2).same s⟩
def eS.nil:eS H [] []:=⟨O,λi v p e=>by simp at e⟩
def eS.app (h:eS H vs ps)(h':eS H ws qs):eS H (vs++ws) (ps++qs):=⟨by simp[h.len,h'.len],λi v p e1 e2=>by
 rcases nh i vs.length with z|z
 .rw[om z]at e1;rw[om (by rw[<-h.len];exact z)]at e2;exact h.at_ i v p e1 e2
 .rw[nk z]at e1;rw[nk (by rw[<-h.len];exact z),<-h.len]at e2
  exact h'.at_ _ v p e1 e2⟩
def eS.one (h:Ad H v p):eS H [v] [p]:=⟨O,λi v' p' e1 e2=>by grind⟩
def ZN (C:J):Sp:=λvs H Q _=>e_4 λ(v i j:Nat)(m:Md)=>vs=[.ref v,.int (i:Nat),.int (j:Nat)]/\ll C H v m/\fg m/\(∀s∈m.states,s.mask<256)/\i<(ae m).length/\j<(ae m).length/\cF m (at_ m i)≠cF m (at_ m j)/\
 ∀(H':Hp)(S:J)(ws:List V),aw H H'->H S=N->H' S=B (.Z ws)->eS H' ws (nz m i j)->ws.length<=2->Q (.ref S) H'
def ZO (K:aM)(C CL:J):Sp:=λvs H Q _=>e_6 λ(v pr i j:Nat)(m:Md)(r:List Nat)=>vs=[.ref v,.ref pr,.int (i:Nat),.int (j:Nat)]/\ll C H v m/\fg m/\aC K H pr (aA r)/\r.length=(ae m).length/\i<(ae m).length/\j<(ae m).length/\
 (∀H',aw H H'->kh m r i j=N->Q .bB H')/\∀(H':Hp)(p dx:J)(c:Nat×Nat),aw H H'->kh m r i j=B c->H p=N->H' p=B (.ins CL dx (FQ (.int (c.1:Nat)) (.int (c.2:Nat))))->Q (.ref p) H'
def ZP (K:aM):Sp:=λvs H Q _=>e_7 λ(c:Nat)(E' F':J)(es fs:List V)(N9 C6:List gS)=>vs=[.int (c:Nat),.ref E',.ref F']/\H E'=B (.Z es)/\H F'=B (.Z fs)/\eS H es N9/\eS H fs C6/\fs.length<=100/\
 ∀(H':Hp)(S:J)(ws:List V),aw H H'->H' S=B (.Z ws)->eS H' ws (mf c N9 C6)->(ws.length<=200\/ws=es)->Q (.ref S) H'
def ZQ (hn:(ae m).Nodup)(hi:i<(ae m).length):(m.states.map λs=>s.mask)[i]?=B (cF m (at_ m i)):=by
 rw[gD]at hi;have e:=cc hi
 have ea:at_ m i=(m.states[i]).id:=by unfold at_;refine getD_at ?_;unfold ae;grind
 rw[ig,e,ea,xn hn e];rfl
def ZR:bZ ["view","first","second","atom"] ["view","first","second"] (bb Kr):=by left
def alr (TV:n9 K br)(F:bG K "atom_apart" "atom_apart" Kr f fd)(T:Txt K mg)(lC:c_ "places_in" 1 ["some"] (zX)):b_ 2 f fd ["view","first","second"] (ZN br):=by
 rcases F,ZR with⟨v,i,j,m,rfl,⟨dv,aR,aY,A',Pp,b6,Rs,b4⟩,ok,iz,hi,hj,ck,k⟩;have hu:=kX hr;have cI:=ok.nd;have mi:=ZQ cI hi;have mj:=ZQ cI hj
 have lt:∀u∈ae m,cF m u<2^8:=λu hu=>by obtain⟨s,hs,rfl⟩:=cx.mp hu;obtain⟨i,hi⟩:=lX hs;rw[xn cI hi];grind
 have fx:Fits 8 (cF m (at_ m i)^^^cF m (at_ m j)):=λb hb=>by
  rcases nh b 8 with z|z
  .exact z
  .rw[Nat.testBit_xor,CN (jh (lt _ (iW hi)) (zr (by decide) z)),CN (jh (lt _ (iW hj)) (zr (by decide) z))]at hb;grind
 obtain⟨a,ha⟩:∃a,ny m (at_ m i) (at_ m j)=B a:=by
  cases e:ny m (at_ m i) (at_ m j)with
  |none=>exact bT ((z8 iz (iW hi) (iW hj) cI).mp e) ck
  |some a=>simp
 have ha0:(cn (cF m (at_ m i)^^^cF m (at_ m j)) 8)[0]?=B a:=by unfold ny at ha;unfold cn;rw[<-Zh,List.head?_filter,<-ha];refine Ab λb _=>?_;simp
 refine⟨_,(az (bz 3 nd (cG cP (b7 lC hr (by rfl) (af (b5 acN (cG cP (aQ (pv 0) O) (pv 1) (λ_ _=>rfl)) (cG cP (aQ (pv 0) O) (pv 2) (λ_ _=>rfl))) aq)) aZ (λ_ _=>rfl))) (az (bc (bA cy (b5 mF (b5 AS (cG cP (aQ (pv 0) O) (pv 1) (λ_ _=>rfl)) (pv 3)) aZ) aZ (bY _)) (aE (aW (bU (af (b5 ji (aT T.Fz) (pv 3)) aq)))) bC) (aE (aW (bU (af (aT T.w8) (af (b5 ji (aT T.Fz) (pv 3)) aq))))))),?_⟩;refine⟨v,br,dv,_,_,O,b4.obj,TV.cl,TV.f7,FJ _ _ _ _ _ _,aY,_,_,_,O,O,aC.of b4.b0,eP (iq mi),v,br,dv,_,_,O,b4.obj,TV.cl,TV.f7,FJ _ _ _ _ _ _,aY,_,_,_,O,O,aC.of b4.b0,eP (iq mj),_,_,O,O,?_⟩;refine⟨cF m (at_ m i)^^^cF m (at_ m j),8,by rw[<-aiM];rfl,fx,by lia,λH1 S s1 hS hs=>?_⟩;refine⟨S,_,0,_,O,O,aC.of hs,eP (j:=0) (iq ha0),?_⟩;refine⟨v,br,dv,_,_,O,s1 _ _ b4.obj,TV.cl,TV.f7,FJ _ _ _ _ _ _,aY,_,_,_,O,O,aC.of (s1 _ _ b4.b0),eP (iq mi),_,_,O,O,by lia,_,_,O,O,O,_,O,?_⟩;rw[F9];have ea:(48:Int)+((a:Nat):Int)=((48+a:Nat):Int):=by lia
 have ep:nz m i j=if(cF m (at_ m i)).testBit a=L then[.inl (48+a)]else[.inl 126,.inl (48+a)]:=by unfold nz;rw[ha]
 cases hb:(cF m (at_ m i)).testBit a with
 |true=>rw[hb,aD rfl]at ep;refine bO ⟨_,_,O,O,a_1,λR hR=>k _ R _ (aS s1 (s1.free hR)) (s1.free hR) ah ?_ (by simp)⟩;rw[ep];exact .one (cb V.int ea)
 |false=>rw[hb,au eN]at ep;refine bN ⟨_,_,O,O,a_2,λR hR=>k _ R _ (aS s1 (s1.free hR)) (s1.free hR) ah ?_ (by simp)⟩;rw[ep];exact(eS.one (v:=.int 126) (p:=.inl 126) O).app (.one (cb V.int ea))
def ZS:bZ ["view","pairs","here","there","agent","place"] ["view","pairs","here","there"] (bb Ks):=by left
def alu (TV:n9 K br)(F:bG K "without_partner" "without_partner" Ks f fd)(T:Txt K mg)(N':n_ "Lone" kF 1 ["self","agent","place"] (Wu kF))(lC:c_ "places_in" 1 ["some"] (zX)):b_ 3 f fd ["view","pairs","here","there"] (ZO K br kF):=by
 rcases F,ZS with⟨v,pr,i,j,m,r,rfl,⟨dv,aR,aY,A',Pp,b6,Rs,b4⟩,ok,hp,hl,hi,hj,kn,ks⟩;have cz:=ok.cz;have il:=gD m;refine⟨_,(az (eZ dR O (rh (by rfl) T.rH (af (aT T.AGENTS) aq)) (bX (i:=4) nd O (bM O)) (aE (eZ dR O (iY (b7 lC hr (by rfl) (af (cG cP (cG cP (aQ (pv 0) O) (pv 4) (λ_ _=>rfl)) (pv 2) (λ_ _=>rfl)) aq))) (bX (i:=5) nd O (bM O)) (aE (bc (bA cy (b5 mF (cG cP (pv 1) (pv 5) (λ_ _=>rfl)) (cG cP (cG cP (aQ (pv 0) O) (pv 4) (λ_ _=>rfl)) (pv 3) (λ_ _=>rfl))) aZ (bY _)) (aE (aW (rJ N' hr (by rfl) (af (pv 4) (af (pv 5) aq))))) bC))))) (aE (aW sN))),?_⟩;refine⟨4,O,by decide,by decide,?_⟩
 refine jr (n:=4) (λa σ H'=>∃v4 v5,σ=[B (.ref v),B (.ref pr),B (.int (i:Nat)),B (.int (j:Nat)),v4,v5]/\aw H H'/\(((ez 4).take a).flatMap λa=>(cn (b9 m a i) (ae m).length).map λx=>(a,x)).find? (λc=>(r.getD c.2 0&&&b9 m c.1 j)==0)=N)
  ⟨N,N,O,aw.refl _,O⟩ (λa σ H' ha _=>ha) (λσ H' _=>aX _) ?_ ?_
 .rintro a x σ H1 GL ha ⟨v4,v5,rfl,s1,q1⟩ ⟨rfl,rfl⟩;have e0:((0:Int)+(a:Int))=((a:Nat):Int):=by cutsat
  have hR:Rs[a]?=B (Rs[a]'(by rw[b4.four];exact ha)):=cc _;generalize Rs[a]'(by grobner)=R at hR;have vH:=b4.rows a R hR;have xO:Fits (ae m).length (b9 m a i):=by unfold b9 eK;exact vW _ _
  have har:(ez 4)[a]?=B a:=zy ha
  have en:((ez 4).take (a+1)).flatMap (λa=>(cn (b9 m a i) (ae m).length).map λx=>(a,x))=((ez 4).take a).flatMap (λa=>(cn (b9 m a i) (ae m).length).map λx=>(a,x))++(cn (b9 m a i) (ae m).length).map λx=>(a,x):=by rw[take_snoc har,tW];simp
  refine⟨v,br,dv,_,_,O,s1 _ _ b4.obj,TV.cl,TV.tK,u7 _ _ _ _ _ _,Pp,_,_,_,O,O,aC.of (s1 _ _ b4.possible),(by rw[e0];exact eP (rS hR)),R,_,_,_,O,O,aC.of (s1 _ _ vH),eP (iq (oV hi)),?_⟩;refine⟨b9 m a i,(ae m).length,O,xO,by cutsat,λH2 S s2 hS hs=>?_⟩;have dn:=s1.trans s2;refine⟨S,O,⟨_,aC.of hs⟩,mE (K:=K) (a:=S) (xs:=aA (cn (b9 m a i) (ae m).length)) (λb σ H'=>∃v5,σ=[B (.ref v),B (.ref pr),B (.int (i:Nat)),B (.int (j:Nat)),B (.int (0+(a:Nat))),v5]/\H'=H2/\(((cn (b9 m a i) (ae m).length).take b).map λx=>(a,x)).find? (λc=>(r.getD c.2 0&&&b9 m c.1 j)==0)=N) ⟨v5,O,O,O⟩ (λb σ H' _ ⟨_,_,e,_⟩=>by rw[e];exact aC.of hs) ?_ ?_⟩
  .rintro b x σ H3 hb ⟨v5,rfl,rfl,q3⟩;obtain⟨p,xP,rfl⟩:=jB hb;have yX:=o9.mp (gG xP);have NR:r[p]?=B (r.getD p 0):=by grobner
   have en2:((cn (b9 m a i) (ae m).length).take (b+1)).map (λx=>(a,x))=((cn (b9 m a i) (ae m).length).take b).map (λx=>(a,x))++[(a,p)]:=by rw[take_snoc xP,f9];rfl
   refine⟨pr,_,_,_,O,O,dn.seq hp,eP (iq NR),v,br,dv,_,_,O,dn _ _ b4.obj,TV.cl,TV.tK,u7 _ _ _ _ _ _,Pp,_,_,_,O,O,aC.of (dn _ _ b4.possible),(by rw[e0];exact eP (rS hR)),R,_,_,_,O,O,aC.of (dn _ _ vH),eP (iq (oV hj)),_,_,O,O,O,_,O,?_⟩
   have eb:decide (V.int (sS ((r.getD p 0:Nat):Int) ((eK (ae m) m.links (λl=>l.a==a) j:Nat):Int))=V.int 0)=((r.getD p 0&&&b9 m a j)==0):=by rw[tX];show decide (V.int ((r.getD p 0&&&b9 m a j:Nat):Int)=V.int 0)=_;all_goals grobner
   rw[eb];cases hz:(r.getD p 0&&&b9 m a j)==0 with
   |false=>refine bN ⟨_,O,O,?_⟩;rw[en2,rW,q3,zP];exact xC (p:=λc:Nat×Nat=>(r.getD c.2 0&&&b9 m c.1 j)==0) (by grobner)
   |true=>
    have xU:kh m r i j=B (a,p):=by
     unfold kh C5
     have e1:(ez 4).flatMap (λa=>(cn (b9 m a i) (ae m).length).map λx=>(a,x))=((ez 4).take (a+1)).flatMap (λa=>(cn (b9 m a i) (ae m).length).map λx=>(a,x))++((ez 4).drop (a+1)).flatMap (λa=>(cn (b9 m a i) (ae m).length).map λx=>(a,x)):=by rw[<-tW,zk]
     have e2:(cn (b9 m a i) (ae m).length).map (λx=>(a,x))=((cn (b9 m a i) (ae m).length).take (b+1)).map (λx=>(a,x))++((cn (b9 m a i) (ae m).length).drop (b+1)).map (λx=>(a,x)):=by simp
     grind+splitIte
    refine bO (λo dx ZT eQ ck=>?_);refine⟨o,dx,_,_,O,ah,⟨O,?_⟩⟩;refine ks _ o dx (a,p) (zo dn ZT eQ) xU (dn.free ZT) ?_;rw[ah,e0]
  .rintro σ H3 ⟨v5,rfl,rfl,q3⟩;rw[bP,eE]at q3;exact⟨_,_,O,dn,by grobner⟩
 .rintro σ H1 ⟨v4,v5,rfl,s1,q1⟩;rw[yB (by simp)]at q1;exact kn _ s1 q1
def ZU:bZ ["sign","empty","found","pieces","each"] ["sign","empty","found"] (bb Kt):=by left
def alx (F:bG K "joined" "joined" Kt f fd)(T:Txt K mg):b_ 1 f fd ["sign","empty","found"] (ZP K):=by
 rcases F,ZU with⟨c,E',F',es,fs,N9,C6,rfl,he,hf,pe,pf,hl,k⟩;refine⟨_,(az (bc (uD (yp (pv 2) (λ_=>rfl))) (aE (aW (pv 1))) bC) (az (bz 3 nd (bU aq)) (az (eZ dR O (iY (IV Ja (pv 2) adQ (A6 (uJ AU aZ)))) (bX (i:=4) nd O (bM O)) (aE (dF (e9 dJ rB tT sZ (pv 3) (af (bU (af (pv 0) (af (pv 4) aq))) aq))))) (aE (aW (b5 rD (pv 3) (bU (af (cG cP (pv 2) (uJ AU aZ) (λ_ _=>rfl)) aq)))))))),?_⟩;refine⟨_,.inl ⟨_,aC.of hf,O⟩,?_⟩;rcases ZV fs with z|⟨fA,x,z⟩
 .subst z;have:C6=[]:=E7 pf.len.symm;subst this;exact bO (k _ E' es (aw.refl _) he pe (.inr O))
 .rw[ZW]at z;subst z;rcases ZV C6 with z|⟨G5,y,z⟩
  .subst z;have:=pf.len;simp at this
  .rw[ZW]at z;subst z;have hlen:fA.length=G5.length:=by have:=pf.len;simpa using this
   have ee:(fA++[x]).isEmpty=false:=by simp
   rw[ee];refine bN ⟨by simp,λD hD=>?_⟩;have s1:aw H (M H D (.Z [])):=bp hD
   have CM:oP (fA++[x]) N (B (-1))=fA:=by
    have h2:HT.jQ (fA++[x]).length (fA++[x]).length (B (-1))=fA.length:=by unfold HT.jQ;grind
    unfold oP;rw[h2,HT.adN,F2,BC,ZX]
   refine⟨_,O,_,O,F',_,O,aC.of (s1 _ _ hf),λG hG=>?_⟩;rw[CM];have s2:aw H (M (M H D (.Z [])) G (.Z fA)):=aS s1 (s1.free hG);have DG:D≠G:=aK ah hG;have aly:fA.length<=99:=by grind
   have sG:aw (del (M (M H D (.Z [])) G (.Z fA)) D) (M (M H D (.Z [])) G (.Z fA)):=λb o e=>by
    by_cases z:b=D
    .rw[z,rQ]at e;cases e
    .rw[kD z]at e;exact e
   have sB:aw H (del (M (M H D (.Z [])) G (.Z fA)) D):=Ca s2 hD;have gB:del (M (M H D (.Z [])) G (.Z fA)) D G=B (.Z fA):=(kD (aP DG)).trans ah;have zB:del (M (M H D (.Z [])) G (.Z fA)) D D=none:=rQ;have d2:M (M H D (.Z [])) G (.Z fA) D=B (.Z []):=(aa DG).trans ah;generalize del (M (M H D (.Z [])) G (.Z fA)) D=HB at sG sB gB zB;refine⟨G,O,⟨_,aC.of ah⟩,mE (K:=K) (a:=G) (xs:=fA) (λi σ H'=>∃v4,σ=[B (.int (c:Nat)),B (.ref E'),B (.ref F'),B (.ref D),v4]/\aw HB H'/\H' D=B (.Z ((fA.take i).flatMap λe=>[.int (c:Nat),e]))) ⟨N,O,sG,d2⟩ (λi σ H' _ ⟨_,_,s,_⟩=>aC.of (s _ _ gB)) ?_ ?_⟩
   .rintro i e σ H3 hi ⟨v4,rfl,s3,d3⟩;have dA:=cR hi
    have fl:((fA.take i).flatMap λe=>[V.int (c:Nat),e]).length<=2*i:=by
     rw[NQ];have:((fA.take i).map λe=>[V.int (c:Nat),e].length)=iR (fA.take i).length 2:=by rw[<-ZY];rfl
     rw[this,ZZ,eF];lia
    refine⟨.inl ⟨O,_,aC.of d3⟩,a_2,λq hq=>?_⟩;have Dq:D≠q:=aK d3 hq;refine⟨D,q,_,_,O,O,(aa Dq).trans d3,ah,jD (show _+2<=_ by lia),_,O,aS (aS s3 (s3.free hq)) zB,?_⟩;rw[ah,take_snoc hi,tW];simp
   .rintro σ H3 ⟨v4,rfl,s3,d3⟩;rw[eE]at d3;have s4:=sB.trans s3
    have fl:(fA.flatMap λe=>[V.int (c:Nat),e]).length<=2*fA.length:=by
     rw[NQ];have:(fA.map λe=>[V.int (c:Nat),e].length)=iR fA.length 2:=by rw[<-ZY];rfl
     rw[this,ZZ];lia
    refine⟨_,O,F',_,_,_,O,O,aC.of (s4 _ _ hf),Eo _ _,a_1,λq hq=>?_⟩;have Dq:D≠q:=aK d3 hq;have s5:aw H (M H3 q (.Z [x])):=aS s4 (s4.free hq);refine⟨D,q,_,_,O,O,(aa Dq).trans d3,ah,jD (show _+1<=_ by lia),λR hR=>?_⟩;refine k _ R _ (aS s5 (s5.free hR)) ah ?_ (.inl (by grind));rw[ZL];have G6:eS (M (M H3 q (.Z [x])) R (.Z ((fA.flatMap λe=>[V.int (c:Nat),e])++[x]))) (fA++[x]) (G5++[y]):=pf.same (aS s5 (s5.free hR));generalize M (M H3 q (.Z [x])) R (.Z ((fA.flatMap λe=>[V.int (c:Nat),e])++[x]))=H6 at G6;have px:Ad H6 x y:=G6.at_ fA.length x y (by simp) (by rw[hlen];simp);have pf1:eS H6 fA G5:=⟨hlen,λi v p e1 e2=>G6.at_ i v p (by grind) (by grind)⟩;refine eS.app ?_ (.one px);clear G6 pf px CM ee fl d3 hf hl aly gB sG s3 k
    have key:∀(a:List V)(b:List gS),eS H6 a b->eS H6 (a.flatMap λe=>[V.int (c:Nat),e]) (b.flatMap λe=>[.inl c,e]):=by
     intro a;induction a with
     |nil=>intro b h;have:b=[]:=E7 h.len.symm;grind
     |cons v a ih=>
      intro b h;cases b with
      |nil=>have:=h.len;simp at this
      |cons w b=>rw[kE,kE];refine eS.app ((eS.one (v:=.int (c:Nat)) (p:=.inl c) O).app (.one (h.at_ 0 v w O O))) (ih b ⟨by have:=h.len;grind,λi v' p' e1 e2=>h.at_ (i+1) v' p' e1 e2⟩)
    exact key fA G5 pf1
def Z0 (C:J):Sp:=λvs H Q _=>e_7 λ(v R i j g:Nat)(rs:List J)(m:Md)=>vs=[.ref v,.ref R,.int (i:Nat),.int (j:Nat)]/\ll C H v m/\fg m/\(∀s∈m.states,s.mask<256)/\xK m H R rs (bq m)/\i<(ae m).length/\j<(ae m).length/\gM m (at_ m i) (at_ m j)=B g/\
 ∀(H':Hp)(S:J)(ws:List V),aw H H'->H S=N->H' S=B (.Z ws)->eS H' ws (nz m i j)->ws.length<=210->Q (.ref S) H'
def G7 (b n:Nat):(cn b n).length<=n:=by unfold cn;grind
def Z1:bZ ["view","rounds","first","second","gone","pairs","lone","others","found","other"] ["view","rounds","first","second"] (bb BM):=by left
def alA (TV:n9 K br)(TL:LI K kF)(F:bG K "pieces_apart" "pieces_apart" BM f fd)(T:Txt K mg)(Oa:c_ "atom_apart" 2 ["view","first","second"] (ZN br))(G8:c_ "joined_likeness" 1 ["sign","empty","found"] (ZP K))(lC:c_ "places_in" 1 ["some"] (zX))(Ae:c_ "round_gone" 1 ["rounds","first","second"] (NO K))(G9:c_ "without_partner" 3 ["view","pairs","here","there"] (ZO K br kF)):b_ 4 f fd ["view","rounds","first","second"] (Z0 br):=by
 rcases F,Z1 with⟨v,R,i,j,g,rs,m,rfl,vw,ok,iz,ra,hi,hj,hd,k⟩;have cI:=ok.nd;have cz:=ok.cz;have il:=gD m;refine⟨_,(az (bz 4 nd (b7 Ae hr (by rfl) (af (pv 1) (af (pv 2) (af (pv 3) aq))))) (az (bc (bA cy (pv 4) aZ (bY _)) (aE (aW (b7 Oa hr (by rfl) (af (pv 0) (af (pv 2) (af (pv 3) aq)))))) bC) (az (bz 5 nd (cG cP (pv 1) (b5 AR (pv 4) aZ) (λ_ _=>rfl))) (az (rG 6 nd (b7 G9 hr (by rfl) (af (pv 0) (af (pv 5) (af (pv 2) (af (pv 3) aq)))))) (az (bc (iX (acf (pv 6))) (az (bz 7 nd (b7 lC hr (by rfl) (af (cG cP (cG cP (aQ (pv 0) O) (aQ (pv 6) O) (λ_ _=>rfl)) (pv 3) (λ_ _=>rfl)) aq))) (az (ED (i:=8) O nd O O (EF O O O O) (iY (pv 7)) (jS (own:=[("other",9)]) (by show jn ["view","rounds","first","second","gone","pairs","lone","others","found","other"] (bb BM) _ _=L;decide+kernel)) (λ_ _ _ _ _=>(bX (i:=9) nd O (bM O))) (λ_ _ _ _ _=>nU) (λ_ _ _ _ _=>(iZ (af (zl (K:=K) O (pv 6) O) (af (pv 9) aq))))) (aE (aW (b5 rD (bU (af (aT T.w8) (af (b5 ji (aT T.FA) (aQ (pv 6) O)) (af (aT T.w8) aq)))) (b7 G8 hr (by rfl) (af (aT T.y6) (af (bU (af (aT T.y4) aq)) (af (pv 8) aq))))))))) bC) (az (rG 6 nd (b7 G9 hr (by rfl) (af (pv 0) (af (pv 5) (af (pv 3) (af (pv 2) aq)))))) (az (bz 7 nd (b7 lC hr (by rfl) (af (cG cP (cG cP (aQ (pv 0) O) (aQ (pv 6) O) (λ_ _=>rfl)) (pv 2) (λ_ _=>rfl)) aq))) (az (ED (i:=8) O nd O O (EF O O O O) (iY (pv 7)) (jS (own:=[("other",9)]) (by show jn ["view","rounds","first","second","gone","pairs","lone","others","found","other"] (bb BM) _ _=L;decide+kernel)) (λ_ _ _ _ _=>(bX (i:=9) nd O (bM O))) (λ_ _ _ _ _=>nU) (λ_ _ _ _ _=>(iZ (af (pv 9) (af (zl (K:=K) O (pv 6) O) aq))))) (aE (aW (b5 rD (bU (af (b5 ji (aT T.FA) (aQ (pv 6) O)) aq)) (b7 G8 hr (by rfl) (af (aT T.OR) (af (bU (af (aT T.w8) (af (aT T.y4) aq))) (af (pv 8) aq))))))))))))))),?_⟩;refine⟨R,i,j,rs,m,_,O,ra,hi,hj,λH1 s1=>?_⟩;rw[show kL (bq m) (at_ m i) (at_ m j)=B g from hd];refine⟨O,_,O,?_⟩;cases g with
 |zero=>refine dC O ⟨v,i,j,m,O,vw.same s1,ok,iz,hi,hj,(z9 (iW hi) (iW hj)).mp hd,λH2 S ws s2 hS hs hp hl=>k H2 S ws (s1.trans s2) (s1.free hS) hs hp (by cutsat)⟩
 |succ g=>
  obtain⟨st,h1,h2,h3,h4,eq⟩:=Aa hd
  have alB:cF m (at_ m i)=cF m (at_ m j):=Classical.byContradiction λz=>by rw[(z9 (iW hi) (iW hj)).mpr z]at hd;cases hd
  have ha:ny m (at_ m i) (at_ m j)=none:=(z8 iz (iW hi) (iW hj) cI).mpr alB;have Ob:rs[g]?=B (rs[g]'(by rw[ra.len];grobner)):=cc _;have Oc:=ra.at_ g _ _ Ob h1;generalize rs[g]'(by grobner)=rg at Ob Oc
  have gC:j4 (refs rs) (((g+1:Nat):Int)-1)=B (.ref rg):=by rw[show((g+1:Nat):Int)-1=((g:Nat):Int)by cutsat];exact eP (rS Ob)
  have ep:nz m i j=match kh m (cH m st) i j with
    |some c=>[.inl 126,.inl (97+c.1),.inl 126]++mf 38 [.inl 84] ((cn (b9 m c.1 j) (ae m).length).map λy=>.inr (c.2,y))
    |none=>match kh m (cH m st) j i with
     |some c=>[.inl (97+c.1)]++mf 124 [.inl 126,.inl 84] ((cn (b9 m c.1 i) (ae m).length).map λx=>.inr (x,c.2))
     |none=>[]:=by unfold nz;rw[ha,hd,oZ,h2];all_goals rfl
  refine cX (by cutsat) ⟨_,_,O,O,R,_,_,_,O,O,aC.of (s1 _ _ ra.Z),gC,?_⟩;refine⟨v,rg,i,j,m,cH m st,O,vw.same s1,ok,aC.of (s1 _ _ Oc),zW m st,hi,hj,?_,?_⟩
  .intro H2 s2 j9;rw[j9]at ep;have dn:=s1.trans s2;refine⟨_,O,?_⟩;refine bN ⟨v,rg,j,i,m,cH m st,O,vw.same dn,ok,aC.of (dn _ _ Oc),zW m st,hj,hi,?_,?_⟩
   .intro H3 s3 alC;exfalso;rw[alC]at ep;have:=N8 cI iz hi hj hd;rw[ep]at this;have h5:=cb lO this;rw[kj]at h5;generalize FF m (at_ m i) (at_ m j)=fo at h5;have h6:0=fo.size:=h5;cases fo<;>simp[jt]at h6<;>cutsat
   .intro H3 lo dx c s3 qJ Tr xU;rw[qJ]at ep;have iV:=dn.trans s3;obtain⟨c1,c2⟩:=c;have ud:=Ac (ma qJ);obtain⟨dv,aR,aY,A',Pp,b6,Rs,b4⟩:=vw.same iV;have hR:Rs[c1]?=B (Rs[c1]'(by rw[b4.four];exact ud.1)):=cc _;generalize Rs[c1]'(by grobner)=Rw at hR;have vH:=b4.rows c1 Rw hR;have xO:Fits (ae m).length (b9 m c1 i):=by unfold b9 eK;exact vW _ _
    refine⟨v,br,dv,_,_,O,b4.obj,TV.cl,TV.tK,u7 _ _ _ _ _ _,lo,kF,dx,_,_,O,xU,TL.cl,TL.BU,FR _ _,Pp,_,_,_,O,O,aC.of b4.possible,eP (rS hR),Rw,_,_,_,O,O,aC.of vH,eP (iq (oV hi)),?_⟩;refine⟨b9 m c1 i,(ae m).length,O,xO,by cutsat,λH4 S s4 hS hs=>?_⟩;refine⟨S,O,⟨_,aC.of hs⟩,λG hG=>?_⟩;have C7:=s4 _ _ xU;refine uT (K:=K) (a:=S) (xs:=aA (cn (b9 m c1 i) (ae m).length)) (λb H'=>∃ws,aw H4 H'/\H' G=B (.Z ws)/\eS H' ws (((cn (b9 m c1 i) (ae m).length).take b).map λx=>.inr (x,c2))) ⟨[],bp hG,ah,.nil⟩ (λb H' _ ⟨_,z,_⟩=>aC.of (z _ _ hs)) ?_ ?_
    .rintro b y H5 hb ⟨ws,s5,g5,p5⟩;obtain⟨n,hn,rfl⟩:=jB hb;have hbl:=cR hn;have pl:=G7 (b9 m c1 i) (ae m).length;refine⟨O,?_⟩;refine oa ?_;refine⟨lo,kF,dx,_,_,O,s5 _ _ C7,TL.cl,TL.LJ,Ve _ _,a_2,λt ht=>?_⟩;have Gt:G≠t:=aK g5 ht;have s6:aw H5 (M H5 t (.tup [.int (n:Nat),.int (c2:Nat)])):=bp ht;have tl:ws.length<=16:=by rw[p5.len,dj,eF];cutsat
     refine⟨_,(aa Gt).trans g5,cY (by cutsat),ws++[.ref t],aS (s5.trans s6) hG,ah,?_⟩;rw[take_snoc hn,f9];refine eS.app ⟨p5.len,λi' v' p' e1 e2=>?_⟩ (.one ⟨t,O,(aa (aP Gt)).trans ah⟩);have h':=p5.at_ i' v' p' e1 e2;cases p' with
     |inl c=>exact h'
     |inr pr=>obtain⟨t',e',h'⟩:=h';exact⟨t',e',(aa (bE h' g5 nofun)).trans (s6 _ _ h')⟩
    .rintro H5 ⟨ws,s5,g5,p5⟩;rw[bP,eE]at p5;have Od:=iV.trans (s4.trans s5);have Oe:=s5 _ _ C7;have wl:ws.length<=100:=by rw[p5.len,dj];have:=G7 (b9 m c1 i) (ae m).length;cutsat
     refine⟨lo,kF,dx,_,_,O,Oe,TL.cl,TL.BU,FR _ _,_,_,O,O,a_1,λdi hB=>?_⟩;have s6:aw H5 (M H5 di (.Z [.int (97+(c1:Nat))])):=bp hB;refine⟨a_2,λEm C8=>?_⟩;have s7:aw H5 (M (M H5 di (.Z [.int (97+(c1:Nat))])) Em (.Z [.int 126,.int 84])):=aS s6 (s6.free C8);refine⟨124,Em,G,_,ws,[.inl 126,.inl 84],_,O,ah,s7 _ _ g5,(eS.one (v:=.int 126) (p:=.inl 126) O).app (.one (v:=.int 84) (p:=.inl 84) O),p5.same s7,wl,λH6 S6 Of s8 Og p6 l6=>?_⟩;have l6':Of.length<=200:=by rcases l6 with z|z;exact z;rw[z];simp
     have Oh:M (M H5 di (.Z [.int (97+(c1:Nat))])) Em (.Z [.int 126,.int 84]) di=B (.Z [.int (97+(c1:Nat))]):=(aa (aK ah C8)).trans ah;refine⟨di,S6,_,_,O,O,s8 _ _ Oh,Og,jD (show 1+_<=_ by cutsat),λR6 oq=>?_⟩;have xV:=Od.trans (s7.trans s8);refine k _ R6 _ (aS xV (xV.free oq)) (xV.free oq) ah ?_ (by grobner);rw[ep];exact eS.app (.one (p:=.inl (97+c1)) (show V.int (97+(c1:Int))=V.int ((97+c1:Nat):Int)from cb V.int (by cutsat))) (p6.same (bp oq))
  .intro H2 lo dx c s2 qJ Tr xU;rw[qJ]at ep;have iV:=s1.trans s2;obtain⟨c1,c2⟩:=c;have ud:=Ac (ma qJ);obtain⟨dv,aR,aY,A',Pp,b6,Rs,b4⟩:=vw.same iV;have hR:Rs[c1]?=B (Rs[c1]'(by rw[b4.four];exact ud.1)):=cc _;generalize Rs[c1]'(by grobner)=Rw at hR;have vH:=b4.rows c1 Rw hR;have xO:Fits (ae m).length (b9 m c1 j):=by unfold b9 eK;exact vW _ _
   refine⟨_,O,?_⟩;refine bO ⟨v,br,dv,_,_,O,b4.obj,TV.cl,TV.tK,u7 _ _ _ _ _ _,lo,kF,dx,_,_,O,xU,TL.cl,TL.BU,FR _ _,Pp,_,_,_,O,O,aC.of b4.possible,eP (rS hR),Rw,_,_,_,O,O,aC.of vH,eP (iq (oV hj)),?_⟩;refine⟨b9 m c1 j,(ae m).length,O,xO,by cutsat,λH4 S s4 hS hs=>?_⟩;refine⟨S,O,⟨_,aC.of hs⟩,λG hG=>?_⟩;have C7:=s4 _ _ xU;refine uT (K:=K) (a:=S) (xs:=aA (cn (b9 m c1 j) (ae m).length)) (λb H'=>∃ws,aw H4 H'/\H' G=B (.Z ws)/\eS H' ws (((cn (b9 m c1 j) (ae m).length).take b).map λy=>.inr (c2,y))) ⟨[],bp hG,ah,.nil⟩ (λb H' _ ⟨_,z,_⟩=>aC.of (z _ _ hs)) ?_ ?_
   .rintro b y H5 hb ⟨ws,s5,g5,p5⟩;obtain⟨n,hn,rfl⟩:=jB hb;have hbl:=cR hn;have pl:=G7 (b9 m c1 j) (ae m).length;refine⟨O,?_⟩;refine oa ?_;refine⟨lo,kF,dx,_,_,O,s5 _ _ C7,TL.cl,TL.LJ,Ve _ _,a_2,λt ht=>?_⟩;have Gt:G≠t:=aK g5 ht;have s6:aw H5 (M H5 t (.tup [.int (c2:Nat),.int (n:Nat)])):=bp ht;have tl:ws.length<=16:=by rw[p5.len,dj,eF];cutsat
    refine⟨_,(aa Gt).trans g5,cY (by cutsat),ws++[.ref t],aS (s5.trans s6) hG,ah,?_⟩;rw[take_snoc hn,f9];refine eS.app ⟨p5.len,λi' v' p' e1 e2=>?_⟩ (.one ⟨t,O,(aa (aP Gt)).trans ah⟩);have h':=p5.at_ i' v' p' e1 e2;cases p' with
    |inl c=>exact h'
    |inr pr=>obtain⟨t',e',h'⟩:=h';exact⟨t',e',(aa (bE h' g5 nofun)).trans (s6 _ _ h')⟩
   .rintro H5 ⟨ws,s5,g5,p5⟩;rw[bP,eE]at p5;have Od:=iV.trans (s4.trans s5);have Oe:=s5 _ _ C7;have wl:ws.length<=100:=by rw[p5.len,dj];have:=G7 (b9 m c1 j) (ae m).length;cutsat
    refine⟨lo,kF,dx,_,_,O,Oe,TL.cl,TL.BU,FR _ _,_,_,O,O,a_3,λdi hB=>?_⟩;have s6:aw H5 (M H5 di (.Z [.int 126,.int (97+(c1:Nat)),.int 126])):=bp hB;refine⟨a_1,λEm C8=>?_⟩;have s7:aw H5 (M (M H5 di (.Z [.int 126,.int (97+(c1:Nat)),.int 126])) Em (.Z [.int 84])):=aS s6 (s6.free C8);refine⟨38,Em,G,_,ws,[.inl 84],_,O,ah,s7 _ _ g5,.one (v:=.int 84) (p:=.inl 84) O,p5.same s7,wl,λH6 S6 Of s8 Og p6 l6=>?_⟩;have l6':Of.length<=200:=by rcases l6 with z|z;exact z;rw[z];simp
    have Oh:M (M H5 di (.Z [.int 126,.int (97+(c1:Nat)),.int 126])) Em (.Z [.int 84]) di=B (.Z [.int 126,.int (97+(c1:Nat)),.int 126]):=(aa (aK ah C8)).trans ah;refine⟨di,S6,_,_,O,O,s8 _ _ Oh,Og,jD (show 3+_<=_ by cutsat),λR6 oq=>?_⟩;have xV:=Od.trans (s7.trans s8);refine k _ R6 _ (aS xV (xV.free oq)) (xV.free oq) ah ?_ (by grobner);rw[ep];exact eS.app ((eS.one (v:=.int 126) (p:=.inl 126) O).app ((eS.one (p:=.inl (97+c1)) (show V.int (97+(c1:Int))=V.int ((97+c1:Nat):Int)from cb V.int (by cutsat))).app (.one (v:=.int 126) (p:=.inl 126) O))) (p6.same (bp oq))
def vR (m:Md):gS->Prop
 |.inl _=>True
 |.inr p=>p.1<(ae m).length/\p.2<(ae m).length/\∃g,gM m (at_ m p.1) (at_ m p.2)=B g
noncomputable def Z2 (m:Md):gS->Nat
 |.inl _=>1
 |.inr p=>2*(enc (FF m (at_ m p.1) (at_ m p.2))).length
noncomputable def qK (m:Md)(ps:List gS):Nat:=(ps.map (Z2 m)).sum
def xW (m:Md)(p:gS)(ps:List gS):qK m (p::ps)=Z2 m p+qK m ps:=rfl
theorem Z3 (m:Md):∀(a b:List gS),qK m (a++b)=qK m a+qK m b
 |[],b=>by simp[qK]
 |x::a,b=>by rw[yI,xW,xW,Z3 m a b];lia
theorem Oi (m:Md):∀ps:List gS,qK m ps<=2*(ps.flatMap (mh m)).length
 |[]=>aX _
 |.inl c::ps=>by have:=Oi m ps;rw[xW,kE,cK];show 1+_<=2*(1+_);lia
 |.inr p::ps=>by have:=Oi m ps;rw[xW,kE,cK];show 2*_+_<=2*(_+_);show 2*(enc (FF m (at_ m p.1) (at_ m p.2))).length+_<=2*((enc (FF m (at_ m p.1) (at_ m p.2))).length+_);lia
theorem Oj (he:∀p∈empty,vR m p):∀{l:List gS},(∀p∈l,vR m p)->∀p∈mf c empty l,vR m p
 |[],_,p,hp=>he p hp
 |[x],h,p,hp=>h p hp
 |x::y::l,h,p,hp=>by
  rcases dz.mp hp with z|z
  .rw[z];trivial
  .rcases dz.mp z with z|z
   .grind
   .exact Oj he (λq hq=>h q (eD _ hq)) p z
def alF (cI:(ae m).Nodup)(iz:∀s∈m.states,s.mask<256)(hi:i<(ae m).length)(hj:j<(ae m).length)(h:gM m (at_ m i) (at_ m j)=B g):(∃c l,nz m i j=.inl c::l)/\∀p∈nz m i j,vR m p:=by
 have C9:=N8 cI iz hi hj h;unfold nz at C9 ⊢;cases ha:ny m (at_ m i) (at_ m j)with
 |some a=>
  show(∃c l,(if(cF m (at_ m i)).testBit a=L then[cC (48+a)]else[cC 126,cC (48+a)]:List gS)=.inl c::l)/\∀p∈(if(cF m (at_ m i)).testBit a=L then[cC (48+a)]else[cC 126,cC (48+a)]:List gS),vR m p;split
  .exact⟨⟨_,_,O⟩,λp hp=>by
    have:p=.inl (48+a):=by simpa using hp
    rw[this];trivial⟩
  .refine⟨⟨_,_,O⟩,λp hp=>?_⟩;have:p=.inl 126\/p=.inl (48+a):=by simpa using hp
   rcases this with z|z<;>rw[z]<;>trivial
 |none=>
  cases g with
  |zero=>exact bT ((z8 iz (iW hi) (iW hj) cI).mp ha) ((z9 (iW hi) (iW hj)).mp h)
  |succ g=>
   obtain⟨s,h1,h2,h3,h4,eq⟩:=Aa h;rw[ha,h,oZ,h2]at C9;rw[h,oZ,h2]
   have good:∀x y,x<(ae m).length->y<(ae m).length->bH s (at_ m x) (at_ m y)=aH->vR m (.inr (x,y)):=λx y hx hy hb=>by obtain⟨k,hk,_⟩:=(z7 h1).mp hb;exact⟨hx,hy,k,hk⟩
   cases hl:kh m (cH m s) i j with
   |some c=>
    have ud:=Ac (ma hl);have hz:=vO hl;rw[and_zero ud.2,iK]at hz;refine⟨⟨_,_,O⟩,λp hp=>?_⟩;rcases eX.mp (show p∈[cC 126,cC (97+c.1),cC 126]++mf 38 [.inl 84] ((cn (b9 m c.1 j) (ae m).length).map λy=>.inr (c.2,y))from hp)with z|z
    .have:p=.inl 126\/p=.inl (97+c.1)\/p=.inl 126:=by simpa using z
     rcases this with z|z|z<;>rw[z]<;>trivial
    .refine Oj (λq hq=>by
      have:q=.inl 84:=by simpa using hq
      rw[this];trivial) (λq hq=>?_) p z
     obtain⟨y,hy,rfl⟩:=cx.mp hq;have:=hz (at_ m y) (by rw[xI];exact cx.mpr ⟨y,hy,O⟩);exact good _ _ ud.2 (o9.mp hy).1 (by simpa using this)
   |none=>
    rw[hl]at C9;cases w6:kh m (cH m s) j i with
    |some c=>
     have ud:=Ac (ma w6);have hz:=vO w6;rw[and_zero ud.2,iK]at hz;refine⟨⟨_,_,O⟩,λp hp=>?_⟩;rcases eX.mp (show p∈[cC (97+c.1)]++mf 124 [.inl 126,.inl 84] ((cn (b9 m c.1 i) (ae m).length).map λx=>.inr (x,c.2))from hp)with z|z
     .have:p=.inl (97+c.1):=by simpa using z
      rw[this];trivial
     .refine Oj (λq hq=>by
       have:q=.inl 126\/q=.inl 84:=by simpa using hq
       rcases this with z|z<;>rw[z]<;>trivial) (λq hq=>?_) p z
      obtain⟨x,hx,rfl⟩:=cx.mp hq;have:=hz (at_ m x) (by rw[xI];exact cx.mpr ⟨x,hx,O⟩);have hb:bH s (at_ m c.2) (at_ m x)=false:=by simpa using this
      refine good _ _ (o9.mp hx).1 ud.2 ?_;cases hh:bH s (at_ m x) (at_ m c.2)with
      |false=>rfl
      |true=>rw[eq.symm _ _ hh]at hb;cases hb
    |none=>rw[w6]at C9;exfalso;have h5:=cb lO C9;rw[kj]at h5;generalize FF m (at_ m i) (at_ m j)=fo at h5;have h6:0=fo.size:=h5;cases fo<;>simp[jt]at h6<;>lia
def Z5 (C:J):Sp:=λvs H Q _=>e_7 λ(v R i j g:Nat)(rs:List J)(m:Md)=>vs=[.ref v,.ref R,.int (i:Nat),.int (j:Nat)]/\ll C H v m/\fg m/\(∀s∈m.states,s.mask<256)/\xK m H R rs (bq m)/\i<(ae m).length/\j<(ae m).length/\gM m (at_ m i) (at_ m j)=B g/\
 ∀(H':Hp)(x:V),aw H H'->vf H' x ((fH (FF m (at_ m i) (at_ m j))).map enc)->Q x H'
def Z6:bZ ["view","rounds","first","second","signs","wanted","piece"] ["view","rounds","first","second"] (bb Kq):=by left
def alG (F:bG K "parting" "parting" Kq f fd)(T:Txt K mg)(Ol:c_ "pieces_apart" 4 ["view","rounds","first","second"] (Z0 br)):b_ 5 f fd ["view","rounds","first","second"] (Z5 br):=by
 rcases F,Z6 with⟨v,R,i,j,g,rs,m,rfl,vw,ok,iz,ra,hi,hj,hd,k⟩;have cI:=ok.nd;refine⟨_,(az (bz 4 nd (bU aq)) (az (bz 5 nd (bU (af (iZ (af (pv 2) (af (pv 3) aq))) aq))) (az (uF dR (PW.pt (qa (yp (pv 5) (λ_=>rfl)) (p9 (bA wz (eJ nT (by rfl) T.gP gQ (af (pv 4) aq)) (aT T.UK) (bY _))))) (az (bz 6 nd (rA dJ qj rN rC (pv 5))) (aE (bc (lL (eJ afL (by rfl) T.ahD ahK (af (pv 6) (af (aca (v:=.ty "int") (by rfl) T.ahC ahM O) aq)))) (aE (dF (e9 dJ ic iF iE (pv 4) (af (pv 6) aq)))) (aE (dF (e9 dJ rB tT sZ (pv 5) (af (agO O (by rfl) T.Lv (by rfl) T.FE (b7 Ol hr (by rfl) (af (pv 0) (af (pv 1) (af (cG yx (pv 6) aZ (λ_ _=>rfl)) (af (cG yx (pv 6) aZ (λ_ _=>rfl)) aq)))))) aq)))))))) (az (bc (bA wA (eJ nT (by rfl) T.gP gQ (af (pv 4) aq)) (aT T.UK) (bY _)) (aE (aW sN)) bC) (aE (aW (pv 4))))))),?_⟩;refine⟨by simp,λS hS=>?_⟩;refine⟨a_2,λt ht=>⟨a_1,λW hW=>?_⟩⟩;have tS:t≠S:=λz=>by rw[z,ah]at ht;cases ht
 have GQ:H t=none:=(aa tS).symm.trans ht;have Wt:W≠t:=λz=>by rw[z,ah]at hW;cases hW
 have WS:W≠S:=λz=>by rw[z,aa (aP tS),ah]at hW;cases hW
 have xg:H W=none:=by rw[aa Wt,aa WS]at hW;exact hW
 refine⟨λn σ H'=>e_6 λ(sg:List Nat)(vs:List V)(kN:List gS)(x:Nat)(Hb:Hp)(v6:Option V)=>n=qK m kN/\σ=[B (.ref v),B (.ref R),B (.int (i:Nat)),B (.int (j:Nat)),B (.ref S),B (.ref W),v6]/\aw H Hb/\aw Hb H'/\Hb S=N/\Hb W=N/\H' S=B (.Z (aA sg))/\H' W=B (.Z vs.reverse)/\eS Hb vs kN/\(∀p∈kN,vR m p)/\sg++kN.flatMap (mh m)=enc (FF m (at_ m i) (at_ m j))/\sg.length<=301/\kN.length<=1+210*x/\x<=sg.length+1/\(∀p l,kN=.inr p::l->x<=sg.length),⟨_,[],[.ref t],[.inr (i,j)],0,M H t (.tup [.int (i:Nat),.int (j:Nat)]),N,O,O,bp GQ,?_,(aa (aP tS)).trans hS,(aa Wt).trans xg,?_,ah,.one ⟨t,O,ah⟩,?_,?_,iP _,by simp,iP _,λ_ _ _=>aX _⟩,?_⟩
 .intro b o e;have n1:b≠S:=aK e ((aa (aP tS)).trans hS);have n2:b≠W:=aK e ((aa Wt).trans xg);rw[aa n2];by_cases z:b=t
  .rw[z]at e ⊢;rw[ah]at e ⊢;exact e
  .rw[aa z]at e ⊢;rw[aa n1];exact e
 .exact(aa (aP WS)).trans ((aa (aP tS)).trans ah)
 .intro p hp;have:p=.inr (i,j):=by simpa using hp
  rw[this];exact⟨hi,hj,g,hd⟩
 .show[]++(mh m (.inr (i,j))++[])=_;rw[fV];rfl
 rintro n σ H' ⟨sg,vs,kN,x,Hb,v6,rfl,rfl,sb,s2,bS,bW,hs,hw,pl,gd,he,hl,pE,HF,wb⟩;refine⟨_,.inl ⟨_,aC.of hw,O⟩,?_⟩;match vs,kN,pl,gd,he,pE,wb with
 |[],_::_,pl,_,_,_,_=>exact bT pl.len (by simp)
 |_::_,[],pl,_,_,_,_=>exact bT pl.len (by simp)
 |[],[],pl,gd,he,pE,wb=>
  refine bN ?_;refine bN ⟨S,_,O,.inl (aC.of hs),_,_,O,O,_,O,?_⟩;rw[bP];have he:sg=enc (FF m (at_ m i) (at_ m j)):=by simpa using he
  have hsz:sg.length=(FF m (at_ m i) (at_ m j)).size:=by rw[he,kj]
  by_cases Bd:300<sg.length
  .rw[cw (by lia)];have e1:fH (FF m (at_ m i) (at_ m j))=none:=aD (by show 300<_;lia);rw[e1]at k;exact bO (k _ _ (sb.trans s2) O)
  .rw[eG (by lia)];have e1:fH (FF m (at_ m i) (at_ m j))=B (FF m (at_ m i) (at_ m j)):=au (by show¬300<_;lia);rw[e1]at k;exact bN (k _ _ (sb.trans s2) ⟨S,O,by grind⟩)
 |y::vs,p::kN,pl,gd,he,pE,wb=>
  have ee:(y::vs).reverse.isEmpty=false:=by simp
  rw[ee];refine bO ⟨S,_,O,.inl (aC.of hs),_,_,O,O,_,O,?_⟩;rw[bP];by_cases Bd:300<sg.length
  .rw[eG (by lia)]
   have e1:fH (FF m (at_ m i) (at_ m j))=none:=aD (by
    have:=cb lO he;rw[cK,kj]at this;show 300<_
    lia)
   rw[e1]at k;refine bN ⟨S,_,O,.inl (aC.of hs),_,_,O,O,_,O,?_⟩;rw[bP,cw (by lia)];exact bO (k _ _ (sb.trans s2) O)
  .rw[cw (by lia)];refine bO ⟨_,λ_ _ z=>z,?_⟩;have el:(y::vs).reverse[(y::vs).reverse.length-1]?=B y:=by simp
   have ed:(y::vs).reverse.dropLast=vs.reverse:=by simp
   refine⟨.inl ⟨O,_,aC.of hw⟩,W,_,_,O,O,hw,el,?_⟩;rw[ed];have Af:M H' W (.Z vs.reverse) W=B (.Z vs.reverse):=ah;have qk:M H' W (.Z vs.reverse) S=B (.Z (aA sg)):=(aa (aP WS)).trans hs;have s3:aw Hb (M H' W (.Z vs.reverse)):=aS s2 bW;generalize M H' W (.Z vs.reverse)=H3 at Af qk s3;have py:=pl.at_ 0 y p O rfl;have iT:eS Hb vs kN:=⟨by have:=pl.len;simpa using this,λi v p e1 e2=>pl.at_ (i+1) v p e1 e2⟩;have Z7:∀q∈kN,vR m q:=λq hq=>gd q (eD _ hq);have gX:kN.length<=210*x:=by grind
   cases p with
   |inl c=>have py:y=.int ((c:Nat):Int):=py;subst py;refine .inl ⟨_,O,_,O,?_⟩;refine bO ⟨.inl ⟨O,_,aC.of qk⟩,S,_,_,O,O,qk,by rw[bP];exact cY (by lia),?_⟩;refine⟨qK m kN,by rw[xW];show _<1+_;lia,sg++[c],vs,kN,x,Hb,_,O,O,sb,aS s3 bS,bS,bW,by rw[ah,ng],(aa WS).trans Af,iT,Z7,?_,by grind,by lia,by grind,λq l _=>by grind⟩;rw[<-he,kE,iD];rfl
   |inr q=>
    obtain⟨t',rfl,LV⟩:=py;obtain⟨q1,q2,g',xD⟩:=gd (.inr q) eR;have Cd:=s3 _ _ LV;refine .inr ⟨t',_,O,Cd,_,O,?_⟩;have Ag:=alF cI iz q1 q2 xD;have lV:=N8 cI iz q1 q2 xD;refine bN ⟨.inl ⟨O,_,aC.of Af⟩,t',_,0,_,O,O,cW.of Cd,O,t',_,1,_,O,O,cW.of Cd,O,?_⟩;refine⟨v,R,q.1,q.2,g',rs,m,O,vw.same (sb.trans s3),ok,iz,ra.same (sb.trans s3),q1,q2,xD,λH4 A4 ws s4 hA4 WL p4 l4=>?_⟩;refine⟨A4,_,O,aC.of WL,λdi hB=>?_⟩;have SB:S≠di:=aK (s4 _ _ qk) hB;have WB:W≠di:=aK (s4 _ _ Af) hB;have aqc:=wb q kN rfl;refine⟨W,di,_,_,O,O,(aa WB).trans (s4 _ _ Af),ah,?_,?_⟩
    .rw[tR,tR,iT.len];exact jD (by lia)
    .have s5:=s3.trans s4
     have pA:eS (jX H4 [S,W]) ws (nz m q.1 q.2):=⟨p4.len,λi' v' p' e1 e2=>by
      have h':=p4.at_ i' v' p' e1 e2;cases p' with
      |inl c=>exact h'
      |inr pr=>
       obtain⟨t6,e6,h6⟩:=h';have n1:t6≠S:=bE h6 (s4 _ _ qk) nofun;have n2:t6≠W:=bE h6 (s4 _ _ Af) nofun
       exact⟨t6,e6,(oY (by simp[n1,n2])).trans h6⟩⟩
     have sD:aw Hb (jX H4 [S,W]):=λb o e=>by have n1:b≠S:=aK e bS;have n2:b≠W:=aK e bW;rw[oY (by simp[n1,n2])];exact s5 _ _ e
     have sE:∀(oB oW:HO),aw (jX H4 [S,W]) (M (M H4 di oB) W oW):=λoB oW b o e=>by
      have n0:b∉[S,W]:=λz=>by rw[Ci z]at e;cases e
      rw[oY n0]at e;have n2:b≠W:=λz=>n0 (by simp[z]);rw[aa n2,aa (aK e hB)];exact e
     obtain⟨c0,l0,xE⟩:=Ag.1;refine⟨qK m (nz m q.1 q.2++kN),?_,sg,ws++vs,nz m q.1 q.2++kN,x+1,jX H4 [S,W],_,O,O,sb.trans sD,sE _ _,Ci (by simp),Ci (by simp),(aa (aP WS)).trans ((aa SB).trans (s4 _ _ qk)),by rw[ah,List.reverse_append],pA.app (iT.same sD),?_,?_,hl,?_,by lia,?_⟩
     .rw[Z3,xW];have h1:=Oi m l0;have h2:=cb lO lV;rw[xE,kE,cK]at h2;have h2:1+(l0.flatMap (mh m)).length=(enc (FF m (at_ m q.1) (at_ m q.2))).length:=h2;rw[xE,xW];show 1+qK m l0+_<2*(enc (FF m (at_ m q.1) (at_ m q.2))).length+_;lia
     .intro p' xP;rcases eX.mp xP with z|z
      .exact Ag.2 p' z
      .exact Z7 p' z
     .rw[tW,lV,<-he,kE];rfl
     .rw[cK,<-p4.len];lia
     .intro q' l' e;rw[xE]at e;cases e
def Z8 (C:J):Sp:=λvs H Q _=>e_10 λ(p dx dm dl pl:J)(m:Md)(at_ last:Nat)(u v:Int)=>vs=[.ref p,.int u,.int v]/\Core C H p dx dm dl pl m at_ last/\cg m at_ last/\
 ∀(H':Hp)(S:J),aw H H'->H S=N->H' S=B (.Z (vi (C4 m u v)))->Q (.ref S) H'
def Om (ho:∀f g,Wf f->Wf g->Wf (op f g))(he:Wf ef):∀{l:List bo},(∀f∈l,Wf f)->Wf (ke op ef l)
 |[],_=>he
 |[x],h=>h x eR
 |x::y::l,h=>ho _ _ (h x eR) (Om ho he λf hf=>h f (eD _ hf))
def Oo (ho:∀f g,Quiet f->Quiet g->Quiet (op f g))(he:Quiet ef):∀{l:List bo},(∀f∈l,Quiet f)->Quiet (ke op ef l)
 |[],_=>he
 |[x],h=>h x eR
 |x::y::l,h=>ho _ _ (h x eR) (Oo ho he λf hf=>h f (eD _ hf))
theorem C' (m:Md):∀(n u v:Nat),Wf (ff m n u v)/\Quiet (ff m n u v)
 |0,_,_=>⟨trivial,trivial⟩
 |n+1,u,v=>by
  simp only[ff];cases ha:ny m u v with
  |some i=>have hi:i<8:=oG.mp (ma ha);show Wf (if _ then _ else _)/\Quiet (if _ then _ else _);split<;>exact⟨hi,trivial⟩
  |none=>
   cases hl:vL m (rb m ((gM m u v).getD 0)) u v with
   |some c=>
    have hc:=(o7 (ma hl)).2.1;refine⟨⟨hc,?_⟩,?_⟩
    .show Wf (ke _ _ _);refine Om (op:=.and) (ef:=.top) (λ_ _ a b=>⟨a,b⟩) trivial λf hf=>?_;obtain⟨y,_,rfl⟩:=cx.mp hf;exact(C' m n _ _).1
    .show Quiet (ke _ _ _);refine Oo (op:=.and) (ef:=.top) (λ_ _ a b=>⟨a,b⟩) trivial λf hf=>?_;obtain⟨y,_,rfl⟩:=cx.mp hf;exact(C' m n _ _).2
   |none=>
    cases hi:vM m (rb m ((gM m u v).getD 0)) u v with
    |some c=>
     have hc:=(o7 (ma hi)).2.1;refine⟨⟨hc,?_⟩,?_⟩
     .show Wf (ke _ _ _);refine Om (op:=.or) (ef:=.no .top) (λ_ _ a b=>⟨a,b⟩) trivial λf hf=>?_;obtain⟨y,_,rfl⟩:=cx.mp hf;exact(C' m n _ _).1
     .show Quiet (ke _ _ _);refine Oo (op:=.or) (ef:=.no .top) (λ_ _ a b=>⟨a,b⟩) trivial λf hf=>?_;obtain⟨y,_,rfl⟩:=cx.mp hf;exact(C' m n _ _).2
    |none=>exact⟨trivial,trivial⟩
def Z9:bZ ["model","first","second","view","here","there","rounds","gone","signs"] ["model","first","second"] (bb KN):=by left
def alH (TM:ip K aG)(TV:n9 K br)(F:bG K "alike" "alike" KN f fd)(T:Txt K mg)(tZ:n_ "View" br 2 ["self","masks","links"] (Ge br))(zK:c_ "codes_of" 3 ["signs"] (Mg K))(Oq:c_ "parting" 5 ["view","rounds","first","second"] (Z5 br))(Ae:c_ "round_gone" 1 ["rounds","first","second"] (NO K))(zZ:c_ "rounds_of" 3 ["view"] (NN br)):b_ 6 f fd ["model","first","second"] (Z8 aG):=by
 rcases F,Z9 with⟨p,dx,dm,dl,pl,m,at',last,u,v,rfl,c,ok,q⟩;have hu:=kX hr;have cI:=ok.nd;refine⟨_,(az (bc (PW.pt (yn (iX (tm hu (pv 1) (aQ (pv 0) O))) (ym (iX (tm hu (pv 2) (aQ (pv 0) O)))))) (aE (aW (bU (af (aT T.FD) aq)))) bC) (az (bz 3 nd (rJ tZ hr (by rfl) (af (aQ (pv 0) O) (af (aQ (pv 0) O) aq)))) (az (bz 4 nd (e9 dJ Jj Z' RK (aQ (pv 3) O) (af (pv 1) aq))) (az (bz 5 nd (e9 dJ Jj Z' RK (aQ (pv 3) O) (af (pv 2) aq))) (az (bz 6 nd (b7 zZ hr (by rfl) (af (pv 3) aq))) (az (bz 7 nd (b7 Ae hr (by rfl) (af (pv 6) (af (pv 4) (af (pv 5) aq))))) (az (bc (iX (yl (pv 7))) (aE (aW (bU (af aZ (af aZ aq))))) bC) (az (bz 8 nd (b7 Oq hr (by rfl) (af (pv 3) (af (pv 6) (af (pv 4) (af (pv 5) aq)))))) (az (bc (iX (yl (pv 8))) (aE (aW (bU (af (aT T.UL) aq)))) bC) (aE (aW (b5 rD (bU (af aZ (af aZ (af (pv 7) aq)))) (b7 zK hr (by rfl) (af (pv 8) aq)))))))))))))),?_⟩;refine⟨p,aG,dx,_,_,O,c.obj,TM.cl,TM.f7,i8 _ _ _ _ _,dm,_,O,f6.k (k:=.inl u) c.b0,_,O,?_⟩;rw[vn];unfold C4 at q;cases fh:eB m u with
 |false=>rw[fh,ye,aD rfl]at q;refine bO ?_;exact bO ⟨a_1,λS hS=>q _ S (bp hS) hS ah⟩
 |true=>
  rw[fh,gc]at q;refine bN ⟨p,aG,dx,_,_,O,c.obj,TM.cl,TM.f7,i8 _ _ _ _ _,dm,_,O,f6.k (k:=.inl v) c.b0,_,O,?_⟩;rw[vn];cases o5:eB m v with
  |false=>rw[o5,aD rfl]at q;exact bO ⟨a_1,λS hS=>q _ S (bp hS) hS ah⟩
  |true=>
   rw[o5,au (λz=>jU z)]at q;obtain⟨a,ha,rfl⟩:=oh.mp fh;obtain⟨b,hb,rfl⟩:=oh.mp o5;rw[ij,ij]at q;refine bN ⟨p,aG,dx,_,_,O,c.obj,TM.cl,TM.f7,i8 _ _ _ _ _,p,aG,dx,_,_,O,c.obj,TM.cl,TM.gY,jq _ _ _ _ _,λw' dw Ot eQ ck=>?_⟩;have md:dm≠dw:=aK c.b0 eQ;have mv:dm≠w':=aK c.b0 Ot;have ld:dl≠dw:=aK c.links eQ;have lv:dl≠w':=aK c.links Ot;refine⟨w',dw,dm,dl,m,O,ah,(aa mv).trans ((aa md).trans c.b0),(aa lv).trans ((aa ld).trans c.links),ok.tofg,λH1 k1 hv=>⟨O,?_⟩⟩;have s1:aw H H1:=aw.made Ot eQ λb o e hb=>k1 b o e (by simpa using hb);obtain⟨dv,aR,aY,A',Pp,b6,Rs,b4⟩:=id hv
   have idx:∀x,x∈ae m->(aA (ae m))[dZ m x]?=B (.int ((x:Nat):Int))/\dZ m x<(ae m).length/\WK.at_ m (dZ m x)=x:=λx hx=>by have fM:=lE hx;refine⟨iq ?_,fM,pz hx⟩;rw[cc fM];have:=pz hx;unfold WK.at_ at this;grind
   obtain⟨ia1,ia2,ia3⟩:=idx a ha;obtain⟨ib1,ib2,ib3⟩:=idx b hb;have eqr:∀x:Nat,nS (.int ((x:Nat):Int)) (.int ((x:Nat):Int))=true:=λx=>by show(((x:Nat):Int)==((x:Nat):Int))=L;simp
   have bef:∀x,x∈ae m->∀(k:Nat)(z':V),k<dZ m x->(aA (ae m))[k]?=B z'->nS z' (.int ((x:Nat):Int))=false:=λx hx k z' hk e=>by
    obtain⟨y,hy,rfl⟩:=jB e;show(((y:Nat):Int)==((x:Nat):Int))=aH;rw[beq_eq_false_iff_ne];intro z;have z:y=x:=by lia
    subst z;have h1:=CC cI hy;unfold dZ at hk;lia
   refine⟨w',br,dv,_,_,O,b4.obj,TV.cl,TV.xc,za _ _ _ _ _ _,.inl ⟨O,_,aC.of b4.qC⟩,aR,_,_,dZ m a,_,O,O,aC.of b4.qC,O,rM _,ia1,eqr a,bef a ha,?_⟩;refine⟨w',br,dv,_,_,O,b4.obj,TV.cl,TV.xc,za _ _ _ _ _ _,.inl ⟨O,_,aC.of b4.qC⟩,aR,_,_,dZ m b,_,O,O,aC.of b4.qC,O,rM _,ib1,eqr b,bef b hb,?_⟩;refine⟨w',m,O,hv,ok.tofg,λH2 R rs s2 hR ra=>?_⟩;have dn:=s1.trans s2;refine⟨R,dZ m a,dZ m b,rs,m,_,O,ra,ia2,ib2,λH3 s3=>?_⟩;rw[ia3,ib3];have iV:=dn.trans s3;refine⟨_,O,?_⟩;cases G':kL (bq m) a b with
   |none=>rw[show gM m a b=N from G']at q;exact bO ⟨a_2,λS hS=>q _ S (aS iV (iV.free hS)) (iV.free hS) ah⟩
   |some n=>
    rw[show gM m a b=B n from G']at q;have hd:gM m (WK.at_ m (dZ m a)) (WK.at_ m (dZ m b))=B n:=by grind
    refine bN ⟨w',R,dZ m a,dZ m b,n,rs,m,O,(hv.same s2).same s3,ok.tofg,ok.byte,ra.same s3,ia2,ib2,hd,λH4 x s4 hx=>?_⟩;rw[ia3,ib3]at hx;have Ha:=iV.trans s4;refine⟨_,O,?_⟩;cases Hc:fH (FF m a b)with
    |none=>rw[Hc]at q hx;have hx:x=.bB:=hx;subst hx;exact bO ⟨a_1,λS hS=>q _ S (aS Ha (Ha.free hS)) (Ha.free hS) ah⟩
    |some fo=>
     rw[Hc]at q hx;obtain⟨S4,rfl,uS⟩:=hx
     have hfo:FF m a b=fo/\fo.size<=300:=by unfold fH C0 at Hc;split at Hc;rfl'
     have wq:Wf fo/\Quiet fo:=by rw[<-hfo.1];exact C' m _ _ _
     refine bN ⟨a_3,λZ4 hZ4=>?_⟩;have s5:aw H4 (M H4 Z4 (.Z [.int 0,.int 0,.int (n:Nat)])):=bp hZ4;refine⟨S4,_,O,aC.of (s5 _ _ uS),by rw[kj];lia,λH6 T6 s6 hT6 Gz=>?_⟩;rw[Qe fo wq.1 wq.2]at Gz;have shl:=my fo;have Ou:=Ha.trans (s5.trans s6);refine⟨Z4,T6,_,_,O,O,s6 _ _ ah,Gz,by rw[bP];exact jD (show 3+(Cy fo).length<=_ by lia),λS hS=>q _ S (aS Ou (Ou.free hS)) (Ou.free hS) ?_⟩;rw[ah,zE];rfl
def Ov (l:List Int)(c:Int):ib (.int c) (l.map V.int)=l.contains c:=by
 unfold ib;rw[yC];induction l with
 |nil=>rfl
 |cons a l ih=>rw[rq,ih,LQ];congr 1;show(a==c)=(c==a);grind
def Ow (l:List Int):(l.map V.int).all mK=true:=by rw[Ew,iK];exact λ_ _=>rfl
noncomputable def Dc (c:Nat):Bool:=([5,6,7,8,9,10,11,14,15]:List Int).contains (c:Int)
noncomputable def qL (c:Nat)(m:Md)(at_:Nat)(f:bo):List Int:=if c=5 then Xt m f else if c=6 then M3 m at_ f else if c=7 then Cu f else if c=14 then CH m at_ f else Cz m at_ f
def aag:Sp:=λvs H Q _=>∃c:Nat,vs=[.int (c:Nat)]/\∀H',aw H H'->Q (.bl (Dc c)) H'
def aah (K:aM)(C:J):Sp:=λvs H Q _=>e_11 λ(p dx dm dl pl a:J)(m:Md)(at_ last c:Nat)(f:bo)=>vs=[.ref p,.int (c:Nat),.ref a]/\rV K C H p dx dm dl pl a m at_ last f/\
 ∀(H':Hp)(S:J),aw H H'->H S=N->H' S=B (.Z (vi (qL c m at_ f)))->Q (.ref S) H'
def aai:bZ ["call"] ["call"] (bb KP):=⟨O,O,O,by simp,O,by decide+kernel,by decide+kernel⟩
def alM (F:bG K "has_formula" "has_formula" KP f fd)(T:Txt K mg):b_ 1 f fd ["call"] (aag):=by rcases F,aai with⟨c,rfl,k⟩;refine⟨_,(aE (aW (sV oQ (pv 0) (iZ (af (aT T.UX) (af (aT T.UY) (af (aT T.UZ) (af (aT T.Lq) (af (aT T.Lr) (af (aT T.Ls) (af (aT T.Lu) (af (aT T.U1) (af (aT T.ahx) aq)))))))))) (by with_unfolding_all rfl)))),?_⟩;refine⟨by show 9<=aL;decide,λt ht=>⟨t,_,O,.inr (cW.of ah),O,Ow [5,6,7,8,9,10,11,14,15],?_⟩⟩;show Q (.bl (ib (.int ((c:Nat):Int)) (([5,6,7,8,9,10,11,14,15]:List Int).map V.int))) _;rw[Ov];exact k _ (bp ht)
def aaj:bZ ["model","call","signs"] ["model","call","signs"] (bb KR):=by left
def alN (F:bG K "question_answer" "question_answer" KR f fd)(T:Txt K mg)(Ox:c_ "chain" 8 ["model","signs"] (YC K aG))(Oy:c_ "holds" 8 ["model","signs"] (Xu K aG))(Oz:c_ "minds" 8 ["model","signs"] (Xy K aG))(OA:c_ "reduction" 5 ["signs"] (Xw K))(OB:c_ "truth" 8 ["model","signs"] (Xv K aG)):b_ 9 f fd ["model","call","signs"] (aah K aG):=by
 rcases F,aaj with⟨p,dx,dm,dl,pl,a,m,at_,last,c,f',rfl,fa,q⟩;refine⟨_,(az (bc (bA cy (pv 1) (aT T.UX) (bY _)) (aE (aW (b7 Oy hr (by rfl) (af (pv 0) (af (pv 2) aq))))) bC) (az (bc (bA cy (pv 1) (aT T.UY) (bY _)) (aE (aW (b7 OB hr (by rfl) (af (pv 0) (af (pv 2) aq))))) bC) (az (bc (bA cy (pv 1) (aT T.UZ) (bY _)) (aE (aW (b7 OA hr (by rfl) (af (pv 2) aq)))) bC) (az (bc (bA cy (pv 1) (aT T.U1) (bY _)) (aE (aW (b7 Ox hr (by rfl) (af (pv 0) (af (pv 2) aq))))) bC) (aE (aW (b7 Oz hr (by rfl) (af (pv 0) (af (pv 2) aq))))))))),?_⟩;unfold qL at q;refine⟨O,_,O,?_⟩;by_cases h5:c=5
 .rw[aD h5]at q;exact dC (by lia) ⟨p,dx,dm,dl,pl,a,m,at_,last,f',O,fa,q⟩
 rw[au h5]at q;refine cX (by lia) ⟨O,_,O,?_⟩;by_cases h6:c=6
 .rw[aD h6]at q;exact dC (by lia) ⟨p,dx,dm,dl,pl,a,m,at_,last,f',O,fa,q⟩
 rw[au h6]at q;refine cX (by lia) ⟨O,_,O,?_⟩;by_cases h7:c=7
 .rw[aD h7]at q;exact dC (by lia) ⟨a,f',O,fa.sq,fa.wf,fa.len,q⟩
 rw[au h7]at q;refine cX (by lia) ⟨O,_,O,?_⟩;by_cases h14:c=14
 .rw[aD h14]at q;exact dC (by lia) ⟨p,dx,dm,dl,pl,a,m,at_,last,f',O,fa,q⟩
 rw[au h14]at q;exact cX (by lia) ⟨p,dx,dm,dl,pl,a,m,at_,last,f',O,fa,q⟩
def ox (c:Nat):Bool:=([8,9,10,11,13]:List Int).contains (c:Int)
def rX (c:Nat):Bool:=([0,1,2,3,4]:List Int).contains (c:Int)
def iU.same (h:iU H pl qs past)(s:aw H H'):iU H' pl qs past:=⟨s _ _ h.Z,h.len,λi q x e1 e2=>by
 obtain⟨a,b,c⟩:=h.at_ i q x e1 e2
 exact⟨s _ _ a,s _ _ b,s _ _ c⟩⟩
def aal (C:J):Sp:=λvs H Q _=>e_16 λ(p dx dm dl pl t a b:J)(m m0:Md)(at_ last Dd c:Nat)(qs:List (J×J×J))(past:List (Md×Nat))=>vs=[.ref p,.int (c:Nat),.ref t]/\Core C H p dx dm dl pl m at_ last/\iU H pl qs past/\past.length<=1000/\
 H t=B (.tup [.ref a,.ref b,.int (Dd:Nat)])/\H a=B (.dK (cQ m0.states))/\H b=B (.dT (bw m0.links))/\
 (ox c=L->∀H',bQ [pl] H H'->Core C H' p dx dm dl pl m at_ last->iU H' pl ((t,a,b)::qs) ((m0,Dd)::past)->Q .bB H')/\
 (ox c=aH->rX c=L->∀(H':Hp)(iT:J),bQ [p] H H'->H iT=N->Core C H' p dx dm dl iT m at_ last->iU H' iT [] []->Q .bB H')/\
 (ox c=aH->rX c=aH->∀H',aw H H'->Q .bB H')
def aam:bZ ["model","call","before"] ["model","call","before"] (bb KS):=by left
def alO (TM:ip K aG)(F:bG K "remember" "remember" KS f fd)(T:Txt K mg):b_ 1 f fd ["model","call","before"] (aal aG):=by
 rcases F,aam with⟨p,dx,dm,dl,pl,t,a,b,m,m0,at_,last,Dd,c,qs,past,rfl,co,pa,hlen,ht,ha,hb,k1,k2,k3⟩;refine⟨_,(aE (bc (bA oQ (pv 1) (iZ (af (aT T.Lq) (af (aT T.Lr) (af (aT T.Ls) (af (aT T.Lu) (af (aT T.U0) aq)))))) (by with_unfolding_all rfl)) (aE (dF (e9 dJ ic iF iE (aQ (pv 0) O) (af (pv 2) aq)))) (aE (bc (bA oQ (pv 1) (iZ (af (aT T.US) (af (aT T.UT) (af (aT T.UU) (af (aT T.UW) (af (aT T.SO) aq)))))) (by with_unfolding_all rfl)) (aE (dk (pv 0) (bU aq) O)) bC)))),?_⟩;refine⟨by show 5<=aL;decide,λt1 OC=>⟨t1,_,O,.inr (cW.of ah),O,Ow [8,9,10,11,13],_,O,?_⟩⟩;show if ib (.int ((c:Nat):Int)) (([8,9,10,11,13]:List Int).map V.int)=L then _ else _
 rw[Ov];have s1:aw H (M H t1 (.tup (([8,9,10,11,13]:List Int).map V.int))):=bp OC;show if ox c=L then _ else _
 cases h1:ox c with
 |true=>
  have s1:aw H (M H t1 (.tup [.int 8,.int 9,.int 10,.int 11,.int 13])):=bp OC;have c1:=co.same s1;have p1:=pa.same s1;have pp:p≠pl:=bE co.obj pa.Z nofun;have mp:dm≠pl:=bE co.b0 pa.Z nofun;have lp:dl≠pl:=bE co.links pa.Z nofun;refine bO ⟨p,aG,dx,_,_,O,c1.obj,TM.cl,TM.BW,LK _ _ _ _ _,.inl ⟨O,_,aC.of p1.Z⟩,pl,_,_,O,O,p1.Z,?_,?_⟩
  .rw[la,tR,dj,pa.len];exact cY (by lia)
  .refine k1 h1 _ ((bQ.jA s1).M (.inl (by simp))) ⟨(aa pp).trans c1.obj,(aa mp).trans c1.b0,(aa lp).trans c1.links⟩ ⟨?_,by simp[pa.len],λi q x e1 e2=>?_⟩
   .rw[ah,oe,dX,qz]
   .cases i with
    |zero=>
     cases e1;cases e2
     exact⟨(aa (bE ht pa.Z nofun)).trans (s1 _ _ ht),(aa (bE ha pa.Z nofun)).trans (s1 _ _ ha),(aa (bE hb pa.Z nofun)).trans (s1 _ _ hb)⟩
    |succ i=>obtain⟨b1,b2,b3⟩:=p1.at_ i q x e1 e2;exact⟨(aa (bE b1 p1.Z nofun)).trans b1,(aa (bE b2 p1.Z nofun)).trans b2,(aa (bE b3 p1.Z nofun)).trans b3⟩
 |false=>
  have s1:aw H (M H t1 (.tup [.int 8,.int 9,.int 10,.int 11,.int 13])):=bp OC;refine bN ⟨by show 5<=aL;decide,λt2 fD=>⟨t2,_,O,.inr (cW.of ah),O,Ow [0,1,2,3,4],_,O,?_⟩⟩;show if ib (.int ((c:Nat):Int)) (([0,1,2,3,4]:List Int).map V.int)=L then _ else _
  rw[Ov];have s2:aw H (M (M H t1 (.tup [.int 8,.int 9,.int 10,.int 11,.int 13])) t2 (.tup [.int 0,.int 1,.int 2,.int 3,.int 4])):=aS s1 (s1.free fD);show if rX c=L then _ else _
  cases h2:rX c with
  |false=>exact bN (k3 h1 h2 _ s2)
  |true=>have c2:=co.same s2;refine bO ⟨by simp,λG hG=>?_⟩;have pG:p≠G:=aK c2.obj hG;have mG:dm≠G:=aK c2.b0 hG;have lG:dl≠G:=aK c2.links hG;have mp:dm≠p:=bE co.b0 co.obj nofun;have lp:dl≠p:=bE co.links co.obj nofun;have o6:=s2.free hG;refine⟨p,aG,dx,_,O,(aa pG).trans c2.obj,TM.cl,TM.BW,(by show 5<1000;decide),?_⟩;exact k2 h1 h2 _ G (((bQ.jA s2).M (.inr o6)).M (.inl (by simp))) o6 ⟨ah,(aa mp).trans ((aa mG).trans c2.b0),(aa lp).trans ((aa lG).trans c2.links)⟩ ⟨(aa (aP pG)).trans ah,O,λi q x e=>by simp at e⟩
noncomputable def fR (c:Nat)(nums:List Int)(cs:List Nat)(m:Md)(at_ last:Nat):fi×List Int:=
 if(nums.all λa=>decide (0<=a/\a<4))=L then(match xX cs with|none=>(W0 m at_ last,[-1])|some f=>if 40<f.deep then(W0 m at_ last,[-2])else if c=9 then xw m at_ last (nums.headD 0).toNat f else if c=10 then zJ m at_ last (nums.headD 0).toNat f else if c=8 then xq m at_ last f else if c=11 then xr m at_ last f else(W0 m at_ last,qL c m at_ f))
 else(W0 m at_ last,[-1])
def aan (K:aM)(C:J):Sp:=λvs H Q _=>e_13 λ(p dx dm dl pl nA cA:J)(m:Md)(at_ last c:Nat)(nums:List Int)(cs:List Nat)=>vs=[.ref p,.int (c:Nat),.ref nA,.ref cA]/\Core C H p dx dm dl pl m at_ last/\cg m at_ last/\aC K H nA (vi nums)/\aC K H cA (aA cs)/\nums.length<=3/\(c=9\/c=10->nums.length=1)/\cs.length<=400/\j' C H p dx dm dl pl (fR c nums cs m at_ last) Q
def alP {l:List Int}{i:Nat}(h:(vi l)[i]?=B x):∃n,l[i]?=B n/\x=V.int n:=by unfold vi at h;rfl'
def j'.same {C:J}{H H1:Hp}{p dx dm dl pl:J}{r:fi×List Int}{Q:VK}(h:j' C H p dx dm dl pl r Q)(s:aw H H1):j' C H1 p dx dm dl pl r Q:=λH' S eM fj m' k a b c d e f=>h H' S eM fj m' (aw.kept s k) (a.imp id s.free) (b.imp id s.free) c d (s.free e) f
theorem aao:∀(cs:List Nat)(r r':RS),zg r->iB r cs=B r'->r'.bJ.length<=r.bJ.length+cs.length
 |[],r,r',_,h=>by cases h;lia
 |c::cs,r,r',ok,h=>by
  cases e:eC r c with
  |none=>
   have:iB r (c::cs)=none:=by show(match eC r c with|some s'=>iB s' cs|none=>N)=N;rw[e]
   rw[this]at h;cases h
  |some r1=>
   have e1:iB r (c::cs)=iB r1 cs:=by show(match eC r c with|some s'=>iB s' cs|none=>N)=_;rw[e]
   rw[e1]at h;obtain⟨Gs,hl,_⟩:=ok.takes e;have:=aao cs r1 r' Gs h;grind
def alQ (h:cO ⟨[],[],0⟩ cs=B l):l.length<=cs.length:=by
 unfold cO at h;cases e:iB ⟨[],[],0⟩ cs with
 |none=>rw[e]at h;cases h
 |some r=>
  rw[e]at h;have h:(if r.g9=2/\r.want=[]then B r.bJ else N)=B l:=h;split at h
  .cases h
   have:=aao cs ⟨[],[],0⟩ r ⟨aX _,λ_ z=>nomatch z⟩ e;grind
  .cases h
def aap:bZ ["model","call","numbers","codes","agent","signs"] ["model","call","numbers","codes"] (bb Fw):=by left
def alR (F:bG K "formula_answer" "formula_answer" Fw f fd)(T:Txt K mg)(OD:c_ "again" 8 ["model","signs"] (XB K aG))(OE:c_ "depth_of" 3 ["signs"] (VF K))(zI:c_ "is_agent_number" 1 ["agent"] (LA))(OF:c_ "question_answer" 9 ["model","call","signs"] (aah K aG))(OG:c_ "show" 8 ["model","agent","signs"] (XA K aG))(OH:c_ "signs_of" 4 ["codes"] (Vz K))(OI:c_ "tell" 8 ["model","signs"] (Xz K aG))(OJ:c_ "whisper" 8 ["model","agent","signs"] (X2 K aG)):b_ 10 f fd ["model","call","numbers","codes"] (aan K aG):=by
 rcases F,aap with⟨p,dx,dm,dl,pl,nA,cA,m,at_,last,c,nums,cs,rfl,co,ok,hn,hc,hnl,Nd,ku,q⟩;refine⟨_,(az (bc (uD (lL (eJ (aeo O) (by rfl) T.ahA ahJ (af (lT O nd (iY (pv 2)) (jS (own:=[("agent",4)]) (by show jn ["model","call","numbers","codes","agent","signs"] (bb Fw) _ _=L;decide+kernel)) (λ_ _ _ _ _=>(bX (i:=4) nd O (bM O))) (λ_ _ _ _ _=>nU) (λ_ _ _ _ _=>(b7 zI hr (by rfl) (af (pv 4) aq)))) aq)))) (aE (aW (bU (af (aT T.FC) aq)))) bC) (az (bz 5 nd (b7 OH hr (by rfl) (af (pv 3) aq))) (az (bc (iX (yl (pv 5))) (aE (aW (bU (af (aT T.FC) aq)))) bC) (az (bc (bA wA (b7 OE hr (by rfl) (af (pv 5) aq)) (aT T.ahz) (bY _)) (aE (aW (bU (af (aT T.ahp) aq)))) bC) (az (bc (bA cy (pv 1) (aT T.Lr) (bY _)) (aE (aW (b7 OJ hr (by rfl) (af (pv 0) (af (cG cP (pv 2) aZ (λ_ _=>rfl)) (af (pv 5) aq)))))) bC) (az (bc (bA cy (pv 1) (aT T.Ls) (bY _)) (aE (aW (b7 OG hr (by rfl) (af (pv 0) (af (cG cP (pv 2) aZ (λ_ _=>rfl)) (af (pv 5) aq)))))) bC) (az (bc (bA cy (pv 1) (aT T.Lq) (bY _)) (aE (aW (b7 OI hr (by rfl) (af (pv 0) (af (pv 5) aq))))) bC) (az (bc (bA cy (pv 1) (aT T.Lu) (bY _)) (aE (aW (b7 OD hr (by rfl) (af (pv 0) (af (pv 5) aq))))) bC) (aE (aW (b7 OF hr (by rfl) (af (pv 0) (af (pv 1) (af (pv 5) aq)))))))))))))),?_⟩;refine⟨nA,O,⟨_,hn⟩,λG hG=>?_⟩;refine uT (K:=K) (a:=nA) (xs:=vi nums) (λi H'=>aw H H'/\H' G=B (.Z ((((nums.take i).map λa=>decide (0<=a/\a<4)):List Bool).map V.bl))) ⟨bp hG,ah⟩ (λi H' _ z=>z.1.seq hn) ?_ ?_
 .rintro i x H1 hi ⟨s1,g1⟩;obtain⟨n,AJ,rfl⟩:=alP hi;refine⟨O,?_⟩;refine oa ?_;refine⟨n,O,_,g1,by rw[dj,dj,eF];exact cY (by lia),aS s1 hG,?_⟩;rw[ah,take_snoc AJ,f9,f9];rfl
 rintro H1 ⟨s1,g1⟩;rw[o3,eE]at g1;refine⟨G,_,O,aC.of g1,_,O,?_⟩;have alS:((nums.map λa=>decide (0<=a/\a<4)).all id)=nums.all λa=>decide (0<=a/\a<4):=by simp
 rw[alS];unfold fR at q;cases j6:(nums.all λa=>decide (0<=a/\a<4))with
 |false=>rw[j6,au eN]at q;exact bO ⟨a_1,λR hR=>q.ask co (aS s1 (s1.free hR)) (s1.free hR) ah⟩
 |true=>
  rw[j6,aD rfl]at q;refine bN ⟨cA,cs,O,s1.seq hc,ku,?_,?_⟩
  .intro H2 s2 j9;have dn:=s1.trans s2;rw[HA]at j9
   have xG:xX cs=none:=by grind
   rw[xG]at q;refine⟨_,O,?_⟩;exact bO ⟨a_1,λR hR=>q.ask co (aS dn (dn.free hR)) (dn.free hR) ah⟩
  .intro H2 S l s2 qJ hs dS;have dn:=s1.trans s2;rw[HA]at qJ;cases xG:xX cs with
   |none=>rw[xG]at qJ;cases qJ
   |some fo=>
    rw[xG]at qJ q;have el:enc fo=l:=iO qJ;subst el;have hwf:=PL xG;have hlen:(enc fo).length<=400:=fJ (alQ (by rw[HA,xG];rfl)) ku;refine⟨_,O,?_⟩;refine bN ⟨S,fo,O,aC.of hs,hwf,hlen,λH3 s3=>⟨_,_,O,O,_,O,?_⟩⟩;have iV:=dn.trans s3;have fa:rV K aG H3 p dx dm dl pl S m at_ last fo:=⟨co.same iV,ok,aC.of (s3 _ _ hs),hwf,hlen⟩;by_cases G':40<fo.deep
    .rw[cw (by lia)];rw[show(match B fo with|none=>(W0 m at_ last,[-1])|some f=>if 40<f.deep then(W0 m at_ last,[-2])else if c=9 then xw m at_ last (nums.headD 0).toNat f else if c=10 then zJ m at_ last (nums.headD 0).toNat f else if c=8 then xq m at_ last f else if c=11 then xr m at_ last f else(W0 m at_ last,qL c m at_ f))=(W0 m at_ last,[-2])from aD G']at q;exact bO ⟨a_1,λR hR=>q.ask co (aS iV (iV.free hR)) (iV.free hR) ah⟩
    .rw[eG (by lia)]
     replace q:j' aG H p dx dm dl pl (if c=9 then xw m at_ last (nums.headD 0).toNat fo else if c=10 then zJ m at_ last (nums.headD 0).toNat fo else if c=8 then xq m at_ last fo else if c=11 then xr m at_ last fo else(W0 m at_ last,qL c m at_ fo)) Q:=by grind
     have q3:=q.same iV;refine bN ⟨O,_,O,?_⟩
     have aar:nums.length=1->∃g:Nat,nums=[((g:Nat):Int)]/\(nums.headD 0).toNat=g:=λh1=>by
      match nums,h1,j6 with
      |[x],_,j6=>grind
     by_cases h9:c=9
     .rw[aD h9]at q3;obtain⟨g,eg,OL⟩:=aar (Nd (.inl h9));rw[OL]at q3;have De:=iV.seq hn;rw[eg]at De;exact dC (by lia) ⟨nA,_,0,_,O,O,De,O,p,dx,dm,dl,pl,S,m,at_,last,g,fo,O,fa,q3⟩
     rw[au h9]at q3;refine cX (by lia) ⟨O,_,O,?_⟩;by_cases B8:c=10
     .rw[aD B8]at q3;obtain⟨g,eg,OL⟩:=aar (Nd (.inr B8));rw[OL]at q3;have De:=iV.seq hn;rw[eg]at De;exact dC (by lia) ⟨nA,_,0,_,O,O,De,O,p,dx,dm,dl,pl,S,m,at_,last,g,fo,O,fa,q3⟩
     rw[au B8]at q3;refine cX (by lia) ⟨O,_,O,?_⟩;by_cases h8:c=8
     .rw[aD h8]at q3;exact dC (by lia) ⟨p,dx,dm,dl,pl,S,m,at_,last,fo,O,fa,q3⟩
     rw[au h8]at q3;refine cX (by lia) ⟨O,_,O,?_⟩;by_cases h11:c=11
     .rw[aD h11]at q3;exact dC (by lia) ⟨p,dx,dm,dl,pl,S,m,at_,last,fo,O,fa,q3⟩
     rw[au h11]at q3;exact cX (by lia) ⟨p,dx,dm,dl,pl,S,m,at_,last,c,fo,O,fa,λH4 R s4 hR hr=>q3.ask (co.same iV) s4 hR hr⟩
def n0 (l:List Int)(i:Nat):Int:=l.getD i 0
noncomputable def nR (c:Nat)(nums:List Int)(m:Md)(at_ last:Nat):fi×List Int:=
 if c=0 then aO (W0 m at_ last) (.state (n0 nums 0))else if c=1 then aO (W0 m at_ last) (.link (n0 nums 0) (n0 nums 1) (n0 nums 2))else if c=2 then aO (W0 m at_ last) (.unlink (n0 nums 0) (n0 nums 1) (n0 nums 2))
 else if c=3 then aO (W0 m at_ last) (.drop (n0 nums 0))else if c=4 then aO (W0 m at_ last) (.so (n0 nums 0))else if c=12 then(W0 m at_ last,C4 m (n0 nums 0) (n0 nums 1))else if c=13 then CS m at_ last else(W0 m at_ last,Nj m at_)
noncomputable def need (c:Nat):Nat:=if c=1\/c=2 then 3 else if c=12 then 2 else if c=0\/c=3\/c=4 then 1 else 0
def aat (K:aM)(C:J):Sp:=λvs H Q _=>e_13 λ(p dx dm dl pl nA:J)(m:Md)(at_ last c:Nat)(nums:List Int)(qs:List (J×J×J))(past:List (Md×Nat))=>vs=[.ref p,.int (c:Nat),.ref nA]/\Core C H p dx dm dl pl m at_ last/\cg m at_ last/\iU H pl qs past/\aC K H nA (vi nums)/\need c<=nums.length/\
 (c≠16->j' C H p dx dm dl pl (nR c nums m at_ last) Q)/\
 (c=16->(past=[]->∀(H':Hp)(S:J),aw H H'->H S=N->H' S=B (.Z (vi [-12]))->Q (.ref S) H')/\(∀x ps q nr,past=x::ps->qs=q::nr->∀(H':Hp)(S:J),bQ [p,pl] H H'->Core C H' p dx q.2.1 q.2.2 pl x.1 x.2 last->iU H' pl nr ps->H S=N->H' S=B (.Z (vi [0]))->Q (.ref S) H'))
def qM (h:i<l.length):j4 (vi l) ((i:Nat):Int)=B (.int (n0 l i)):=by refine eP ?_;unfold vi n0;grind
def aau:bZ ["model","call","numbers"] ["model","call","numbers"] (bb KQ):=by left
def alT (F:bG K "number_answer" "number_answer" KQ f fd)(T:Txt K mg)(OM:f_ aG "drop" 2 ["self","number"] (Xm aG))(ON:f_ aG "link" 2 ["self","agent","start","end"] (Xa aG))(OO:f_ aG "so" 1 ["self","number"] (Xc aG))(OP:f_ aG "state" 2 ["self","mask"] (W' aG))(OQ:f_ aG "undo" 1 ["self"] (Yl aG))(OS:f_ aG "unlink" 1 ["self","agent","start","end"] (Xb aG))(OT:f_ aG "whole" 1 ["self"] (Ym aG))(OU:c_ "alike" 6 ["model","first","second"] (Z8 aG))(OV:c_ "least" 5 ["model"] (Zo aG)):b_ 7 f fd ["model","call","numbers"] (aat K aG):=by
 rcases F,aau with⟨p,dx,dm,dl,pl,nA,m,at_,last,c,nums,qs,past,rfl,co,ok,pa,hn,cI,q1,q2⟩;unfold need at cI;refine⟨_,(az (bc (bA cy (pv 1) (aT T.US) (bY _)) (aE (aW (gm (pv 0) OP hr (af (cG cP (pv 2) aZ (λ_ _=>rfl)) aq)))) bC) (az (bc (bA cy (pv 1) (aT T.UT) (bY _)) (aE (aW (gm (pv 0) ON hr (af (cG cP (pv 2) aZ (λ_ _=>rfl)) (af (cG cP (pv 2) aZ (λ_ _=>rfl)) (af (cG cP (pv 2) aZ (λ_ _=>rfl)) aq)))))) bC) (az (bc (bA cy (pv 1) (aT T.UU) (bY _)) (aE (aW (gm (pv 0) OS hr (af (cG cP (pv 2) aZ (λ_ _=>rfl)) (af (cG cP (pv 2) aZ (λ_ _=>rfl)) (af (cG cP (pv 2) aZ (λ_ _=>rfl)) aq)))))) bC) (az (bc (bA cy (pv 1) (aT T.UW) (bY _)) (aE (aW (gm (pv 0) OM hr (af (cG cP (pv 2) aZ (λ_ _=>rfl)) aq)))) bC) (az (bc (bA cy (pv 1) (aT T.SO) (bY _)) (aE (aW (gm (pv 0) OO hr (af (cG cP (pv 2) aZ (λ_ _=>rfl)) aq)))) bC) (az (bc (bA cy (pv 1) (aT T.ahw) (bY _)) (aE (aW (b7 OU hr (by rfl) (af (pv 0) (af (cG cP (pv 2) aZ (λ_ _=>rfl)) (af (cG cP (pv 2) aZ (λ_ _=>rfl)) aq)))))) bC) (az (bc (bA cy (pv 1) (aT T.U0) (bY _)) (aE (aW (b7 OV hr (by rfl) (af (pv 0) aq)))) bC) (az (bc (bA cy (pv 1) (aT T.ahy) (bY _)) (aE (aW (FI (pv 0) OQ hr))) bC) (aE (aW (FI (pv 0) OT hr))))))))))),?_⟩;refine⟨O,_,O,?_⟩;unfold nR at q1;by_cases h0:c=0
 .have q:=q1 (by lia);rw[aD h0]at q;rw[au (by lia),au (by lia),aD (by lia)]at cI;exact dC (by lia) ⟨p,dx,_,O,co.obj,ahZ _ _ _ _ _,nA,_,_,_,O,O,hn,qM (i:=0) (by lia),p,dx,dm,dl,pl,m,at_,last,_,O,co,ok,q⟩
 refine cX (by lia) ⟨O,_,O,?_⟩;rw[au h0]at q1;by_cases h1:c=1
 .have q:=q1 (by lia);rw[aD h1]at q;rw[aD (by lia)]at cI;exact dC (by lia) ⟨p,dx,_,O,co.obj,ah0 _ _ _ _ _,nA,_,_,_,O,O,hn,qM (i:=0) (by lia),nA,_,_,_,O,O,hn,qM (i:=1) (by lia),nA,_,_,_,O,O,hn,qM (i:=2) (by lia),p,dx,dm,dl,pl,m,at_,last,_,_,_,O,co,ok,q⟩
 refine cX (by lia) ⟨O,_,O,?_⟩;rw[au h1]at q1;by_cases h2:c=2
 .have q:=q1 (by lia);rw[aD h2]at q;rw[aD (by lia)]at cI;exact dC (by lia) ⟨p,dx,_,O,co.obj,ah1 _ _ _ _ _,nA,_,_,_,O,O,hn,qM (i:=0) (by lia),nA,_,_,_,O,O,hn,qM (i:=1) (by lia),nA,_,_,_,O,O,hn,qM (i:=2) (by lia),p,dx,dm,dl,pl,m,at_,last,_,_,_,O,co,ok,q⟩
 refine cX (by lia) ⟨O,_,O,?_⟩;rw[au h2]at q1;by_cases h3:c=3
 .have q:=q1 (by lia);rw[aD h3]at q;rw[au (by lia),au (by lia),aD (by lia)]at cI;exact dC (by lia) ⟨p,dx,_,O,co.obj,ah2 _ _ _ _ _,nA,_,_,_,O,O,hn,qM (i:=0) (by lia),p,dx,dm,dl,pl,m,at_,last,_,O,co,ok,q⟩
 refine cX (by lia) ⟨O,_,O,?_⟩;rw[au h3]at q1;by_cases h4:c=4
 .have q:=q1 (by lia);rw[aD h4]at q;rw[au (by lia),au (by lia),aD (by lia)]at cI;exact dC (by lia) ⟨p,dx,_,O,co.obj,ah3 _ _ _ _ _,nA,_,_,_,O,O,hn,qM (i:=0) (by lia),p,dx,dm,dl,pl,m,at_,last,_,O,co,ok,q⟩
 refine cX (by lia) ⟨O,_,O,?_⟩;rw[au h4]at q1;by_cases h12:c=12
 .have q:=q1 (by lia);rw[aD h12]at q;rw[au (by lia),aD (by lia)]at cI;exact dC (by lia) ⟨nA,_,_,_,O,O,hn,qM (i:=0) (by lia),nA,_,_,_,O,O,hn,qM (i:=1) (by lia),p,dx,dm,dl,pl,m,at_,last,_,_,O,co,ok,λH' S s' hS hs=>q.ask co s' hS hs⟩
 refine cX (by lia) ⟨O,_,O,?_⟩;rw[au h12]at q1;by_cases h13:c=13
 .have q:=q1 (by lia);rw[aD h13]at q;exact dC (by lia) ⟨p,dx,dm,dl,pl,m,at_,last,O,co,ok,q⟩
 refine cX (by lia) ⟨O,_,O,?_⟩;rw[au h13]at q1;by_cases h16:c=16
 .have q:=q2 h16;exact dC (by lia) ⟨p,dx,_,O,co.obj,ah4 _ _ _ _ _,p,dx,dm,dl,pl,m,at_,last,qs,past,O,co,pa,q.1,q.2⟩
 have q:=q1 h16;exact cX (by lia) ⟨p,dx,_,O,co.obj,ah5 _ _ _ _ _,p,dx,dm,dl,pl,m,at_,last,O,co,ok,λH' S s' hS hs=>q.ask co s' hS hs⟩
theorem OW {α:Type}{l l':List α}(h:l.Perm l')(p:α->Bool):l.any p=l'.any p:=by grind
theorem dr.symm (h:dr m m'):dr m' m:=⟨h.1.symm,h.2.symm⟩
theorem dr.trans (h:dr a b)(h':dr b c):dr a c:=⟨h.1.trans h'.1,h.2.trans h'.2⟩
section
variable{m m':Md}(h:dr m m')
include h
theorem kO:ae m=ae m':=by unfold ae;rw[h.1]
theorem Hd:cF m=cF m':=by funext u;unfold cF;rw[h.1]
theorem xY:b8 m=b8 m':=by funext a u;unfold b8;rw[kO h];congr 1;funext v;exact OW h.2 _
theorem OX:xS m=xS m':=by funext u;unfold xS;rw[kO h];congr 1;funext v;exact OW h.2 _
theorem He (p:Nat->Bool):dr (dh m p) (dh m' p):=⟨by unfold dh;rw[h.1],h.2.filter _⟩
theorem aay:∀(n:Nat)(l:List Nat),OY m n l=OY m' n l
 |0,l=>rfl
 |n+1,l=>by simp only[OY,OX h,kO h];rw[aay n]
theorem aaz:cV m=cV m':=by funext u;unfold cV;rw[aay h,OX h,h.1]
end
theorem ki:∀(f:bo){m m':Md},dr m m'->aU f m=aU f m'
 |.top,m,m',h=>kO h
 |.atom i,m,m',h=>by simp only[aU,kO h,Hd h]
 |.no f,m,m',h=>by simp only[aU,ki f h,kO h]
 |.and f g,m,m',h=>by simp only[aU,ki f h,ki g h]
 |.or f g,m,m',h=>by simp only[aU,ki f h,ki g h,kO h]
 |.know a f,m,m',h=>by simp only[aU,ki f h,kO h,xY h]
 |.every f,m,m',h=>by simp only[aU,ki f h,kO h,OX h]
 |.common f,m,m',h=>by simp only[aU,ki f h,kO h,aaz h]
 |.after f g,m,m',h=>by simp only[aU,ki f h,kO h];rw[ki g (He h _)]
section
variable{m m':Md}(h:dr m m')
include h
theorem alU:jY m=jY m':=by unfold jY;rw[kO h,Hd h]
theorem alV:vG m=vG m':=by funext s u v;unfold vG;rw[xY h]
theorem alW:fE m=fE m':=by funext s;unfold fE;rw[alV h]
theorem aaA:∀(n:Nat)(s:gb),kM m n s=kM m' n s
 |0,s=>rfl
 |n+1,s=>by simp only[kM,alW h];rw[aaA n]
theorem OZ:bq m=bq m':=by unfold bq;rw[aaA h,alU h,h.1]
theorem alX:vP m=vP m':=by funext k u v;unfold vP;rw[Hd h,xY h]
theorem aaB:∀(l:List gb)(k:C1),G4 m l k=G4 m' l k
 |[],k=>rfl
 |[s],k=>rfl
 |s::t::l,k=>by simp only[G4,alX h];rw[aaB (t::l)]
theorem alY:C3 m=C3 m':=by unfold C3 C2;rw[aaB h,OZ h,kO h]
theorem alZ (l:List gb):cu l m=cu l m':=by funext u;unfold cu;rw[kO h]
theorem Df:∀(l:List (List (Nat×Nat)))(s:List Nat),ot m l s=ot m' l s
 |[],s=>rfl
 |[]::l,s=>Df l s
 |(x::c)::l,s=>by simp only[ot];rw[Df l s,Df l (x.2::s)]
theorem al0:vA m=vA m':=by
 funext k c;cases c with
 |nil=>rfl
 |cons x c=>simp only[vA,xY h]
theorem aaC (s:List Nat):∀(n:Nat)(l:List (List (Nat×Nat)))(k:List Nat),zS m s n l k=zS m' s n l k
 |0,l,k=>rfl
 |n+1,l,k=>by
  simp only[zS,al0 h,Df h];cases l.find? (CG s)with
  |some c=>rfl
  |none=>exact aaC s n _ _
theorem al1 (u:Nat)(f:bo):o8 m u f=o8 m' u f:=by unfold o8;simp only[xY h,Df h,aaC h,ki f h,h.1]
theorem Hf:eB m=eB m':=by funext u;unfold eB;rw[h.1]
theorem aaD:lq m=lq m':=by funext a u v;unfold lq;exact OW h.2 _
theorem al2:xy m=xy m':=by unfold xy;rw[kO h,xY h]
theorem aaE (f:bo):dr (kH m f) (kH m' f):=by unfold kH;rw[ki f h];exact He h _
theorem al3 (a:Nat)(f:bo):dr (t9 m a f) (t9 m' a f):=by unfold t9;rw[ki f h];exact⟨h.1,h.2.filter _⟩
theorem Hg (f:bo)(u:Nat):kG f m u=kG f m' u:=by unfold kG;rw[ki f h]
end
theorem aaF (f:bo)(u:Nat):∀(n:Nat){m m':Md},dr m m'->(jF f u n m).1=(jF f u n m').1/\dr (jF f u n m).2 (jF f u n m').2
 |0,m,m',h=>⟨O,h⟩
 |n+1,m,m',h=>by
  have ht:=aaE h f;have e1:(kH m f).states.length=(kH m' f).states.length:=by rw[ht.1]
  have e2:m.states.length=m'.states.length:=by rw[h.1]
  have ih:=aaF f u n ht;simp only[jF,Hg h,e1,e2];rfl'
def al4 (h:dr m m')(hn:(ae m).Nodup)(last a:Nat)(f:bo):dr (l7 m last a f) (l7 m' last a f):=by
 have e1:=Gw m last a f (Gx hn f);have AJ:(ae m').Nodup:=by rw[<-kO h];exact hn
 have e2:=Gw m' last a f (Gx AJ f);refine e1.symm.trans (dr.trans ?_ e2);rw[ki f h];refine⟨?_,?_⟩
 .show m.states++g0 m last (aU f m')=m'.states++g0 m' last (aU f m');unfold g0;rw[h.1,Hd h]
 .exact h.2.append (h.2.filterMap _)
def aaG (hl:l∈ls):({a:=l.a,u:=g l.u,v:=g l.v}:cD)∈fk g ls:=by
 revert hl;refine snoc_ind (P:=λls=>l∈ls->({a:=l.a,u:=g l.u,v:=g l.v}:cD)∈fk g ls) (λh=>by cases h) (λls x ih hl=>?_) ls;rw[CV]
 have sub:∀y,y∈fk g ls->y∈CU {a:=x.a,u:=g x.u,v:=g x.v} (fk g ls):=λy hy=>by
  by_cases z:({a:=x.a,u:=g x.u,v:=g x.v}:cD)∈fk g ls
  .rw[CT z];exact hy
  .rw[zY z];grind
 rcases eX.mp hl with z|z
 .grind
 .have:l=x:=by simpa using z
  subst this;by_cases z:({a:=l.a,u:=g l.u,v:=g l.v}:cD)∈fk g ls
  .grind
  .rw[zY z];simp
def al5 (h:ls.Perm ls'):(fk g ls).Perm (fk g ls'):=Ng (GX _ _) (GX _ _) λx=>by
 constructor
 .intro hx;obtain⟨l,hl,rfl⟩:=xT _ _ x hx;exact aaG (h.mem_iff.mp hl)
 .intro hx;obtain⟨l,hl,rfl⟩:=xT _ _ x hx;exact aaG (h.mem_iff.mpr hl)
def al7 (h:dr m m')(u:Nat):dr (vJ m u) (vJ m' u)/\cu (bq (dh m λv=>v==u||(cV m u).contains v)) (dh m λv=>v==u||(cV m u).contains v) u=cu (bq (dh m' λv=>v==u||(cV m' u).contains v)) (dh m' λv=>v==u||(cV m' u).contains v) u:=by
 have ho:dr (dh m λv=>v==u||(cV m u).contains v) (dh m' λv=>v==u||(cV m' u).contains v):=by rw[aaz h];exact He h _
 have el:∀m:Md,vJ m u={states:=(dh m λv=>v==u||(cV m u).contains v).states.filter (λx=>cu (bq (dh m λv=>v==u||(cV m u).contains v)) (dh m λv=>v==u||(cV m u).contains v) x.id==x.id),links:=fk (cu (bq (dh m λv=>v==u||(cV m u).contains v)) (dh m λv=>v==u||(cV m u).contains v)) (dh m λv=>v==u||(cV m u).contains v).links}:=λm=>rfl;rw[el m,el m'];generalize(dh m λv=>v==u||(cV m u).contains v)=r at ho;generalize(dh m' λv=>v==u||(cV m' u).contains v)=r' at ho;have e1:cu (bq r) r=cu (bq r') r':=by rw[OZ ho,alZ ho]
 refine⟨⟨?_,?_⟩,by rw[e1]⟩
 .show r.states.filter _=r'.states.filter _;rw[e1,ho.1]
 .show(fk _ r.links).Perm (fk _ r'.links);rw[e1];exact al5 ho.2
def Ah (p p':List (Md×Nat)):Prop:=p.length=p'.length/\∀(i:Nat)(x x':Md×Nat),p[i]?=B x->p'[i]?=B x'->dr x.1 x'.1/\x.2=x'.2
structure dH (w w':fi):Prop where
 model:dr w.model w'.model
 last:w.last=w'.last
 at_:w.at_=w'.at_
 past:Ah w.past w'.past
def Ah.nil:Ah [] []:=⟨O,λi x x' e=>by simp at e⟩
def Ah.cons (h:dr x.1 x'.1)(e:x.2=x'.2)(t:Ah p p'):Ah (x::p) (x'::p'):=⟨by simp[t.1],λi y y' e1 e2=>by
 cases i with
 |zero=>rfl'
 |succ i=>exact t.2 i y y' e1 e2⟩
def dH.refl (w:fi):dH w w:=⟨dr.refl _,O,O,O,λi x x' e1 e2=>by rw[e1]at e2;cases e2;exact⟨dr.refl _,O⟩⟩
def Hh (r:dH w w')(h:dr m m')(e:u=u'):dH (O0 w m u) (O0 w' m' u'):=⟨h,r.last,e,r.past.cons r.model r.at_⟩
def aaH (r:dH w w')(h:dr m m'):dH (aaI w m) (aaI w' m'):=⟨h,r.last,r.at_,.nil⟩
def al8 (r:dH w w')(x:Ai):(aO w (.tell x)).2=(aO w' (.tell x)).2/\dH (aO w (.tell x)).1 (aO w' (.tell x)).1:=by
 have ht:=aaE r.model (qN x).2;simp only[aO,<-r.at_,<-Hg r.model];split
 .grind
 .split
  .grind
  .split
   .grind
   .exact⟨by rw[ht.1],Hh r ht O⟩
def al9 (r:dH w w')(a:Int)(x:Ai):(aO w (.show_ a x)).2=(aO w' (.show_ a x)).2/\dH (aO w (.show_ a x)).1 (aO w' (.show_ a x)).1:=by
 have ht:=al3 r.model a.toNat (qN x).2;simp only[aO];split
 .grind
 .split
  .grind
  .exact⟨by rw[ht.2.length_eq,r.model.2.length_eq],Hh r ht r.at_⟩
def step_again (r:dH w w')(x:Ai):(aO w (.again x)).2=(aO w' (.again x)).2/\dH (aO w (.again x)).1 (aO w' (.again x)).1:=by
 have e2:w.model.states.length=w'.model.states.length:=by rw[r.model.1]
 have ht:=aaF (qN x).2 w.at_ w'.model.states.length r.model;simp only[aO,<-r.at_,e2];split
 .grind
 .split
  .grind
  .exact⟨by rw[ht.1,ht.2.1],Hh r ht.2 O⟩
def al' (r:dH w w'):(aO w .least).2=(aO w' .least).2/\dH (aO w .least).1 (aO w' .least).1:=by
 have ht:=al7 r.model w.at_;simp only[aO,<-r.at_];split
 .grind
 .exact⟨by rw[ht.1.1],Hh r ht.1 ht.2⟩
def ama (r:dH w w')(hn:(ae w.model).Nodup)(a:Int)(x:Ai):(aO w (.whisper a x)).2=(aO w' (.whisper a x)).2/\dH (aO w (.whisper a x)).1 (aO w' (.whisper a x)).1:=by
 have ht:=al4 r.model hn w.last a.toNat (qN x).2;have hs:=ki (qN x).2 r.model;have e1:(l7 w.model w.last a.toNat (qN x).2).states.length=(l7 w'.model w.last a.toNat (qN x).2).states.length:=by rw[ht.1]
 simp only[aO,<-r.at_,<-r.last,<-Hg r.model,<-hs,<-e1,<-ht.2.length_eq];split
 .grind
 .split
  .grind
  .split
   .grind
   .split
    .grind
    .split
     .grind
     .exact⟨O,⟨ht,O,O,r.past.cons r.model r.at_⟩⟩
def step_ask (r:dH w w')(x:Ai):
  ((aO w (.holds x)).2=(aO w' (.holds x)).2/\dH (aO w (.holds x)).1 (aO w' (.holds x)).1)/\
  ((aO w (.truth x)).2=(aO w' (.truth x)).2/\dH (aO w (.truth x)).1 (aO w' (.truth x)).1)/\
  ((aO w (.reduce x)).2=(aO w' (.reduce x)).2/\dH (aO w (.reduce x)).1 (aO w' (.reduce x)).1):=by
 refine⟨?_,?_,?_⟩
 .simp only[aO,<-ki _ r.model];grind
 .simp only[aO,<-Hg r.model,<-r.at_];rfl'
 .simp only[aO];rfl'
def amb (r:dH w w'):(aO w .undo).2=(aO w' .undo).2/\dH (aO w .undo).1 (aO w' .undo).1:=by
 have hp:=r.past;simp only[aO];cases e:w.past with
 |nil=>
  cases e':w'.past with
  |nil=>grind
  |cons y l=>rw[e,e']at hp;exact bT hp.1 (by simp)
 |cons x l=>
  cases e':w'.past with
  |nil=>rw[e,e']at hp;exact bT hp.1 (by simp)
  |cons y l'=>rw[e,e']at hp;have h0:=hp.2 0 x y O rfl;exact⟨O,⟨h0.1,r.last,h0.2,by have:=hp.1;grind,λi a b e1 e2=>hp.2 (i+1) a b e1 e2⟩⟩
def Hi (r:dH w w')(x:Ai)(u v:Int):
  ((aO w (.chain x)).2=(aO w' (.chain x)).2/\dH (aO w (.chain x)).1 (aO w' (.chain x)).1)/\
  ((aO w (.minds x)).2=(aO w' (.minds x)).2/\dH (aO w (.minds x)).1 (aO w' (.minds x)).1)/\
  ((aO w (.alike u v)).2=(aO w' (.alike u v)).2/\dH (aO w (.alike u v)).1 (aO w' (.alike u v)).1)/\
  ((aO w .model).2=(aO w' .model).2/\dH (aO w .model).1 (aO w' .model).1):=by
 refine⟨?_,?_,?_,?_⟩
 .simp only[aO,<-al1 r.model,<-r.at_];rfl'
 .simp only[aO,<-ki _ r.model,<-xY r.model,<-r.at_];rfl'
 .simp only[aO,aaJ,<-Hf r.model,<-OZ r.model,<-alY r.model];rfl'
 .simp only[aO,<-al2 r.model,<-r.at_,<-r.model.1,<-r.model.2.length_eq];grind
def Dg (r:dH w w')(k a u v:Int):
  ((aO w (.state k)).2=(aO w' (.state k)).2/\dH (aO w (.state k)).1 (aO w' (.state k)).1)/\
  ((aO w (.link a u v)).2=(aO w' (.link a u v)).2/\dH (aO w (.link a u v)).1 (aO w' (.link a u v)).1)/\
  ((aO w (.unlink a u v)).2=(aO w' (.unlink a u v)).2/\dH (aO w (.unlink a u v)).1 (aO w' (.unlink a u v)).1)/\
  ((aO w (.drop u)).2=(aO w' (.drop u)).2/\dH (aO w (.drop u)).1 (aO w' (.drop u)).1)/\
  ((aO w (.so u)).2=(aO w' (.so u)).2/\dH (aO w (.so u)).1 (aO w' (.so u)).1):=by
 refine⟨?_,?_,?_,?_,?_⟩
 .simp only[aO,<-r.last,<-r.model.1];split
  .grind
  .split
   .grind
   .exact⟨O,⟨⟨O,r.model.2⟩,O,r.at_,.nil⟩⟩
 .simp only[aO,<-Hf r.model,<-aaD r.model,<-r.model.2.length_eq];split
  .grind
  .split
   .grind
   .split
    .grind
    .split
     .grind
     .exact⟨O,aaH r ⟨r.model.1,r.model.2.append_right _⟩⟩
 .simp only[aO,<-aaD r.model];split
  .grind
  .exact⟨O,aaH r ⟨r.model.1,r.model.2.filter _⟩⟩
 .simp only[aO,<-Hf r.model,<-r.at_];split
  .grind
  .exact⟨O,⟨He r.model _,r.last,O,.nil⟩⟩
 .simp only[aO,<-Hf r.model];split
  .grind
  .exact⟨O,⟨r.model,r.last,O,.nil⟩⟩
def aaK (r:dH w w')(hn:(ae w.model).Nodup):∀c:Dh,(aO w c).2=(aO w' c).2/\dH (aO w c).1 (aO w' c).1
 |.state k=>(Dg r k 0 0 0).1
 |.link a u v=>(Dg r 0 a u v).2.1
 |.unlink a u v=>(Dg r 0 a u v).2.2.1
 |.drop u=>(Dg r 0 0 u 0).2.2.2.1
 |.so u=>(Dg r 0 0 u 0).2.2.2.2
 |.holds x=>(step_ask r x).1
 |.truth x=>(step_ask r x).2.1
 |.reduce x=>(step_ask r x).2.2
 |.tell x=>al8 r x
 |.whisper a x=>ama r hn a x
 |.show_ a x=>al9 r a x
 |.again x=>step_again r x
 |.alike u v=>(Hi r [] u v).2.2.1
 |.least=>al' r
 |.chain x=>(Hi r x 0 0).1
 |.minds x=>(Hi r x 0 0).2.1
 |.undo=>amb r
 |.model=>(Hi r [] 0 0).2.2.2
def cg.perm (h:cg m a n)(e:dr m' m):cg m' a n:=by have ei:ae m'=ae m:=kO e;exact{nd:=by rw[ei];exact h.nd,cz:=by rw[e.1];exact h.cz,ends:=λl hl=>by rw[ei];exact h.ends l (e.2.mem_iff.mp hl),agents:=λl hl=>h.agents l (e.2.mem_iff.mp hl),iS:=by rw[e.2.length_eq];exact h.iS,le:=λu hu=>h.le u (by grind),so:=by rw[ei];exact h.so,up:=by rw[ei];exact h.up,gq:=e.2.nodup_iff.mpr h.gq,byte:=λs hs=>h.byte s (by rw[<-e.1];exact hs)}
def cg.only (h:cg m a n)(pr:Nat->Bool)(ha:a'=0\/a'∈(ae m).filter pr):cg (dh m pr) a' n:=
 {h.tofg.only pr with le:=λu hu=>by rw[r9]at hu;exact h.le u (fw.mp hu).1,so:=by rw[r9];exact ha,up:=by rw[r9];exact h.up.filter _,gq:=h.gq.filter _,byte:=λs hs=>h.byte s (fw.mp hs).1}
def cg.mono (h:cg m a n)(hle:n<=n'):cg m a n':={h with le:=λu hu=>⟨(h.le u hu).1,fJ (h.le u hu).2 hle⟩}
def cg.empty:cg {} 0 0:={nd:=j5,cz:=by decide,ends:=(λl h=>by cases h),agents:=(λl h=>by cases h),iS:=by decide,le:=(λu h=>by cases h),so:=.inl O,up:=Yf,gq:=j5,byte:=(λs h=>by cases h)}
def cg.told (h:cg m a n)(f:bo)(ha:kG f m a=L):cg (kH m f) a n:=by have h1:a∈aU f m:=holds_iff.mp ha;exact h.only _ (.inr (fw.mpr ⟨Ar h1,by grind⟩))
def cg.links (h:cg m a n)(pr:cD->Bool):cg ⟨m.states,m.links.filter pr⟩ a n:=
 {nd:=h.nd,cz:=h.cz,ends:=(λl hl=>h.ends l (fw.mp hl).1),agents:=(λl hl=>h.agents l (fw.mp hl).1),iS:=fJ (jT _ _) h.iS,le:=h.le,so:=h.so,up:=h.up,gq:=h.gq.filter _,byte:=h.byte}
theorem cg.again (f:bo):∀(k:Nat){m:Md},cg m a n->cg (jF f a k m).2 a n
 |0,m,h=>h
 |k+1,m,h=>by
  simp only[jF];split
  .next hb=>exact cg.again f k (h.told f (EY.mp hb).1)
  .exact h
def cg.state (h:cg m a n)(hl:m.states.length<16)(hk:k<256):cg ⟨m.states++[⟨n+1,k⟩],m.links⟩ a (n+1):=by
 have ei:ae (⟨m.states++[⟨n+1,k⟩],m.links⟩:Md)=ae m++[n+1]:=by unfold ae;simp
 have up:(ae m++[n+1]).Pairwise (·<·):=aaL.mpr ⟨h.up,by simp,λx hx y hy=>by
  have hy:y=n+1:=by grind
  have:=(h.le x hx).2
  lia⟩
 exact{nd:=by rw[ei];exact up.imp λ{x y} z=>by lia,cz:=by grind,ends:=λl hl=>by rw[ei];exact⟨yi _ (h.ends l hl).1,yi _ (h.ends l hl).2⟩,agents:=h.agents,iS:=h.iS,le:=λu hu=>by
                    rw[ei]at hu;rcases eX.mp hu with z|z
                    .have:=h.le u z;lia
                    rfl',so:=by rw[ei];exact h.so.imp id (yi _),up:=by grind,gq:=h.gq,byte:=λs hs=>by
                    rcases eX.mp hs with z|z
                    .exact h.byte s z
                    rfl'}
def cg.link (h:cg m a n)(ha:l.a<4)(hu:l.u∈ae m)(hv:l.v∈ae m)(hl:l∉m.links)(hf:m.links.length<200):cg ⟨m.states,m.links++[l]⟩ a n:=
 {nd:=h.nd,cz:=h.cz,le:=h.le,so:=h.so,up:=h.up,byte:=h.byte,ends:=λx hx=>by
                 rcases eX.mp hx with z|z
                 .exact h.ends x z
                 .have:x=l:=by simpa using z
                  rw[this];exact⟨hu,hv⟩,agents:=λx hx=>by
                 rcases eX.mp hx with z|z
                 .exact h.agents x z
                 rfl',iS:=by grind,gq:=Cj.mpr ⟨h.gq,by simp,λx hx y hy e=>hl (by grind)⟩}
def cg.at_ (h:cg m a n)(ha:a'=0\/a'∈ae m):cg m a' n:={h with so:=ha}
def cg.least (h:cg m a n)(ha:a≠0):cg (vJ m a) (cu (bq (dh m λv=>v==a||(cV m a).contains v)) (dh m λv=>v==a||(cV m a).contains v) a) n:=by
 have gC:a∈ae m:=h.so.resolve_left ha;have CW:a∈(ae m).filter λv=>v==a||(cV m a).contains v:=fw.mpr ⟨gC,by simp⟩;have hr:cg (dh m λv=>v==a||(cV m a).contains v) a n:=h.only _ (.inr CW);have el:vJ m a={states:=(dh m λv=>v==a||(cV m a).contains v).states.filter (λx=>cu (bq (dh m λv=>v==a||(cV m a).contains v)) (dh m λv=>v==a||(cV m a).contains v) x.id==x.id),links:=fk (cu (bq (dh m λv=>v==a||(cV m a).contains v)) (dh m λv=>v==a||(cV m a).contains v)) (dh m λv=>v==a||(cV m a).contains v).links}:=rfl;rw[el];have z4:a∈ae (dh m λv=>v==a||(cV m a).contains v):=by rw[r9];exact CW
 generalize(dh m λv=>v==a||(cV m a).contains v)=r at hr z4
 have ei:∀ls,ae (⟨r.states.filter (λx=>cu (bq r) r x.id==x.id),ls⟩:Md)=(ae r).filter λx=>cu (bq r) r x==x:=λls=>by unfold ae;rw[yb];rfl
 have jo:∀u,u∈ae r->cu (bq r) r u∈(ae r).filter λx=>cu (bq r) r x==x:=λu hu=>fw.mpr ⟨GU hu,by simpa using GV hu⟩
 exact{nd:=by rw[ei];exact hr.nd.filter _,cz:=fJ (jT _ _) hr.cz,ends:=λx hx=>by
                    obtain⟨l,hl,rfl⟩:=xT _ _ x hx;rw[ei];exact⟨jo _ (hr.ends l hl).1,jo _ (hr.ends l hl).2⟩,agents:=λx hx=>by
                    obtain⟨l,hl,rfl⟩:=xT _ _ x hx
                    exact hr.agents l hl,iS:=fJ (N2 _ _) hr.iS,le:=λu hu=>by rw[ei]at hu;exact hr.le u (fw.mp hu).1,so:=by grind,up:=by rw[ei];exact hr.up.filter _,gq:=GX _ _,byte:=λs hs=>hr.byte s (fw.mp hs).1}
def cg.whisper (h:cg m a n)(g:Nat)(hg:g<4)(hn:l.Nodup)(hs:∀u∈l,u∈ae m)(ha:a∈l)(h1:m.states.length+l.length<=16)(h2:m.links.length+(gK n g l m.links).length<=200):cg ⟨m.states++g0 m n l,m.links++gK n g l m.links⟩ (cp n l a) (n+l.length):=by
 have ei:ae (⟨m.states++g0 m n l,m.links++gK n g l m.links⟩:Md)=ae m++l.map (cp n l):=by unfold ae g0;simp
 have cpi:∀u∈l,n<cp n l u/\cp n l u<=n+l.length:=λu hu=>by have:=DB.mpr hu;unfold cp;lia
 have upc:(l.map (cp n l)).Pairwise (·<·):=by rw[E9,Uk];intro i j hi hj Fb;have e1:=CC hn (cc hi);have e2:=CC hn (cc hj);unfold cp;lia
 have up:(ae m++l.map (cp n l)).Pairwise (·<·):=aaL.mpr ⟨h.up,upc,λx hx y hy=>by
  obtain⟨u,hu,rfl⟩:=cx.mp hy;have:=(h.le x hx).2
  grind⟩
 have inl:∀u∈ae m,u∈ae m++l.map (cp n l):=λu hu=>yi _ hu;have inr:∀u∈l,cp n l u∈ae m++l.map (cp n l):=λu hu=>sQ _ (cx.mpr ⟨u,hu,O⟩)
 have spec:∀x∈gK n g l m.links,x.a<4/\x.u∈ae m++l.map (cp n l)/\x.v∈ae m++l.map (cp n l):=λx hx=>by
  obtain⟨k,hk,e⟩:=AO.mp hx;have he:=h.ends k hk;have hka:=h.agents k hk;unfold jb at e;split at e
  .next hu=>
   have hu:k.u∈l:=by simpa using hu
   split at e
   .rfl'
   .split at e;rfl'
  .cases e
 exact{nd:=by rw[ei];exact up.imp λ{x y} z=>by lia,cz:=by show(m.states++g0 m n l).length<=16;unfold g0;grind,ends:=λx hx=>by
                    rw[ei];rcases eX.mp hx with z|z
                    .exact⟨inl _ (h.ends x z).1,inl _ (h.ends x z).2⟩
                    .grind,agents:=λx hx=>by
                    rcases eX.mp hx with z|z
                    .exact h.agents x z
                    .grind,iS:=by grind,le:=λu hu=>by
                    rw[ei]at hu;rcases eX.mp hu with z|z
                    .have:=h.le u z;lia
                    .grind,so:=by grind,up:=by grind,gq:=Cj.mpr ⟨h.gq,M' h.gq,λx hx y hy e=>by
                    subst e;have h3:=XX hy;have h4:=(h.le _ (h.ends x hx).1).2
                    lia⟩,byte:=λs wX=>by
                    rcases eX.mp wX with z|z
                    .exact h.byte s z
                    .obtain⟨u,hu,rfl⟩:=cx.mp z;obtain⟨t,ht,e⟩:=cx.mp (hs u hu);obtain⟨i,hi⟩:=lX ht;show cF m u<256;rw[<-e,xn h.nd hi]
                     exact h.byte t ht}
def hG (x:Nat):Nat:=((x*2147483648)%18446744073709551616+x/8589934592)*11400714785074694791%18446744073709551616
def hZ (s u:Nat):Nat:=hG ((s+u*14029467366897019727)%18446744073709551616)*839798700976720815%18446744073709551616
def hIn (z:Nat):Bool:=Hj 4000 (z%70368744177664)&&Hj (z%70368744177664) 70368744173664
noncomputable def O1 (z acc:Nat)(k:Nat->Nat):Nat:=bif Hj 1 acc&&(hIn z&&O2 (Nat.land acc (Di 2 (z/70368744177664))) 0)then k (Nat.lor acc (Di 2 (z/70368744177664)))else 0
def xZ (s:Nat):Nat->Nat->Nat
 |0,acc=>acc
 |u+1,acc=>O1 (hZ s u) acc (xZ s u)
def hS (a:Nat):Nat:=hG ((2870177450012600261+a*14029467366897019727)%18446744073709551616)
def hR:Nat->Nat
 |0=>Di 2 (16680575644954319924/70368744177664)
 |a+1=>xZ (hS a) 1605 (hR a)
def amd:O2 (hR 4) 0=false:=by decide+kernel
theorem Aj (s:Nat):∀(n acc:Nat),xZ s n acc≠0->acc≠0/\(∀u,u<n->hIn (hZ s u)=L/\acc.testBit (hZ s u/70368744177664)=aH)/\(∀u u',u<n->u'<u->hZ s u/70368744177664≠hZ s u'/70368744177664)/\(∀b,acc.testBit b=L->(xZ s n acc).testBit b=L)/\∀u,u<n->(xZ s n acc).testBit (hZ s u/70368744177664)=L
 |0,acc,h=>⟨h,λu hu=>bT hu (Dx _),λu u' hu=>bT hu (Dx _),λb hb=>hb,λu hu=>bT hu (Dx _)⟩
 |n+1,acc,h=>by
  have e:xZ s (n+1) acc=O1 (hZ s n) acc (xZ s n):=rfl;rw[e]at h ⊢;unfold O1 at h ⊢;generalize hb:hZ s n/70368744177664=b at*;cases hc:(Hj 1 acc&&(hIn (hZ s n)&&O2 (Nat.land acc (Di 2 b)) 0))with
  |false=>grind
  |true=>
   rw[hc]at h;rw[cond_true]at h ⊢;simp only[fQ]at hc;obtain⟨h1,h2,h3⟩:=hc;have h1:1<=acc:=Nat.le_of_ble_eq_true h1;have h3:acc&&&2^b=0:=Nat.eq_of_beq_eq_true h3
   have hnb:acc.testBit b=false:=by have:=cb (λx=>x.testBit b) h3;grind
   obtain⟨i1,i2,i3,i4,i5⟩:=Aj s n _ h;have hl:∀x,(Nat.lor acc (Di 2 b)).testBit x=(acc.testBit x||(2^b).testBit x):=λx=>rZ acc (2^b) x;rfl'
def ame:∀a,a<=4->hR a≠0
 |a,h=>by
  have h4:hR 4≠0:=λz=>by have:=amd;simp_all
  have h3:hR 3≠0:=(Aj _ _ _ h4).1;have h2:hR 2≠0:=(Aj _ _ _ h3).1;have h1:hR 1≠0:=(Aj _ _ _ h2).1;have h0:hR 0≠0:=(Aj _ _ _ h1).1;grind
def x6 (h:a<4):hR a≠0/\(∀u,u<1605->hIn (hZ (hS a) u)=L/\(hR a).testBit (hZ (hS a) u/70368744177664)=aH)/\(∀u u',u<1605->u'<u->hZ (hS a) u/70368744177664≠hZ (hS a) u'/70368744177664)/\(∀b,(hR a).testBit b=L->(hR (a+1)).testBit b=L)/\∀u,u<1605->(hR (a+1)).testBit (hZ (hS a) u/70368744177664)=true:=Aj (hS a) 1605 (hR a) (ame (a+1) h)
def amf (h:a<4)(hb:(hR a).testBit b=L):(hR (a+1)).testBit b=true:=(x6 h).2.2.2.1 b hb
def O3:∀(d a:Nat),a+d<=4->(hR a).testBit b=L->(hR (a+d)).testBit b=L
 |0,a,_,h=>h
 |d+1,a,hl,h=>amf (a:=a+d) (by lia) (O3 d a (by lia) h)
def hB (a u:Nat):Nat:=hZ (hS a) u/70368744177664
def aaM (ha:a<a')(xJ:a'<4)(hu:u<1605)(ie:u'<1605):hB a u≠hB a' u':=λz=>by
 have h1:(hR (a+1)).testBit (hB a u)=true:=(x6 (by lia:a<4)).2.2.2.2 u hu
 have h2:(hR a').testBit (hB a u)=true:=by have:=O3 (a'-(a+1)) (a+1) (by lia) h1;grind
 have h3:=((x6 xJ).2.1 u' ie).2;rw[show hZ (hS a') u'/70368744177664=hB a' u' from rfl,<-z,h2]at h3;cases h3
def amg (ha:a<4)(xJ:a'<4)(hu:u<1605)(ie:u'<1605)(e:hB a u=hB a' u'):a=a'/\u=u':=by
 rcases aaN a a' with h|h|h
 .exact bT e (aaM h xJ hu ie)
 .subst h;refine⟨O,?_⟩;rcases aaN u u' with h|h|h
  .exact bT e.symm ((x6 ha).2.2.1 u' u ie h)
  .exact h
  .exact bT e ((x6 ha).2.2.1 u u' hu h)
 .exact bT e.symm (aaM h ha ie hu)
def amh (ha:a<4)(hu:u<1605):hB a u≠16680575644954319924/70368744177664:=λz=>by have h1:(hR 0).testBit (16680575644954319924/70368744177664)=true:=Nat.testBit_two_pow_self;have h2:=O3 a 0 (by lia) h1;rw[TZ]at h2;have h3:=((x6 ha).2.1 u hu).2;rw[show hZ (hS a) u/70368744177664=hB a u from rfl,z,h2]at h3;cases h3
def ami (ha:a<4)(hu:u<1605):4000<=hZ (hS a) u%70368744177664/\hZ (hS a) u%70368744177664<=70368744173664:=by have h:=((x6 ha).2.1 u hu).1;unfold hIn at h;simp_all
def aaO (hx:x<18446744073709551616)(hy:y<18446744073709551616)(h:hG x=hG y):x=y:=by
 have key:∀x,x<18446744073709551616->hG x*614540362697595703%18446744073709551616=(x%8589934592)*2147483648+x/8589934592:=λx hx=>by unfold hG;lia
 grind
def amj:(s+v*14029467366897019727)%18446744073709551616*839798700976720815%18446744073709551616=(s*839798700976720815%18446744073709551616+v)%18446744073709551616:=by lia
noncomputable def hH (a u v:Nat):Nat:=(hG ((hG ((hS a+u*14029467366897019727)%18446744073709551616)+v*14029467366897019727)%18446744073709551616)+2870177450013471925)%18446744073709551616
def amk (h1:p<18446744073709551616)(h2:q<18446744073709551616)(h:(p+2870177450013471925)%18446744073709551616=(q+2870177450013471925)%18446744073709551616):p=q:=by lia
def O4 (x:Nat):hG x<18446744073709551616:=vS _ (by decide)
def aml (s u:Nat):hZ s u<18446744073709551616:=vS _ (by decide)
def O5 (ha:a<4)(hu:u<1605)(hv:v<1605):((hG ((hS a+u*14029467366897019727)%18446744073709551616)+v*14029467366897019727)%18446744073709551616)*839798700976720815%18446744073709551616=hZ (hS a) u+v/\(hZ (hS a) u+v)/70368744177664=hB a u:=by rw[amj];have h:=ami ha hu;have hz:=aml (hS a) u;rw[show hG ((hS a+u*14029467366897019727)%18446744073709551616)*839798700976720815%18446744073709551616=hZ (hS a) u from rfl];unfold hB;generalize hZ (hS a) u=z at*;lia
def amm (ha:a<4)(hu:u<1605)(hv:v<1605):hH a u v≠18446744073709551615:=λz=>by
 unfold hH at z;obtain⟨t1,t2⟩:=O5 ha hu hv;generalize hx:(hG ((hS a+u*14029467366897019727)%18446744073709551616)+v*14029467366897019727)%18446744073709551616=x at*;have hl:x<18446744073709551616:=by rw[<-hx];exact vS _ (by decide)
 have hs:hG 1837738906727985164=15576566623696079690:=by decide+kernel
 have hg:=O4 x;have e:hG x=hG 1837738906727985164:=by rw[hs];lia
 have e:=aaO hl (by decide) e;rw[e]at t1;have:1837738906727985164*839798700976720815%18446744073709551616=16680575644954319924:=by decide+kernel
 rw[this]at t1;rw[<-t1]at t2;exact amh ha hu t2.symm
def amn (ha:a<4)(hu:u<1605)(hv:v<1605)(xJ:a'<4)(ie:u'<1605)(yq:v'<1605)(h:hH a u v=hH a' u' v'):a=a'/\u=u'/\v=v':=by
 unfold hH at h;obtain⟨t1,t2⟩:=O5 ha hu hv;obtain⟨q1,q2⟩:=O5 xJ ie yq;generalize hx:(hG ((hS a+u*14029467366897019727)%18446744073709551616)+v*14029467366897019727)%18446744073709551616=x at*;generalize hy:(hG ((hS a'+u'*14029467366897019727)%18446744073709551616)+v'*14029467366897019727)%18446744073709551616=y at*;have hl:x<18446744073709551616:=by rw[<-hx];exact vS _ (by decide)
 have kQ:y<18446744073709551616:=by rw[<-hy];exact vS _ (by decide)
 have hg:=O4 x;have xD:=O4 y;have e:=aaO hl kQ (amk hg xD h);rw[e]at t1;have hz:=t1.symm.trans q1;rw[hz,q2]at t2;obtain⟨rfl,rfl⟩:=amg xJ ha ie hu t2;exact⟨O,O,Nat.add_left_cancel hz⟩
def O6 (h:n<1605):Dj ((n:Nat):Int)=n:=by
 have e:aaP ((n:Nat):Int)=n:=by
  unfold aaP;simp only[Int.natAbs_natCast]
  have h1:((n:Int))%((2^61-1:Nat):Int)=n:=by
   have h2:((2^61-1:Nat):Int)=2305843009213693951:=by decide
   rw[h2];lia
  rw[h1,au (show¬((n:Nat):Int)<0 by lia),au (by rw[pq];lia)]
 unfold Dj;rw[e,au (by rw[pq];lia)]
def O7 (acc n:Nat)(h:n<1605):(let mX:=(acc+(((n:Nat):Int)%((2^64:Nat):Int)).toNat*14029467366897019727)%2^64;let mX:=(mX*2^31)%2^64+mX/2^33;(mX*11400714785074694791)%2^64)=hG ((acc+n*14029467366897019727)%18446744073709551616):=by
 have h1:(((n:Nat):Int)%((2^64:Nat):Int)).toNat=n:=by
  have h2:((2^64:Nat):Int)=18446744073709551616:=by decide
  rw[h2];lia
 rw[h1];rfl
def amo {a u v:Nat}(ha:a<4)(hu:u<1605)(hv:v<1605):O8 (Hk [(a:Int),(u:Int),(v:Int)])=if hH a u v<9223372036854775808 then((hH a u v:Nat):Int)else((hH a u v:Nat):Int)-18446744073709551616:=by
 have hs:=amm ha hu hv;have hl:hH a u v<18446744073709551616:=vS _ (by decide)
 have e:Hk [(a:Int),(u:Int),(v:Int)]=if hH a u v<9223372036854775808 then((hH a u v:Nat):Int)else((hH a u v:Nat):Int)-18446744073709551616:=by
  have e3:hG ((hG ((hG ((2870177450012600261+a*14029467366897019727)%18446744073709551616)+u*14029467366897019727)%18446744073709551616)+v*14029467366897019727)%18446744073709551616)=([(a:Int),(u:Int),(v:Int)].foldl (init:=2870177450012600261) λacc h=>let acc:=(acc+(h%((2^64:Nat):Int)).toNat*14029467366897019727)%2^64;let acc:=(acc*2^31)%2^64+acc/2^33;(acc*11400714785074694791)%2^64):=by rw[Bc,Bc,Bc,List.foldl_nil,O7 _ _ (by lia:a<1605),O7 _ _ hu,O7 _ _ hv]
  unfold Hk;simp only[];rw[<-e3]
  have ec:([(a:Int),(u:Int),(v:Int)].length^^^(2870177450012600261^^^3527539))=2870177450013471925:=by show(3^^^(2870177450012600261^^^3527539))=2870177450013471925;decide
  rw[ec];have eh:(hG ((hG ((hG ((2870177450012600261+a*14029467366897019727)%18446744073709551616)+u*14029467366897019727)%18446744073709551616)+v*14029467366897019727)%18446744073709551616)+2870177450013471925)%2^64=hH a u v:=rfl;rw[eh,au (by rw[pq];exact hs)];rfl
 rw[e];generalize hH a u v=n at hs hl;unfold O8;by_cases h:n<9223372036854775808
 .rw[aD h,aD (by rw[fQ,tf,tf];constructor<;>lia),au (by rw[pq];lia)]
 .rw[au h,aD (by rw[fQ,tf,tf];constructor<;>lia),au (by rw[pq];lia)]
def amq (h1:i<18446744073709551616)(h2:j<18446744073709551616)(e:(if i<9223372036854775808 then((i:Nat):Int)else((i:Nat):Int)-18446744073709551616)=if j<9223372036854775808 then((j:Nat):Int)else((j:Nat):Int)-18446744073709551616):i=j:=by by_cases a:i<9223372036854775808<;>by_cases b:j<9223372036854775808<;>simp only[a,b,if_true,if_false]at e<;>lia
def amr (P:bx)(w:World)(z:cD):tupleKeyHash (dN P w) (fc z)=O8 (Hk [Dj ((z.a:Nat):Int),Dj ((z.u:Nat):Int),Dj ((z.v:Nat):Int)]):=rfl
def key_is (P:bx)(w:World)(z:cD)(h1:z.a<4)(h2:z.u<1605)(h3:z.v<1605):tupleKeyHash (dN P w) (fc z)=if hH z.a z.u z.v<9223372036854775808 then((hH z.a z.u z.v:Nat):Int)else((hH z.a z.u z.v:Nat):Int)-18446744073709551616:=by rw[<-amo h1 h2 h3,amr,O6 (JA h1 (by decide)),O6 h2,O6 h3]
def ams (h:cg m a n)(hn:n<=1604)(hx:x∈m.links)(hy:y∈m.links)(e:tupleKeyHash (dN P w) (fc x)=tupleKeyHash (dN P w) (fc y)):x=y:=by
 have big:∀u∈ae m,u<1605:=λu hu=>Nat.lt_succ_of_le (fJ (h.le u hu).2 hn);have lx:=h.ends x hx;have ly:=h.ends y hy;have ax:=h.agents x hx;have ay:=h.agents y hy;rw[key_is P w x ax (big _ lx.1) (big _ lx.2),key_is P w y ay (big _ ly.1) (big _ ly.2)]at e;have l1:hH x.a x.u x.v<18446744073709551616:=vS _ (by decide);have l2:hH y.a y.u y.v<18446744073709551616:=vS _ (by decide);obtain⟨e1,e2,e3⟩:=amn ax (big _ lx.1) (big _ lx.2) ay (big _ ly.1) (big _ ly.2) (amq l1 l2 e);cases x;cases y
 cases e1;cases e2;cases e3
 rfl
theorem aaQ (f:α->β):∀(l:List α),(∀x∈l,∀y∈l,f x=f y->x=y)->l.Nodup->(l.map f).Nodup
 |[],_,_=>j5
 |x::l,inj,cI=>by rw[fW]at cI;rw[dX,fW];refine⟨λz=>?_,aaQ f l (λx hx y hy=>inj x (eD _ hx) y (eD _ hy)) cI.2⟩;obtain⟨y,hy,e⟩:=cx.mp z;exact cI.1 (inj y (eD _ hy) x eR e▸hy)
def amt (h:cg m a n)(hn:n<=1604):BD P w (bw m.links):=by have e:=aaQ (λz:cD=>tupleKeyHash (dN P w) (fc z)) m.links (λx hx y hy e=>ams h hn hx hy (show tupleKeyHash (dN P w) (fc x)=tupleKeyHash (dN P w) (fc y)from e)) h.gq;unfold BD bw;rw[gw];exact e
noncomputable def vT (c:Nat)(w:fi)(ans:List Int):List (Md×Nat):=if ans.head?=B 0 then(if ox c=L then(w.model,w.at_)::w.past else if rX c=L then[]else w.past)else w.past
def fS (m:Md):Nat:=min 4 (m.states.length-8)
theorem O9 (m:Md):fS m<=4:=Nat.min_le_left _ _
structure dD (c:Nat)(w:fi)(s r:fi×List Int):Prop where
 ans:r.2=s.2
 model:r.1.model=s.1.model
 last:r.1.last=s.1.last
 at_:r.1.at_=s.1.at_
 past:s.1.past=vT c w s.2
 ok:cg s.1.model s.1.at_ s.1.last
 more:w.last<=s.1.last/\s.1.last+fS w.model<=w.last+4+fS s.1.model
 one:s.2≠[]
 len:s.2.length<=12001
theorem ue (n:Nat)(m m':Md):n<=n/\n+fS m<=n+4+fS m':=⟨aX _,by have:=O9 m;cutsat⟩
theorem uf (g:cg w.model w.at_ w.last)(hp:(ox c=aH/\rX c=aH)\/ans.head?≠B 0)(h1:ans≠[])(h2:ans.length<=12001):dD c w (w,ans) (W0 w.model w.at_ w.last,ans):=
 ⟨O,O,O,O,by
  unfold vT
  rfl',g,ue _ _ _,h1,h2⟩
theorem dM (g:cg w.model w.at_ w.last)(h:n≠0):dD c w (w,[n]) (W0 w.model w.at_ w.last,[n]):=uf g (.inr λz=>h (iO z)) (l9 _ _) (by simp)
theorem Dk (g:cg m u n)(hc:ox c=L)(h:w.last<=n/\n+fS w.model<=w.last+4+fS m)(h2:t.length<=10):dD c w ({O0 w m u with last:=n},0::t) (W0 m u n,0::t):=
 ⟨O,O,O,O,by unfold vT;rw[hc];rfl,g,h,l9 _ _,by simp;lia⟩
theorem Dn (g:cg m u n)(hc:ox c=aH)(hd:rX c=L)(h:w.last<=n/\n+fS w.model<=w.last+4+fS m)(h2:t.length<=10):dD c w (⟨m,n,u,[]⟩,0::t) (⟨m,n,u,[]⟩,0::t):=
 ⟨O,O,O,O,by unfold vT;grind,g,h,l9 _ _,by simp;lia⟩
theorem ug (x:List Nat):(xX x=N/\qN x=(-1,.top))\/(∃f,xX x=B f/\40<f.deep/\qN x=(-2,.top))\/(∃f,xX x=B f/\¬40<f.deep/\qN x=(0,f)/\Wf f):=by
 unfold qN;cases h:xX x with
 |none=>simp
 |some f=>
  by_cases hd:40<f.deep
  .exact .inr (.inl ⟨f,O,hd,aD hd⟩)
  .exact .inr (.inr ⟨f,O,hd,au hd,PL h⟩)
theorem amu (ok:cg m a n)(h0:a≠0)(f:bo)(hc:o8 m a f=B l):(flat l).length<=40:=by
 have gC:a∈ae m:=ok.so.resolve_left h0;have h1:=Nt ok.nd gC f;rw[hc]at h1;cases hf:(bg m (kb m a)).find? (λe=>!(aU f m).contains e.1)with
 |none=>rw[hf]at h1;cases h1
 |some e=>rw[hf]at h1;have h1:e.2=flat l:=iO h1;obtain⟨x,hx,pr,hp,rfl⟩:=vz (ma hf);have:=NC ok.tofg hx;rw[<-h1];show(x.2++[pr.1,pr.2]).length<=_;grind
theorem amv (ok:fg m)(f:bo):(aU f m).length<=16:=by rw[nG];have:=jT (λu=>(aU f m).contains u) (ae m);have:=ok.cz;have:=gD m;lia
theorem vU (l:List Nat):(Vbtaag.ints l).length=l.length:=dj _
section
variable{w:fi}(g:cg w.model w.at_ w.last)(x:List Nat)
include g
theorem amw:dD 5 w (aO w (.holds x)) (fR 5 [] x w.model w.at_ w.last):=by
 unfold fR;rw[aD (show(([]:List Int).all λa=>decide (0<=a/\a<4))=L from rfl)];simp only[aO];rcases ug x with⟨h1,h2⟩|⟨f,h1,h3,h2⟩|⟨f,h1,h3,h2,hw⟩<;>rw[h1,h2]
 .exact dM g (by decide)
 .simp only[aD h3];exact dM g (by decide)
 .simp only[au h3];refine uf g (.inl ⟨O,O⟩) (l9 _ _) ?_;have:=amv g.tofg f;rw[dY,vU];lia
theorem amx:dD 6 w (aO w (.truth x)) (fR 6 [] x w.model w.at_ w.last):=by
 unfold fR;rw[aD (show(([]:List Int).all λa=>decide (0<=a/\a<4))=L from rfl)];simp only[aO];rcases ug x with⟨h1,h2⟩|⟨f,h1,h3,h2⟩|⟨f,h1,h3,h2,hw⟩<;>rw[h1,h2]
 .exact dM g (by decide)
 .simp only[aD h3];exact dM g (by decide)
 .simp only[au h3];by_cases h0:w.at_=0
  .have e:qL 6 w.model w.at_ f=[-7]:=aD h0;show dD 6 w (if w.at_=0 then _ else _) (W0 w.model w.at_ w.last,qL 6 w.model w.at_ f);rw[e,aD h0];exact dM g (by decide)
  .have e:qL 6 w.model w.at_ f=[0,if kG f w.model w.at_=L then 1 else 0]:=au h0;show dD 6 w (if w.at_=0 then _ else _) (W0 w.model w.at_ w.last,qL 6 w.model w.at_ f);rw[e,au h0];exact uf g (.inl ⟨O,O⟩) (l9 _ _) (by simp)
theorem amy:dD 7 w (aO w (.reduce x)) (fR 7 [] x w.model w.at_ w.last):=by
 unfold fR;rw[aD (show(([]:List Int).all λa=>decide (0<=a/\a<4))=L from rfl)];simp only[aO];rcases ug x with⟨h1,h2⟩|⟨f,h1,h3,h2⟩|⟨f,h1,h3,h2,hw⟩<;>rw[h1,h2]
 .exact dM g (by decide)
 .simp only[aD h3];exact dM g (by decide)
 .simp only[au h3];show dD 7 w (if xi f=L then(w,[-8])else if 3000<(Ce f).1 then(w,[-9])else(w,0::Vbtaag.ints (Cy (xk f)))) (W0 w.model w.at_ w.last,Cu f);unfold Cu;by_cases hs:xi f=L
  .rw[aD hs,aD hs];exact dM g (by decide)
  .rw[au hs,au hs];by_cases hb:3000<(Ce f).1
   .rw[aD hb,aD hb];exact dM g (by decide)
   .rw[au hb,au hb];refine uf g (.inl ⟨O,O⟩) (l9 _ _) ?_;have rl:=pO f hw (by grind);have shl:=my (xk f);rw[kj]at rl;rw[dY,vU];lia
theorem amz:dD 14 w (aO w (.chain x)) (fR 14 [] x w.model w.at_ w.last):=by
 unfold fR;rw[aD (show(([]:List Int).all λa=>decide (0<=a/\a<4))=L from rfl)];simp only[aO];rcases ug x with⟨h1,h2⟩|⟨f,h1,h3,h2⟩|⟨f,h1,h3,h2,hw⟩<;>rw[h1,h2]
 .exact dM g (by decide)
 .simp only[aD h3];exact dM g (by decide)
 .simp only[au h3];show dD 14 w (if w.at_=0 then(w,[-7])else match o8 w.model w.at_ f with|none=>(w,[-11])|some l=>(w,0::Vbtaag.ints (flat l))) (W0 w.model w.at_ w.last,CH w.model w.at_ f);unfold CH;by_cases h0:w.at_=0
  .rw[aD h0,aD h0];exact dM g (by decide)
  .rw[au h0,au h0];cases hc:o8 w.model w.at_ f with
   |none=>exact dM g (by decide)
   |some l=>refine uf g (.inl ⟨O,O⟩) (l9 _ _) ?_;have:=amu g h0 f hc;rw[dY,vU];lia
theorem amA:dD 15 w (aO w (.minds x)) (fR 15 [] x w.model w.at_ w.last):=by
 unfold fR;rw[aD (show(([]:List Int).all λa=>decide (0<=a/\a<4))=L from rfl)];simp only[aO];rcases ug x with⟨h1,h2⟩|⟨f,h1,h3,h2⟩|⟨f,h1,h3,h2,hw⟩<;>rw[h1,h2]
 .exact dM g (by decide)
 .simp only[aD h3];exact dM g (by decide)
 .simp only[au h3];by_cases h0:w.at_=0
  .have e:qL 15 w.model w.at_ f=[-7]:=aD h0;show dD 15 w (if w.at_=0 then _ else _) (W0 w.model w.at_ w.last,qL 15 w.model w.at_ f);rw[e,aD h0];exact dM g (by decide)
  .show dD 15 w (if w.at_=0 then _ else _) (W0 w.model w.at_ w.last,Cz w.model w.at_ f);unfold Cz;rw[au h0,au h0];refine uf g (.inl ⟨O,O⟩) (l9 _ _) ?_;rw[dY,vU,dj];decide
theorem amB:dD 8 w (aO w (.tell x)) (fR 8 [] x w.model w.at_ w.last):=by
 unfold fR;rw[aD (show(([]:List Int).all λa=>decide (0<=a/\a<4))=L from rfl)];simp only[aO];rcases ug x with⟨h1,h2⟩|⟨f,h1,h3,h2⟩|⟨f,h1,h3,h2,hw⟩<;>rw[h1,h2]
 .exact dM g (by decide)
 .simp only[aD h3];exact dM g (by decide)
 .simp only[au h3];show dD 8 w (if w.at_=0 then _ else _) (xq w.model w.at_ w.last f);unfold xq;by_cases h0:w.at_=0
  .rw[aD h0,aD h0];exact dM g (by decide)
  .rw[au h0,au h0];by_cases hb:kG f w.model w.at_=aH
   .rw[aD hb,aD hb];exact dM g (by decide)
   .rw[au hb,au hb];exact Dk (w:=w) (n:=w.last) (g.told f (by grind)) O (ue _ _ _) (by simp)
theorem amC:dD 11 w (aO w (.again x)) (fR 11 [] x w.model w.at_ w.last):=by
 unfold fR;rw[aD (show(([]:List Int).all λa=>decide (0<=a/\a<4))=L from rfl)];simp only[aO];rcases ug x with⟨h1,h2⟩|⟨f,h1,h3,h2⟩|⟨f,h1,h3,h2,hw⟩<;>rw[h1,h2]
 .exact dM g (by decide)
 .simp only[aD h3];exact dM g (by decide)
 .simp only[au h3];show dD 11 w (if w.at_=0 then _ else _) (xr w.model w.at_ w.last f);unfold xr;by_cases h0:w.at_=0
  .rw[aD h0,aD h0];exact dM g (by decide)
  .rw[au h0,au h0];exact Dk (w:=w) (n:=w.last) (g.again f _) O (ue _ _ _) (by simp)
end
theorem aaR (a:Int):(([a]:List Int).all λa=>decide (0<=a/\a<4))=o4 a:=by unfold o4;rw[yz,List.all_nil,DE,Bool.decide_and];rfl
section
variable{w:fi}(g:cg w.model w.at_ w.last)(a:Int)(x:List Nat)
include g
theorem amD:dD 10 w (aO w (.show_ a x)) (fR 10 [a] x w.model w.at_ w.last):=by
 unfold fR;rw[aaR];simp only[aO];by_cases ha:o4 a=L
 .rw[aD ha,au (by grind)];rcases ug x with⟨h1,h2⟩|⟨f,h1,h3,h2⟩|⟨f,h1,h3,h2,hw⟩<;>rw[h1,h2]
  .exact dM g (by decide)
  .simp only[aD h3];exact dM g (by decide)
  .simp only[au h3];show dD 10 w _ (zJ w.model w.at_ w.last a.toNat f);unfold zJ;exact Dk (w:=w) (n:=w.last) (g.links _) O (ue _ _ _) (by simp)
 .rw[au ha,aD (by grind)];exact dM g (by decide)
theorem amE:dD 9 w (aO w (.whisper a x)) (fR 9 [a] x w.model w.at_ w.last):=by
 unfold fR;rw[aaR];simp only[aO];by_cases ha:o4 a=L
 .rw[aD ha,au (by grobner)];rcases ug x with⟨h1,h2⟩|⟨f,h1,h3,h2⟩|⟨f,h1,h3,h2,hw⟩<;>rw[h1,h2]
  .exact dM g (by decide)
  .simp only[aD h3];exact dM g (by decide)
  .simp only[au h3];show dD 9 w (if w.at_=0 then _ else _) (xw w.model w.at_ w.last a.toNat f);unfold xw;by_cases h0:w.at_=0
   .rw[aD h0,aD h0];exact dM g (by decide)
   .rw[au h0,au h0];by_cases hb:kG f w.model w.at_=aH
    .rw[aD hb,aD hb];exact dM g (by decide)
    .rw[au hb,au hb];by_cases hl:16<(l7 w.model w.last a.toNat f).states.length\/200<(l7 w.model w.last a.toNat f).links.length
     .rw[aD hl];split
      .exact dM g (by decide)
      .rename_i hq;exact bT hl hq
     .rw[au hl];refine Eq.mpr (cb (λz=>dD 9 w z _) (au hl)) ?_;have hn:=Gx g.nd f;have e:=Gw w.model w.last a.toNat f hn;have tI:∀u∈aU f w.model,u∈ae w.model:=λu hu=>by rw[nG]at hu;grobner
      have jo:w.at_∈aU f w.model:=by
       have:kG f w.model w.at_=true:=by grobner
       simpa[kG]using this
      have l1:w.model.states.length+(aU f w.model).length<=16:=by have:=cb lO e.1;simp only[cK,g0,dj]at this;cutsat
      have l2:w.model.links.length+(gK w.last a.toNat (aU f w.model) w.model.links).length<=200:=by have:=e.2.length_eq;grobner
      have ag:a.toNat<4:=by unfold o4 at ha;simp only[fQ,tf]at ha;have h2:a<4:=ha.2;cutsat
      have l3:(aU f w.model).length<=w.model.states.length:=by
       have h1:(aU f w.model).length<=(ae w.model).length:=by rw[nG];grobner
       have:=gD w.model;cutsat
      have G:=(g.whisper a.toNat ag hn tI jo l1 l2).perm ⟨e.1.symm,e.2.symm⟩
      exact Dk (w:=w) (n:=w.last+(aU f w.model).length) G O ⟨aaS _ _,by
       have el:(l7 w.model w.last a.toNat f).states.length=w.model.states.length+(aU f w.model).length:=by rw[<-e.1];simp only[cK,g0,dj]
       unfold fS;rw[el]
       cutsat⟩ (by simp)
 .rw[au ha,aD (by grobner)];exact dM g (by decide)
end
section
variable{w:fi}(g:cg w.model w.at_ w.last)
include g
theorem amF (k:Int):dD 0 w (aO w (.state k)) (nR 0 [k] w.model w.at_ w.last):=by
 show dD 0 w _ (aO (W0 w.model w.at_ w.last) (.state k));simp only[aO];by_cases h1:k<0\/255<k
 .rw[aD h1,aD h1];exact dM g (by decide)
 .rw[au h1,au h1];by_cases h2:Pa<=w.model.states.length
  .rw[aD h2,aD (show Pa<=(W0 w.model w.at_ w.last).model.states.length from h2)];exact dM g (by decide)
  .rw[au h2,au (show¬Pa<=(W0 w.model w.at_ w.last).model.states.length from h2)];have h2:¬16<=w.model.states.length:=h2;refine Dn (c:=0) (w:=w) (u:=w.at_) (n:=w.last+1) (t:=[(w.last:Int)+1]) (m:=⟨w.model.states++[⟨w.last+1,k.toNat⟩],w.model.links⟩) (g.state (by lia) (by lia:k.toNat<256)) O O ⟨aaS _ _,?_⟩ (by simp);unfold fS;grind
theorem amG (a u v:Int):dD 1 w (aO w (.link a u v)) (nR 1 [a,u,v] w.model w.at_ w.last):=by
 show dD 1 w _ (aO (W0 w.model w.at_ w.last) (.link a u v));simp only[aO];by_cases h1:o4 a=aH
 .rw[aD h1,aD h1];exact dM g (by decide)
 .rw[au h1,au h1];by_cases h2:(eB w.model u&&eB w.model v)=aH
  .rw[aD h2,aD (show(eB (W0 w.model w.at_ w.last).model u&&eB (W0 w.model w.at_ w.last).model v)=aH from h2)];exact dM g (by decide)
  .rw[au h2,au (show¬(eB (W0 w.model w.at_ w.last).model u&&eB (W0 w.model w.at_ w.last).model v)=aH from h2)];by_cases h3:lq w.model a u v=L
   .rw[aD h3,aD (show lq (W0 w.model w.at_ w.last).model a u v=L from h3)];exact dM g (by decide)
   .rw[au h3,au (show¬lq (W0 w.model w.at_ w.last).model a u v=L from h3)];by_cases h4:Pb<=w.model.links.length
    .rw[aD h4,aD (show Pb<=(W0 w.model w.at_ w.last).model.links.length from h4)];exact dM g (by decide)
    .rw[au h4,au (show¬Pb<=(W0 w.model w.at_ w.last).model.links.length from h4)];have h4:¬200<=w.model.links.length:=h4;have xu:eB w.model u=L/\eB w.model v=true:=by grind
     obtain⟨u',hu,rfl⟩:=oh.mp xu.1;obtain⟨v',hv,rfl⟩:=oh.mp xu.2
     have ag:0<=a/\a<4:=by
      have h1:o4 a=true:=by grind
      unfold o4 at h1;simp only[fQ,tf]at h1;exact h1
     refine Dn (g.link (l:=⟨a.toNat,((u':Nat):Int).toNat,((v':Nat):Int).toNat⟩) (by grind) hu hv ?_ (by lia)) O O (ue _ _ _) (by simp);intro z;apply h3;unfold lq;grind
theorem amH (a u v:Int):dD 2 w (aO w (.unlink a u v)) (nR 2 [a,u,v] w.model w.at_ w.last):=by
 show dD 2 w _ (aO (W0 w.model w.at_ w.last) (.unlink a u v));simp only[aO];by_cases h1:lq w.model a u v=aH
 .rw[aD h1,aD (show lq (W0 w.model w.at_ w.last).model a u v=aH from h1)];exact dM g (by decide)
 .rw[au h1,au (show¬lq (W0 w.model w.at_ w.last).model a u v=aH from h1)];exact Dn (g.links _) O O (ue _ _ _) (by simp)
theorem amI (u:Int):dD 3 w (aO w (.drop u)) (nR 3 [u] w.model w.at_ w.last):=by
 show dD 3 w _ (aO (W0 w.model w.at_ w.last) (.drop u));simp only[aO];by_cases h1:eB w.model u=aH
 .rw[aD h1,aD (show eB (W0 w.model w.at_ w.last).model u=aH from h1)];exact dM g (by decide)
 .rw[au h1,au (show¬eB (W0 w.model w.at_ w.last).model u=aH from h1)];refine Dn (c:=3) (w:=w) (m:=dh w.model λx=>(x:Int)!=u) (n:=w.last) (t:=[]) (u:=if(w.at_:Int)=u then 0 else w.at_) (g.only _ ?_) O O (ue _ _ _) (by simp);by_cases h2:(w.at_:Int)=u
  .grind
  .rw[au h2];rcases g.so with h|h<;>grind
theorem amJ (u:Int):dD 4 w (aO w (.so u)) (nR 4 [u] w.model w.at_ w.last):=by
 show dD 4 w _ (aO (W0 w.model w.at_ w.last) (.so u));simp only[aO];by_cases h1:eB w.model u=aH
 .rw[aD h1,aD (show eB (W0 w.model w.at_ w.last).model u=aH from h1)];exact dM g (by decide)
 .rw[au h1,au (show¬eB (W0 w.model w.at_ w.last).model u=aH from h1)];obtain⟨n,hn,rfl⟩:=oh.mp (by grind:eB w.model u=L);exact Dn (u:=n) (g.at_ (.inr hn)) O O (ue _ _ _) (by simp)
theorem amK (u v:Int):dD 12 w (aO w (.alike u v)) (nR 12 [u,v] w.model w.at_ w.last):=by
 show dD 12 w _ (W0 w.model w.at_ w.last,C4 w.model u v);simp only[aO];unfold C4;by_cases h1:(eB w.model u&&eB w.model v)=aH
 .rw[aD h1,aD h1];exact dM g (by decide)
 .rw[au h1,au h1];have xu:eB w.model u=L/\eB w.model v=true:=by grind
  obtain⟨u',hu,rfl⟩:=oh.mp xu.1;obtain⟨v',hv,rfl⟩:=oh.mp xu.2;rw[show aaJ w.model ((u':Nat):Int).toNat ((v':Nat):Int).toNat=gM w.model u' v' from rfl,show gM w.model ((u':Nat):Int).toNat ((v':Nat):Int).toNat=gM w.model u' v' from rfl];cases hd:gM w.model u' v' with
  |none=>exact uf g (.inl ⟨O,O⟩) (l9 _ _) (by simp)
  |some n=>
   have:=alo g.nd g.byte hu hv hd;simp only[ij];rw[this];cases hs:fH (FF w.model u' v')with
   |none=>exact dM g (by decide)
   |some f=>
    refine uf g (.inl ⟨O,O⟩) (l9 _ _) ?_
    have hz:f.size<=300:=by
     unfold fH at hs;split at hs
     .cases hs
     .cases hs;rename_i h;exact Nat.le_of_not_lt h
    have:=my f;rw[dY,dY,dY,vU];lia
theorem amL:dD 13 w (aO w .least) (nR 13 [] w.model w.at_ w.last):=by
 show dD 13 w _ (CS w.model w.at_ w.last);simp only[aO];unfold CS;by_cases h0:w.at_=0
 .rw[aD h0,aD h0];exact dM g (by decide)
 .rw[au h0,au h0];exact Dk (w:=w) (n:=w.last) (g.least h0) O (ue _ _ _) (by simp)
theorem amM:dD 17 w (aO w .model) (nR 17 [] w.model w.at_ w.last):=by
 show dD 17 w _ (W0 w.model w.at_ w.last,Nj w.model w.at_);refine uf g (.inl ⟨O,O⟩) (l9 _ _) ?_
 have e2:∀l:List State1,(l.flatMap λx=>[x.id,x.mask]).length=2*l.length:=λl=>by
  induction l with
  |nil=>rfl
  |cons a l ih=>grind
 have e3:∀l:List cD,(l.flatMap λx=>[x.a,x.u,x.v]).length=3*l.length:=λl=>by
  induction l with
  |nil=>rfl
  |cons a l ih=>grind
 have tl:=(GB g.tofg g.up g.gq).length_eq;have:=g.cz;have:=g.iS;show(0::(w.at_:Int)::(w.model.states.length:Int)::(Vbtaag.ints (w.model.states.flatMap λx=>[x.id,x.mask])++(w.model.links.length:Int)::Vbtaag.ints (xy w.model))).length<=_;rw[dY,dY,dY,cK,vU,e2,dY,vU,Yh,e3];lia
end
noncomputable def Hl:List Int:=[1,3,3,1,1,0,0,0,0,1,1,0,2,0,0,0,0,0]
structure Pe (c:List (List Int))(k:Nat)(nums:List Int)(d:Dh):Prop where
 is:Pf c=B d
 cz:k<18
 amN:Hl[k]?=B (nums.length:Int)
 need:need k<=nums.length
 three:nums.length<=3
 one:k=9\/k=10->nums.length=1
 undo:k=16->d=.undo
 parts:(Dc k=L/\∃x:List Nat,c=[((k:Nat):Int)::nums,Vbtaag.ints x]/\x.length<=400/\∀w:fi,cg w.model w.at_ w.last->dD k w (aO w d) (fR k nums x w.model w.at_ w.last))\/
  (Dc k=aH/\c=[((k:Nat):Int)::nums]/\(k≠16->∀w:fi,cg w.model w.at_ w.last->dD k w (aO w d) (nR k nums w.model w.at_ w.last)))
def amO (h:Pg x 400=L):∃y:List Nat,x=Vbtaag.ints y/\aaT x=B y/\y.length<=400:=by unfold Pg at h;rw[fQ,tf]at h;have hb:x.all Vbtaag.byte=true:=h.2;refine⟨x.map qy,?_,aD hb,by grind⟩;rw[iK]at hb;unfold Vbtaag.ints;rw[gw];refine(MX x).symm.trans (lj λz hz=>?_);grind
def call_text {k:Nat}{nums:List Int}{d:List Nat->Dh}{x:List Int}(h:Pg x 400=L)
  (hc:∀y:List Nat,aaT x=B y->Pf [((k:Nat):Int)::nums,x]=B (d y)) (hk:k<18) (h1:Hl[k]?=B (nums.length:Int)) (h2:need k<=nums.length) (h3:nums.length<=3) (h4:k=9\/k=10->nums.length=1) (h5:k≠16) (h6:Dc k=L)
  (hf:∀(y:List Nat)(w:fi),cg w.model w.at_ w.last->dD k w (aO w (d y)) (fR k nums y w.model w.at_ w.last)):∃d,Pe [((k:Nat):Int)::nums,x] k nums d:=by obtain⟨y,e,ht,hl⟩:=amO h;exact⟨d y,hc y ht,hk,h1,h2,h3,h4,λz=>bT z h5,.inl ⟨h6,y,by rw[<-e],hl,λw g=>hf y w g⟩⟩
def call_num (hc:Pf [((k:Nat):Int)::nums]=B d)(hk:k<18)(h1:Hl[k]?=B (nums.length:Int))(h2:need k<=nums.length)(h3:nums.length<=3)(h4:k=9\/k=10->nums.length=1)(h5:k=16->d=.undo)(h6:Dc k=aH)
  (hf:k≠16->∀(w:fi),cg w.model w.at_ w.last->dD k w (aO w d) (nR k nums w.model w.at_ w.last)):∃d,Pe [((k:Nat):Int)::nums] k nums d:=
 ⟨d,hc,hk,h1,h2,h3,h4,h5,.inr ⟨h6,O,hf⟩⟩
def amP {c:List (List Int)}(h:Ph c=L):∃k nums d,Pe c k nums d:=by
 rcases c with _|⟨_|⟨k|k,l⟩,c⟩<;>try exact lM (eN h)
 rcases c with _|⟨b,_|⟨d,c⟩⟩<;>rcases l with _|⟨x,_|⟨y,_|⟨z,_|⟨v,l⟩⟩⟩⟩<;>try exact lM (eN h)
 all_goals (iterate 18 (rcases k with _|k;first|exact lM (eN h)|exact⟨0,[_],call_num O (by decide) O (aX _) (Dr (iP _)) (λ_=>rfl) (λz=>by cases z) rfl λ_ w g=>amF g _⟩|exact⟨1,[_,_,_],call_num O (by decide) O (aX _) (aX _) (λz=>by rcases z with z|z<;>cases z) (λz=>by cases z) rfl λ_ w g=>amG g _ _ _⟩|exact⟨2,[_,_,_],call_num O (by decide) O (aX _) (aX _) (λz=>by grind) (λz=>by cases z) rfl λ_ w g=>amH g _ _ _⟩|exact⟨3,[_],call_num O (by decide) O (aX _) (Dr (iP _)) (λ_=>rfl) (λz=>by cases z) rfl λ_ w g=>amI g _⟩|exact⟨4,[_],call_num O (by decide) O (aX _) (Dr (iP _)) (λ_=>rfl) (λz=>by cases z) rfl λ_ w g=>amJ g _⟩|exact⟨5,[],call_text (d:=.holds) h (λy e=>by show uh _ _=_;rw[e];rfl) (by decide) O (aX _) (by decide) (λz=>by grind) (by decide) rfl λy w g=>amw g y⟩|exact⟨6,[],call_text (d:=.truth) h (λy e=>by show uh _ _=_;rw[e];rfl) (by decide) O (aX _) (by decide) (λz=>by grind) (by decide) rfl λy w g=>amx g y⟩|exact⟨7,[],call_text (d:=.reduce) h (λy e=>by show uh _ _=_;rw[e];rfl) (by decide) O (aX _) (by decide) (λz=>by grind) (by decide) rfl λy w g=>amy g y⟩|exact⟨8,[],call_text (d:=.tell) h (λy e=>by show uh _ _=_;rw[e];rfl) (by decide) O (aX _) (by decide) (λz=>by grind) (by decide) rfl λy w g=>amB g y⟩|exact⟨9,[_],call_text (d:=.whisper _) (EY.1 h).2 (λy e=>by show uh _ _=_;rw[e];rfl) (by decide) O (iP _) (Dr (iP _)) (λ_=>rfl) (by decide) rfl λy w g=>amE g _ y⟩|exact⟨10,[_],call_text (d:=.show_ _) (EY.1 h).2 (λy e=>by show uh _ _=_;rw[e];rfl) (by decide) O (iP _) (Dr (iP _)) (λ_=>rfl) (by decide) rfl λy w g=>amD g _ y⟩|exact⟨11,[],call_text (d:=.again) h (λy e=>by show uh _ _=_;rw[e];rfl) (by decide) O (aX _) (by decide) (λz=>by grind) (by decide) rfl λy w g=>amC g y⟩|exact⟨12,[_,_],call_num O (by decide) O (aX _) (A3 _) (λz=>by grind) (λz=>by cases z) rfl λ_ w g=>amK g _ _⟩|exact⟨13,[],call_num O (by decide) O (aX _) (by decide) (λz=>by grind) (λz=>by cases z) rfl λ_ w g=>amL g⟩|exact⟨14,[],call_text (d:=.chain) h (λy e=>by show uh _ _=_;rw[e];rfl) (by decide) O (aX _) (by decide) (λz=>by grind) (by decide) rfl λy w g=>amz g y⟩|exact⟨15,[],call_text (d:=.minds) h (λy e=>by show uh _ _=_;rw[e];rfl) (by decide) O (aX _) (by decide) (λz=>by grind) (by decide) rfl λy w g=>amA g y⟩|exact⟨16,[],call_num O (by decide) O (aX _) (by decide) (λz=>by grind) (λ_=>rfl) rfl λz=>bT O z⟩|exact⟨17,[],call_num O (by decide) O (aX _) (by decide) (λz=>by grind) (λz=>by cases z) rfl λ_ w g=>amM g⟩));exact lM (eN h)
structure oy (w:fi)(n:Nat):Prop where
 ok:cg w.model w.at_ w.last
 past:∀x∈w.past,cg x.1 x.2 w.last
 cz:w.last<=4*n+fS w.model
 Hm:w.past.length<=n
def dH.trans (h:dH a b)(k:dH b c):dH a c:=by
 refine⟨⟨h.model.1.trans k.model.1,h.model.2.trans k.model.2⟩,h.last.trans k.last,h.at_.trans k.at_,h.past.1.trans k.past.1,λi x x' e1 e2=>?_⟩;have hl:i<b.past.length:=by rw[<-h.past.1];grind
 have e3:b.past[i]?=B b.past[i]:=cc hl;have h1:=h.past.2 i _ _ e1 e3;have h2:=k.past.2 i _ _ e3 e2;exact⟨⟨h1.1.1.trans h2.1.1,h1.1.2.trans h2.1.2⟩,h1.2.trans h2.2⟩
def Hn (m:Md)(w:fi):fi:={w with model:=m}
def amQ (h:dr m w.model):dH (Hn m w) w:=⟨h,O,O,(dH.refl w).past⟩
def amR (h:x∈vT c w ans):x=(w.model,w.at_)\/x∈w.past:=by unfold vT at h;rfl'
def amS:(vT c w ans).length<=w.past.length+1:=by unfold vT;rfl'
def oy.next (h:oy w n)(f:dD c w s r)(e:dr m s.1.model):oy (Hn m s.1) (n+1):=by
 refine⟨f.ok.perm e,λx hx=>?_,?_,?_⟩
 .show cg x.1 x.2 s.1.last;have hx:x∈s.1.past:=hx;rw[f.past]at hx;rcases amR hx with rfl|hx
  .exact h.ok.mono f.more.1
  .exact(h.past x hx).mono f.more.1
 .show s.1.last<=4*(n+1)+fS m;have:=f.more.2;have:=h.cz;have:fS m=fS s.1.model:=by unfold fS;rw[e.1]
  lia
 .show s.1.past.length<=_;rw[f.past];have:=amS (c:=c) (w:=w) (ans:=s.2);have:=h.Hm;lia
def oy.undo (h:oy w n)(e:w.past=x::ps):oy ⟨x.1,w.last,x.2,ps⟩ (n+1):=by
 refine⟨h.past x (by grind),λy hy=>h.past y (by grind),?_,?_⟩
 .show w.last<=_;have:=h.cz;have:=O9 w.model;lia
 .show ps.length<=_;have:=h.Hm;grind
def oy.last (h:oy w n)(hn:n<=400):w.last<=1604:=by have:=h.cz;have:=O9 w.model;lia
structure gN (C:J)(H0 H:Hp)(G p dx dm dl pl:J)(qs:List (J×J×J))(w:fi):Prop where
 same:aw H0 H
 core:Core C H p dx dm dl pl w.model w.at_ w.last
 past:iU H pl qs w.past
 g:G≠pl
 fG:H0 G=N
 fp:H0 p=N
 fm:H0 dm=N
 fl:H0 dl=N
 ph:H0 pl=N
 fq:∀q∈qs,H0 q.2.1=N/\H0 q.2.2=N
 pj:(dm::qs.map (·.2.1)).Nodup
 pk:(dl::qs.map (·.2.2)).Nodup
def iA {H:Hp}{a b:J}{x y:HO}(h:H a=B x)(k:H b=B y)(n:x≠y):a≠b:=λz=>by grind
def iU.mem (h:iU H pl qs past)(hq:q∈qs):(∃vs,H q.1=B (.tup vs))/\(∃kvs,H q.2.1=B (.dK kvs))/\∃kvs,H q.2.2=B (.dT kvs):=by
 obtain⟨i,hi⟩:=List.mem_iff_getElem?.mp hq;have hl:i<past.length:=by rw[<-h.len];grind
 obtain⟨a,b,c⟩:=h.at_ i q _ hi (cc hl);grind
def iU.kept (h:iU H pl qs past)(k:bQ l H H')(hp:pl∉l)(hq:∀q∈qs,q.1∉l/\q.2.1∉l/\q.2.2∉l):iU H' pl qs past:=⟨k _ _ h.Z hp,h.len,λi q x e1 e2=>by
 obtain⟨a,b,c⟩:=h.at_ i q x e1 e2;obtain⟨n1,n2,n3⟩:=hq q (gG e1)
 exact⟨k _ _ a n1,k _ _ b n2,k _ _ c n3⟩⟩
section
variable{C:J}{H0 H:Hp}{G p dx dm dl pl:J}{qs:List (J×J×J)}{w:fi}
def gN.grow (s:gN C H0 H G p dx dm dl pl qs w)(e:aw H H'):gN C H0 H' G p dx dm dl pl qs w:=
 {s with same:=s.same.trans e,core:=s.core.same e,past:=s.past.same e}
def gN.far (s:gN C H0 H G p dx dm dl pl qs w)(hq:q∈qs):q.1∉[p,dm,dl]/\q.2.1∉[p,dm,dl]/\q.2.2∉[p,dm,dl]:=by obtain⟨⟨a,ha⟩,⟨b,hb⟩,⟨c,hc⟩⟩:=s.past.mem hq;have o:=s.core.obj;have m:=s.core.b0;have l:=s.core.links;have n1:dm≠q.2.1:=λz=>(fW.mp s.pj).1 (by grind);have n2:dl≠q.2.2:=λz=>(fW.mp s.pk).1 (by grind);rfl'
def gN.plf (s:gN C H0 H G p dx dm dl pl qs w):pl∉[p,dm,dl]:=by simp only[dz,Ds,or_false,not_or];exact⟨iA s.past.Z s.core.obj (λz=>nomatch z),iA s.past.Z s.core.b0 (λz=>nomatch z),iA s.past.Z s.core.links (λz=>nomatch z)⟩
def gN.op (s:gN C H0 H G p dx dm dl pl qs w)(k:bQ [p,dm,dl] H H1)(h1:eM=dm\/H eM=N)(h2:fj=dl\/H fj=N)(c:Core C H1 p dx eM fj pl m' a n):gN C H0 H1 G p dx eM fj pl qs ⟨m',n,a,w.past⟩where
 same:=λb o e=>k b o (s.same b o e) (by
  simp only[dz,Ds,or_false,not_or]
  exact⟨aK e s.fp,aK e s.fm,aK e s.fl⟩)
 core:=c
 past:=s.past.kept k s.plf λq hq=>s.far hq
 g:=s.g
 fG:=s.fG
 fp:=s.fp
 fm:=by
  rcases h1 with rfl|h
  .exact s.fm
  .exact s.same.free h
 fl:=by
  rcases h2 with rfl|h
  .exact s.fl
  .exact s.same.free h
 ph:=s.ph
 fq:=s.fq
 pj:=by
  rcases h1 with rfl|h
  .exact s.pj
  .refine fW.mpr ⟨λz=>?_,(fW.mp s.pj).2⟩;obtain⟨q,hq,rfl⟩:=cx.mp z;obtain⟨_,⟨b,hb⟩,_⟩:=s.past.mem hq;rw[hb]at h;cases h
 pk:=by
  rcases h2 with rfl|h
  .exact s.pk
  .refine fW.mpr ⟨λz=>?_,(fW.mp s.pk).2⟩;obtain⟨q,hq,rfl⟩:=cx.mp z;obtain⟨_,_,⟨b,hb⟩⟩:=s.past.mem hq;rw[hb]at h;cases h
def gN.push (s:gN C H0 H G p dx dm dl pl qs w)(fa:H0 a=N)(fb:H0 b=N)(na:a∉dm::qs.map (·.2.1))(nb:b∉dl::qs.map (·.2.2))(k:bQ [pl] H H1)(c:Core C H1 p dx dm dl pl w.model w.at_ w.last)(pa:iU H1 pl ((t,a,b)::qs) ((m0,Dd)::w.past)):gN C H0 H1 G p dx dm dl pl ((t,a,b)::qs) ⟨w.model,w.last,w.at_,(m0,Dd)::w.past⟩where
 same:=λx o e=>k x o (s.same x o e) (by
  simp only[dz,Ds,or_false]
  exact aK e s.ph)
 core:=c
 past:=pa
 g:=s.g
 fG:=s.fG
 fp:=s.fp
 fm:=s.fm
 fl:=s.fl
 ph:=s.ph
 fq:=λq hq=>by
  rcases dz.mp hq with rfl|hq
  .grind
  .exact s.fq q hq
 pj:=by have h:=fW.mp s.pj;rfl'
 pk:=by have h:=fW.mp s.pk;rfl'
def gN.clear (s:gN C H0 H G p dx dm dl pl qs w)(hG:H G=B o)(k:bQ [p] H H1)(hp:H iT=N)(c:Core C H1 p dx dm dl iT w.model w.at_ w.last)(pa:iU H1 iT [] []):gN C H0 H1 G p dx dm dl iT [] ⟨w.model,w.last,w.at_,[]⟩where
 same:=λx o e=>k x o (s.same x o e) (by
  simp only[dz,Ds,or_false]
  exact aK e s.fp)
 core:=c
 past:=pa
 g:=aK hG hp
 fG:=s.fG
 fp:=s.fp
 fm:=s.fm
 fl:=s.fl
 ph:=s.same.free hp
 fq:=λq hq=>by cases hq
 pj:=fW.mpr ⟨(λz=>by cases z),j5⟩
 pk:=fW.mpr ⟨(λz=>by cases z),j5⟩
def gN.undo (s:gN C H0 H G p dx dm dl pl qs w){q:J×J×J}{nr:List (J×J×J)}{x:Md×Nat}{ps:List (Md×Nat)}(e:qs=q::nr)(k:bQ [p,pl] H H1)(c:Core C H1 p dx q.2.1 q.2.2 pl x.1 x.2 w.last)(pa:iU H1 pl nr ps):gN C H0 H1 G p dx q.2.1 q.2.2 pl nr ⟨x.1,w.last,x.2,ps⟩where
 same:=λx o e=>k x o (s.same x o e) (by
  simp only[dz,Ds,or_false,not_or]
  exact⟨aK e s.fp,aK e s.ph⟩)
 core:=c
 past:=pa
 g:=s.g
 fG:=s.fG
 fp:=s.fp
 fm:=(s.fq q (by grind)).1
 fl:=(s.fq q (by grind)).2
 ph:=s.ph
 fq:=λy hy=>s.fq y (by grind)
 pj:=by have:=(fW.mp s.pj).2;grind
 pk:=by have:=(fW.mp s.pk).2;grind
def gN.given (s:gN C H0 H G p dx dm dl pl qs w){xs ys:List V}(hG:H G=B (.Z xs)):gN C H0 (M H G (.Z ys)) G p dx dm dl pl qs w where
 same:=aS s.same s.fG
 core:=⟨by rw[aa (iA s.core.obj hG (λz=>nomatch z))];exact s.core.obj,by rw[aa (iA s.core.b0 hG (λz=>nomatch z))];exact s.core.b0,by rw[aa (iA s.core.links hG (λz=>nomatch z))];exact s.core.links⟩
 past:=s.past.kept (l:=[G]) (λb o e hb=>by rw[aa (by grind)];exact e) (by simpa using aP s.g) λq hq=>by obtain⟨⟨a,ha⟩,⟨b,hb⟩,⟨c,hc⟩⟩:=s.past.mem hq;grind
 g:=s.g
 fG:=s.fG
 fp:=s.fp
 fm:=s.fm
 fl:=s.fl
 ph:=s.ph
 fq:=s.fq
 pj:=s.pj
 pk:=s.pk
end
noncomputable def mm (k:Nat)(m:Md)(at_:Nat)(past:List (Md×Nat))(ans:List Int):List (Md×Nat):=if ans.head?=B 0 then(if ox k=L then(m,at_)::past else if rX k=L then[]else past)else past
structure ui (C:J)(H0 H5:Hp)(G p dx dm dl pl t a b S:J)(qs:List (J×J×J))(k:Nat)(w0 w1:fi)(d:Dh)(ws:fi)(gs:List V)(ans:List Int)(n:Nat):Prop where
 st:gN C H0 H5 G p dx dm dl pl qs w1
 hG:H5 G=B (.Z gs)
 hS:H5 S=B (.Z (vi ans))
 ht:H5 t=B (.tup [.ref a,.ref b,.int (w0.at_:Nat)])
 ha:H5 a=B (.dK (cQ w0.model.states))
 hb:H5 b=B (.dT (bw w0.model.links))
 fa:H0 a=N
 fb:H0 b=N
 na:a∉dm::qs.map (·.2.1)
 nb:b∉dl::qs.map (·.2.2)
 sG:S≠G
 sp:S≠pl
 cz:w1.past.length<=400
 one:ans≠[]
 len:ans.length<=12001
 is:ans=(aO ws d).2
 fin:oy ⟨w1.model,w1.last,w1.at_,mm k w0.model w0.at_ w1.past ans⟩ (n+1)
 rel:dH ⟨w1.model,w1.last,w1.at_,mm k w0.model w0.at_ w1.past ans⟩ (aO ws d).1
section
variable{C:J}{H0 H:Hp}{G p dx dm dl pl t a b:J}{qs:List (J×J×J)}{w ws:fi}{k n:Nat}{gs:List V}
def Ho (h1:x≠y)(h2:x≠z)(h3:x≠u):x∉[y,z,u]:=by grind
def Hq (h1:x≠y)(h2:x≠z):x∉[y,z]:=by grind
def Pj (st:gN C H0 H G p dx dm dl pl qs w)(jZ:oy w n)(hn:n<=400)(rel:dH w ws)(hG:H G=B (.Z gs))(ht:H t=B (.tup [.ref a,.ref b,.int (w.at_:Nat)]))(ha:H a=B (.dK (cQ w.model.states)))(hb:H b=B (.dT (bw w.model.links)))(fa:H0 a=N)(fb:H0 b=N)(na:a∉dm::qs.map (·.2.1))(nb:b∉dl::qs.map (·.2.2))
  (f:dD k w (aO w d) r) (kp:bQ [p,dm,dl] H H5) (e1:eM=dm\/H eM=N) (e2:fj=dl\/H fj=N) (em:dr m' r.1.model) (c:Core C H5 p dx eM fj pl m' r.1.at_ r.1.last) (hS:H S=N) (hs:H5 S=B (.Z (vi r.2))):
  ui C H0 H5 G p dx eM fj pl t a b S qs k w ⟨m',r.1.last,r.1.at_,w.past⟩ d ws gs r.2 n:=by
 have ob:=st.core.obj;have mk:=st.core.b0;have lk:=st.core.links;have nad:a≠dm:=λz=>na (by grind);have nbd:b≠dl:=λz=>nb (by grind);have sc:=aaK rel jZ.ok.nd d;have em':dr m' (aO w d).1.model:=by rw[<-f.model];exact em
 have ew:(⟨m',r.1.last,r.1.at_,mm k w.model w.at_ w.past r.2⟩:fi)=Hn m' (aO w d).1:=by unfold Hn;rw[f.last,f.at_,f.ans];rw[show mm k w.model w.at_ w.past (aO w d).2=(aO w d).1.past from f.past.symm]
 exact{st:=st.op kp e1 e2 c,hG:=kp _ _ hG (Ho (iA hG ob (λz=>nomatch z)) (iA hG mk (λz=>nomatch z)) (iA hG lk (λz=>nomatch z))),hS:=hs,ht:=kp _ _ ht (Ho (iA ht ob (λz=>nomatch z)) (iA ht mk (λz=>nomatch z)) (iA ht lk (λz=>nomatch z))),ha:=kp _ _ ha (Ho (iA ha ob (λz=>nomatch z)) nad (iA ha lk (λz=>nomatch z))),hb:=kp _ _ hb (Ho (iA hb ob (λz=>nomatch z)) (iA hb mk (λz=>nomatch z)) nbd),fa:=fa,fb:=fb,na:=λz=>by
                 rfl',nb:=λz=>by
                 rfl',sG:=aP (aK hG hS),sp:=aP (aK st.past.Z hS),cz:=fJ jZ.Hm hn,one:=by rw[f.ans];exact f.one,len:=by rw[f.ans];exact f.len,is:=by rw[f.ans];exact sc.1,fin:=by
                 rw[ew];exact jZ.next f em',rel:=by
                 rw[ew]
                 exact(amQ em').trans sc.2}
def amX (st:gN C H0 H G p dx dm dl pl qs w)(jZ:oy w n)(hn:n<=400)(rel:dH w ws)(hG:H G=B (.Z gs))(ht:H t=B (.tup [.ref a,.ref b,.int (w.at_:Nat)]))(ha:H a=B (.dK (cQ w.model.states)))(hb:H b=B (.dT (bw w.model.links)))(fa:H0 a=N)(fb:H0 b=N)(na:a∉dm::qs.map (·.2.1))(nb:b∉dl::qs.map (·.2.2))
  (ep:w.past=x::ps) (eq:qs=q::nr) (kp:bQ [p,pl] H H5) (c:Core C H5 p dx q.2.1 q.2.2 pl x.1 x.2 w.last) (pa:iU H5 pl nr ps) (hS:H S=N) (hs:H5 S=B (.Z (vi [0]))):
  ui C H0 H5 G p dx q.2.1 q.2.2 pl t a b S nr 16 w ⟨x.1,w.last,x.2,ps⟩ .undo ws gs [0] n:=by
 have ob:=st.core.obj;have lp:=st.past.Z;have sc:=aaK rel jZ.ok.nd .undo
 have es:aO w .undo=(⟨x.1,w.last,x.2,ps⟩,[0]):=by simp only[aO,ep]
 rw[es]at sc;have hlen:=jZ.Hm;rw[ep,dY]at hlen;exact{st:=st.undo eq kp c pa,hG:=kp _ _ hG (Hq (iA hG ob (λz=>nomatch z)) st.g),hS:=hs,ht:=kp _ _ ht (Hq (iA ht ob (λz=>nomatch z)) (iA ht lp (λz=>nomatch z))),ha:=kp _ _ ha (Hq (iA ha ob (λz=>nomatch z)) (iA ha lp (λz=>nomatch z))),hb:=kp _ _ hb (Hq (iA hb ob (λz=>nomatch z)) (iA hb lp (λz=>nomatch z))),fa:=fa,fb:=fb,na:=λz=>na (eD _ (by grind)),nb:=λz=>nb (eD _ (by grind)),sG:=aP (aK hG hS),sp:=aP (aK lp hS),cz:=by grind,one:=l9 _ _,len:=by decide,is:=sc.1,fin:=jZ.undo ep,rel:=sc.2}
variable{S:J}{w0 w1:fi}{d:Dh}{ans:List Int}
structure Hr (C:J)(H0 H6:Hp)(G p dx S:J)(gs:List V)(ans:List Int)(w2:fi):Prop where
 st:e_4 λdm dl pl qs=>gN C H0 H6 G p dx dm dl pl qs w2
 hG:H6 G=B (.Z gs)
 hS:H6 S=B (.Z (vi ans))
def ui.told (aY:ui C H0 H G p dx dm dl pl t a b S qs k w0 w1 d ws gs ans n)(h0:ans.head?=B 0)(hk:ox k=L)(kp:bQ [pl] H H6)(c:Core C H6 p dx dm dl pl w1.model w1.at_ w1.last)(pa:iU H6 pl ((t,a,b)::qs) ((w0.model,w0.at_)::w1.past)):
  Hr C H0 H6 G p dx S gs ans ⟨w1.model,w1.last,w1.at_,mm k w0.model w0.at_ w1.past ans⟩:=by
 have e:mm k w0.model w0.at_ w1.past ans=(w0.model,w0.at_)::w1.past:=by unfold mm;grind
 rw[e];exact⟨⟨_,_,_,_,aY.st.push aY.fa aY.fb aY.na aY.nb kp c pa⟩,kp _ _ aY.hG (by simpa using aY.st.g),kp _ _ aY.hS (by simpa using aY.sp)⟩
def ui.hand (aY:ui C H0 H G p dx dm dl pl t a b S qs k w0 w1 d ws gs ans n)(h0:ans.head?=B 0)(hk:ox k=aH)(hh:rX k=L)(kp:bQ [p] H H6)(hp:H iT=N)(c:Core C H6 p dx dm dl iT w1.model w1.at_ w1.last)(pa:iU H6 iT [] []):
  Hr C H0 H6 G p dx S gs ans ⟨w1.model,w1.last,w1.at_,mm k w0.model w0.at_ w1.past ans⟩:=by
 have e:mm k w0.model w0.at_ w1.past ans=[]:=by unfold mm;grind
 rw[e];exact⟨⟨_,_,_,_,aY.st.clear aY.hG kp hp c pa⟩,kp _ _ aY.hG (by simpa using iA aY.hG aY.st.core.obj (λz=>nomatch z)),kp _ _ aY.hS (by simpa using iA aY.hS aY.st.core.obj (λz=>nomatch z))⟩
def ui.none_ (aY:ui C H0 H G p dx dm dl pl t a b S qs k w0 w1 d ws gs ans n)(h:ans.head?=B 0->ox k=aH/\rX k=aH)(s:aw H H6):
  Hr C H0 H6 G p dx S gs ans ⟨w1.model,w1.last,w1.at_,mm k w0.model w0.at_ w1.past ans⟩:=by
 have e:mm k w0.model w0.at_ w1.past ans=w1.past:=by unfold mm;rfl'
 rw[e];exact⟨⟨_,_,_,_,aY.st.grow s⟩,s _ _ aY.hG,s _ _ aY.hS⟩
end
def amY (c:List (List Int)):Hs c=c:=by
 rcases c with _|⟨_|⟨k|k,l⟩,c⟩<;>try rfl
 rcases c with _|⟨b,_|⟨d,c⟩⟩<;>rcases l with _|⟨x,_|⟨y,_|⟨z,_|⟨v,l⟩⟩⟩⟩<;>try rfl
 all_goals (iterate 18 (rcases k with _|k;rfl));rfl
def amZ (h:Pl l=L):∃cs,l=dE cs/\Po l=qO (Pq Dt Ak cs)/\cs.length<=400/\∀c∈cs,Ph c=true:=by
 unfold Pl at h;unfold Po;cases e:aaV l with
 |none=>rw[e]at h;cases h
 |some cs=>
  rw[e]at h;unfold aaV at e;cases e1:PyFlat.calls PyVbtaag.shape l.length l with
  |none=>rw[e1]at e;cases e
  |some ds=>
   rw[e1]at e;have e:ds.map Hs=cs:=iO e
   have:ds.map Hs=ds:=by refine(lj λc _=>amY c).trans (MX ds)
   rw[this]at e;subst e;simp only[fQ,am0,PyFlat.atMost,tf,iK]at h;exact⟨ds,(PyFlat.put_calls _ _ _ e1).1,O,h.1,h.2.1⟩
def Ht:∀a b:List (List (List Int)),dE (a++b)=dE a++dE b
 |[],_=>rfl
 |c::a,b=>by show aaW c++dE (a++b)=(aaW c++dE a)++dE b;rw[Ht a b,iD]
def aaX:j4 (vi (a++x::b)) ((a.length:Nat):Int)=B (.int x):=by refine eP ?_;unfold vi;simp
def aaY (a b c:List Int):oP (vi (a++(b++c))) (B ((a.length:Nat):Int)) (B ((a.length+b.length:Nat):Int))=vi b:=by
 unfold oP;have h1:(vi (a++(b++c))).length=a.length+(b.length+c.length):=by rw[o3,cK,cK]
 rw[h1,HT.Rk,HT.Rk,MG (by lia),MG (by lia),Nat.add_sub_cancel_left,zF,zF,<-o3 a,List.drop_left,<-o3 b,ZX]
def aaZ (l:List (List Int))(x:List Int):qO (l++[x])=qO l++((x.length:Int)::x):=by unfold qO;simp
def Pr (h:M (M H dx (.own p)) p (.ins C dx []) x=N):H x=none:=by
 by_cases e1:x=p
 .rw[e1,ah]at h;cases h
 .by_cases e2:x=dx
  .rw[aa e1,e2,ah]at h;cases h
  .rw[aa e1,aa e2]at h;exact h
def Inv1 (C:J)(H0:Hp)(cA G p dx:J)(cs:List (List (List Int))):Nat->L2.St->Hp->Prop:=λn σ H'=>e_14 λ(done rest:List (List (List Int)))(as:List (List Int))(ws wp:fi)(dm dl pl:J)(qs:List (J×J×J))(v4 v5 v6 v7 v8:Option V)=>n=rest.length/\cs=done++rest/\σ=[B (.ref cA),B (.ref p),B (.ref G),B (.int (((dE done).length:Nat):Int)),v4,v5,v6,v7,v8]/\gN C H0 H' G p dx dm dl pl qs wp/\oy wp done.length/\dH wp ws/\
 Pq Dt Ak cs=as++Pq Dt ws rest/\H' G=B (.Z (vi (qO as)))/\(qO as).length<=12002*done.length
def aa0:bZ ["calls","model","given","place","call","start","numbers","before","answer"] ["calls"] (bb KU):=by left
def am1 (F:bG K "answers" "answers" KU f fd)(T:Txt K mg)(Pt:n_ "Model" aG 1 ["self"] (Yj aG))(Pu:f_ aG "as_it_is" 1 ["self"] (Yk P w_ aG))(Pw:c_ "formula_answer" 10 ["model","call","numbers","codes"] (aan K aG))(Px:c_ "has_formula" 1 ["call"] (aag))(Py:c_ "number_answer" 7 ["model","call","numbers"] (aat K aG))(Pz:c_ "remember" 1 ["model","call","before"] (aal aG)):b_ 11 f fd ["calls"] (Pk K):=by
 rcases F,aa0 with⟨cA,l,rfl,hl,hlen,PB,k⟩;obtain⟨aN,hN,hNT⟩:=T.ahG;obtain⟨cs,am3,am4,Rx,am5⟩:=amZ PB;refine⟨_,(az (bz 1 nd (U6 Pt hr (by rfl))) (az (bz 2 nd (bU aq)) (az (bz 3 nd aZ) (az (uF dR (bA AX (pv 3) (eJ nT (by rfl) T.gP gQ (af (pv 0) aq)) (bY _)) (az (bz 4 nd (cG cP (pv 0) (pv 3) (λ_ _=>rfl))) (az (bz 5 nd (b5 ji (pv 3) aZ)) (az (bz 3 nd (b5 ji (pv 5) (cG yx (Qy (v:=.ref aN) (by rfl) hN O) (pv 4) (λ_ _=>rfl)))) (az (bz 6 nd (IV Ja (pv 0) (A6 (pv 5)) (A6 (pv 3)))) (az (bz 7 nd (FI (pv 1) Pu hr)) (az (bc (lL (b7 Px hr (by rfl) (af (pv 4) aq))) (az (bz 5 nd (b5 ji (pv 3) aZ)) (az (bz 3 nd (b5 ji (pv 5) (cG cP (pv 0) (pv 3) (λ_ _=>rfl)))) (aE (bz 8 nd (b7 Pw hr (by rfl) (af (pv 1) (af (pv 4) (af (pv 6) (af (IV Ja (pv 0) (A6 (pv 5)) (A6 (pv 3))) aq))))))))) (aE (bz 8 nd (b7 Py hr (by rfl) (af (pv 1) (af (pv 4) (af (pv 6) aq))))))) (az (bc (bA cy (cG cP (pv 8) aZ (λ_ _=>rfl)) aZ (bY _)) (aE (dF (b7 Pz hr (by rfl) (af (pv 1) (af (pv 4) (af (pv 7) aq)))))) bC) (az (dF (e9 dJ ic iF iE (pv 2) (af (eJ nT (by rfl) T.gP gQ (af (pv 8) aq)) aq))) (aE (dF (e9 dJ rB tT sZ (pv 2) (af (pv 8) aq))))))))))))) (aE (aW (pv 2))))))),?_⟩;refine λp dx hp hdx hpd=>⟨p,dx,O,ah,λH1 dm dl pl k1 nm nl np c1 pa1=>⟨O,?_⟩⟩;refine⟨by simp,λG hG=>?_⟩;have s1:aw H H1:=aw.made hp hdx λb o e hb=>k1 b o e (by simpa using hb)
 have st0:gN aG H (M H1 G (.Z (vi []))) G p dx dm dl pl [] Ak:=
  {same:=aS s1 (s1.free hG),core:=c1.same (bp hG),past:=pa1.same (bp hG),g:=aP (aK pa1.Z hG),fG:=s1.free hG,fp:=hp,fm:=Pr nm,fl:=Pr nl,ph:=Pr np,fq:=(λq hq=>by cases hq),pj:=fW.mpr ⟨(λz=>by cases z),j5⟩,pk:=fW.mpr ⟨(λz=>by cases z),j5⟩}
 have w0:oy Ak 0:=⟨cg.empty,(λx hx=>by cases hx),by decide,by decide⟩;refine⟨Inv1 aG H cA G p dx cs,⟨_,[],cs,[],Ak,Ak,dm,dl,pl,[],N,N,N,N,N,O,O,O,st0,w0,dH.refl _,O,ah,aX _⟩,?_⟩;rintro n σ H' ⟨done,rest,as,ws,wp,dm,dl,pl,qs,v4,v5,v6,v7,v8,rfl,hcs,rfl,st,jZ,rel,gX,vo,ZI⟩;have kQ:aC K H' cA (vi l):=st.same.seq hl;refine⟨cA,_,O,.inl kQ,_,_,O,O,_,O,?_⟩;rw[o3];have am8:l=dE done++dE rest:=by rw[am3,hcs,Ht]
 have eQ:done.length<=400:=by grind
 cases rest with
 |nil=>
  have e:l.length=(dE done).length:=by grind
  rw[eG (by lia)];refine bN (k H' G ?_);rw[am4,gX];show H' G=B (.Z (vi (qO (as++[]))));rw[fV];exact vo
 |cons c rest=>
  obtain⟨kk,nums,d,hc⟩:=amP (am5 c (by grind))
  obtain⟨xs,hxs⟩:∃xs,c=(((kk:Nat):Int)::nums)::xs:=by
   rcases hc.parts with⟨_,x,e,_⟩|⟨_,e,_⟩
   .exact⟨_,e⟩
   .exact⟨_,e⟩
  have el:l=dE done++(((kk:Nat):Int)::(nums++(Hu xs++dE rest))):=by rw[am8,hxs];show _++((((kk:Nat):Int)::nums++Hu xs)++dE rest)=_;simp
  have ell:l.length=(dE done).length+(1+nums.length+(Hu xs++dE rest).length):=by grind
  rw[cw (by lia)];refine bO ⟨_,λ_ _ z=>z,?_⟩;refine⟨cA,_,_,_,O,O,kQ,by rw[el];exact aaX,?_⟩;refine⟨_,_,O,O,?_⟩;refine⟨aN,_,_,_,O,O,hNT _,eP (v:=.int (nums.length:Int)) (by show(Hl.map V.int)[kk]?=_;rw[ig,hc.amN];rfl),_,_,O,O,?_⟩;refine⟨_,O,_,O,cA,_,O,kQ,λnA hnA=>?_⟩;have ana:(dE done++[((kk:Nat):Int)]).length=(dE done).length+1:=by simp
  have CM:oP (vi l) (B (((dE done).length:Int)+1)) (B (((dE done).length:Int)+1+(nums.length:Int)))=vi nums:=by have e:=aaY (dE done++[((kk:Nat):Int)]) nums (Hu xs++dE rest);rw[ana,iD]at e;rw[el];exact e
  apply qA (G:=λσ H2=>σ=[B (.ref cA),B (.ref p),B (.ref G),B (.int (((dE done).length+1+nums.length:Nat):Int)),B (.int ((kk:Nat):Int)),B (.int (((dE done).length+1:Nat):Int)),B (.ref nA),v7,v8]/\aw H' H2/\H2 nA=B (.Z (vi nums)))
  .intro go;dsimp only[oJ];exact go _ _ ⟨O,bp hnA,by rw[ah];grind⟩
  rintro σ H2 ⟨rfl,s2,yr⟩;have hJ:=st.grow s2;refine⟨p,dx,_,O,hJ.core.obj,ah6 _ _ _ _ _,p,dx,dm,dl,pl,wp.model,wp.at_,wp.last,O,hJ.core,amt jZ.ok (jZ.last eQ),λH3 t a b s3 ht ha hb Hv Hw yS=>?_⟩;have fa:H a=none:=hJ.same.free ha;have fb:H b=none:=hJ.same.free hb
  have na:a∉dm::qs.map (·.2.1):=λz=>by
   rcases dz.mp z with z|z
   .rw[z,hJ.core.b0]at ha;cases ha
   .obtain⟨q,hq,rfl⟩:=cx.mp z;obtain⟨_,⟨_,h⟩,_⟩:=hJ.past.mem hq;rw[h]at ha;cases ha
  have nb:b∉dl::qs.map (·.2.2):=λz=>by
   rcases dz.mp z with z|z
   .rw[z,hJ.core.links]at hb;cases hb
   .obtain⟨q,hq,rfl⟩:=cx.mp z;obtain⟨_,_,⟨_,h⟩⟩:=hJ.past.mem hq;rw[h]at hb;cases hb
  apply qA (G:=λσ H5=>e_7 λ(v5:Option V)(S dm dl:J)(qs:List (J×J×J))(w1:fi)(ans:List Int)=>σ=[B (.ref cA),B (.ref p),B (.ref G),B (.int (((dE (done++[c])).length:Nat):Int)),B (.int ((kk:Nat):Int)),v5,B (.ref nA),B (.ref t),B (.ref S)]/\ui aG H H5 G p dx dm dl pl t a b S qs kk wp w1 d ws (vi (qO as)) ans done.length)
  .intro go;refine⟨kk,O,λH4 s4=>⟨_,O,?_⟩⟩;have Al:=s3.trans s4;have ql:=hJ.grow Al;rcases hc.parts with⟨hf,x,ex,hx,fin⟩|⟨hf,ex,fin⟩
   .rw[hf];have exs:xs=[Vbtaag.ints x]:=by grind
    have lx:(Vbtaag.ints x).length=x.length:=vU x
    have el2:l=(dE done++(((kk:Nat):Int)::nums))++((x.length:Int)::(Vbtaag.ints x++dE rest)):=by rw[el,exs];show _++(((kk:Nat):Int)::(nums++((((Vbtaag.ints x).length:Int)::Vbtaag.ints x)++[]++dE rest)))=_;grind
    have aa4:(dE done++(((kk:Nat):Int)::nums)).length=(dE done).length+1+nums.length:=by grind
    have anc:j4 (vi l) (((dE done).length+1+nums.length:Nat):Int)=B (.int (x.length:Int)):=by rw[el2,<-aa4];exact aaX
    have NF:oP (vi l) (B ((((dE done).length+1+nums.length:Nat):Int)+1)) (B ((((dE done).length+1+nums.length:Nat):Int)+1+(x.length:Int)))=aA x:=by have e:=aaY ((dE done++(((kk:Nat):Int)::nums))++[(x.length:Int)]) (Vbtaag.ints x) (dE rest);rw[cK,aa4,lx,iD]at e;rw[zE,el2];exact e
    have Ag:((((dE done).length+1+nums.length:Nat):Int)+1+(x.length:Int))=(((dE (done++[c])).length:Nat):Int):=by rw[Ht,cK,ex];show _=(((dE done).length+(((((kk:Nat):Int)::nums)++((((Vbtaag.ints x).length:Int)::Vbtaag.ints x)++[]))++[]).length:Nat):Int);grind
    refine bO ⟨_,_,O,O,?_⟩;refine⟨cA,_,_,_,O,O,ql.same.seq hl,anc,_,_,O,O,?_⟩;refine⟨_,O,_,O,cA,_,O,ql.same.seq hl,λcB hcB=>?_⟩;have s5:=Al.trans (bp (o:=.Z (oP (vi l) (B ((((dE done).length+1+nums.length:Nat):Int)+1)) (B ((((dE done).length+1+nums.length:Nat):Int)+1+(x.length:Int))))) hcB);have PD:=s4.trans (bp (o:=.Z (oP (vi l) (B ((((dE done).length+1+nums.length:Nat):Int)+1)) (B ((((dE done).length+1+nums.length:Nat):Int)+1+(x.length:Int))))) hcB);have sR:=hJ.grow s5;refine⟨p,dx,dm,dl,pl,nA,cB,wp.model,wp.at_,wp.last,kk,nums,x,O,sR.core,jZ.ok,aC.of (s5 _ _ yr),aC.of (by rw[<-NF];exact ah),hc.three,hc.one,hx,λH5 S eM fj m' kp e1 e2 em c5 hS hs=>?_⟩;dsimp only[oJ];refine go _ _ ⟨B (.int ((((dE done).length+1+nums.length:Nat):Int)+1)),S,eM,fj,qs,_,_,?_,Pj sR jZ eQ rel (s5 _ _ (s2 _ _ vo)) (PD _ _ Hv) (PD _ _ Hw) (PD _ _ yS) fa fb na nb (fin wp jZ.ok) kp e1 e2 em c5 hS hs⟩;rw[<-Ag];rfl
   .rw[hf]
    have Ag:(((dE done).length+1+nums.length:Nat):Int)=(((dE (done++[c])).length:Nat):Int):=by rw[Ht,cK,ex];show _=(((dE done).length+(((((kk:Nat):Int)::nums)++[])++[]).length:Nat):Int);grind
    rw[Ag];refine bN ⟨p,dx,dm,dl,pl,nA,wp.model,wp.at_,wp.last,kk,nums,qs,wp.past,O,ql.core,jZ.ok,ql.past,aC.of (Al _ _ yr),hc.need,λhk H5 S eM fj m' kp e1 e2 em c5 hS hs=>?_,λhk=>⟨λhp0 H5 S s5 hS hs=>?_,λx ps q nr ep eq H5 S kp c5 pa5 hS hs=>?_⟩⟩
    .dsimp only[oJ];exact go _ _ ⟨_,S,eM,fj,qs,_,_,O,Pj ql jZ eQ rel (Al _ _ (s2 _ _ vo)) (s4 _ _ Hv) (s4 _ _ Hw) (s4 _ _ yS) fa fb na nb (fin hk wp jZ.ok) kp e1 e2 em c5 hS hs⟩
    .have ed:=hc.undo hk;subst ed;have es:aO wp .undo=(wp,[-12]):=by simp only[aO,hp0]
     have f:dD kk wp (aO wp .undo) (W0 wp.model wp.at_ wp.last,[-12]):=by rw[es];exact dM jZ.ok (by decide)
     dsimp only[oJ];exact go _ _ ⟨_,S,dm,dl,qs,_,_,O,Pj ql jZ eQ rel (Al _ _ (s2 _ _ vo)) (s4 _ _ Hv) (s4 _ _ Hw) (s4 _ _ yS) fa fb na nb f (.jA s5) (.inl O) (.inl O) (dr.refl _) (ql.core.same s5) hS hs⟩
    .have ed:=hc.undo hk;subst ed;subst hk;dsimp only[oJ];exact go _ _ ⟨_,S,q.2.1,q.2.2,nr,_,_,O,amX ql jZ eQ rel (Al _ _ (s2 _ _ vo)) (s4 _ _ Hv) (s4 _ _ Hw) (s4 _ _ yS) fa fb na nb ep eq kp c5 pa5 hS hs⟩
  clear v4 v5 v6 v7 v8;rintro σ H5 ⟨v5,S,dm,dl,qs,w1,ans,rfl,aY⟩
  obtain⟨a0,at',aa6⟩:∃a0 at',ans=a0::at':=by
   cases ans with
   |nil=>exact bT O aY.one
   |cons a0 at'=>simp
  have hd0:j4 (vi ans) 0=B (.int a0):=by rw[aa6];exact eP (j:=0) rfl
  apply qA (G:=λσ H6=>σ=[B (.ref cA),B (.ref p),B (.ref G),B (.int (((dE (done++[c])).length:Nat):Int)),B (.int ((kk:Nat):Int)),v5,B (.ref nA),B (.ref t),B (.ref S)]/\Hr aG H H6 G p dx S (vi (qO as)) ans ⟨w1.model,w1.last,w1.at_,mm kk wp.model wp.at_ w1.past ans⟩)
  .intro go;refine⟨S,_,_,_,O,O,aC.of aY.hS,hd0,O,_,O,?_⟩;by_cases h0:a0=0
   .have hh:ans.head?=B 0:=by rw[aa6,h0];rfl
    exact dC h0 ⟨p,dx,dm,dl,pl,t,a,b,w1.model,wp.model,w1.at_,w1.last,wp.at_,kk,qs,w1.past,O,aY.st.core,aY.st.past,fJ aY.cz (by decide),aY.ht,aY.ha,aY.hb,λhk H6 kp c6 PF=>go _ _ ⟨O,aY.told hh hk kp c6 PF⟩,λhk hd H6 iT kp hp c6 PF=>go _ _ ⟨O,aY.hand hh hk hd kp hp c6 PF⟩,λhk hd H6 s6=>go _ _ ⟨O,aY.none_ (λ_=>⟨hk,hd⟩) s6⟩⟩
   .exact cX h0 (go _ _ ⟨O,aY.none_ (λz=>by grind) (aw.refl _)⟩)
  .rintro σ H6 ⟨rfl,F6⟩;obtain⟨dm,dl,pl,qs,st6⟩:=F6.st;have hal:=aY.len;refine⟨.inl ⟨O,_,aC.of F6.hG⟩,S,_,O,.inl (aC.of F6.hS),G,_,_,O,O,F6.hG,(by rw[o3];show _<16777216;lia),?_⟩;refine⟨.inl ⟨O,_,aC.of ah⟩,G,S,_,_,O,O,ah,(aa aY.sG).trans F6.hS,(by rw[cK,o3,o3];show _+1+_<=16777216;lia),?_⟩;have ani:Dt ws c=aO ws d:=by unfold Dt;rw[hc.is]
   refine⟨rest.length,rY _,done++[c],rest,as++[ans],(aO ws d).1,⟨w1.model,w1.last,w1.at_,mm kk wp.model wp.at_ w1.past ans⟩,dm,dl,pl,qs,_,_,_,_,_,O,by rw[hcs];simp,O,(st6.given F6.hG).given ah,by rw[cK];exact aY.fin,aY.rel,?_,?_,?_⟩
   .rw[gX,iD,aY.is,<-ani];rfl
   .rw[ah,aaZ,zF,o3];show B (HO.Z ((vi (qO as)++[V.int _])++vi ans))=B (HO.Z (vi (qO as)++(V.int _::vi ans)));rw[iD];rfl
   .rw[aaZ,cK,dY,cK,dY,mQ];lia
def anj {K:aM}{h:a9}{mg:ao->Option aj}{x nm qual:ao}{st:hX}{ps:List ao}(X:K.In h)(G:h.Ns jO mg){f:J}{oc:aj}{od an:Option J}{nQ:Array (Option aj)}{kV doc pm a6 ct:aj}
  (hb:∀(kV doc pm:aj)(an:Option J)(a6 ct:aj)(us:List aj),us.length=ps.length->Ej (rj nm qual (uZ st) (tE st) (bb st) .none kV doc pm an a6 ct) ⟨us,[]⟩=pure (ps.zip us))
  (a:Du K jO x=B (B (.ref f))) (l:K.lookup f=B ⟨oc,od,.func (rj nm qual (uZ st) (tE st) (bb st) .none kV doc pm an a6 ct),nQ⟩)
  (c:A5 K a6 qual=L) (k:nO K (.ref f)=L):∃f fd,bG K nm qual st f fd/\Binds K fd ps []/\mg x=B (.ref f)/\nO K (.ref f)=true:=by have F:=SU (st:=st) l c k;exact⟨f,_,F,F.binds hb,qQ X G a,k⟩
def gT {K:aM}{C:J}{m qual:ao}{st:hX}{ps:List ao}{f:J}{oc:aj}{od an:Option J}{nQ:Array (Option aj)}{kV doc pm a6 ct:aj}
  (hb:∀(kV doc pm:aj)(an:Option J)(a6 ct:aj)(us:List aj),us.length=ps.length->Ej (rj m qual (uZ st) (tE st) (bb st) .none kV doc pm an a6 ct) ⟨us,[]⟩=pure (ps.zip us))
  (a:oM K (.ref C) m=B (B (.ref f))) (i:Ee K (.ref f)=L) (l:K.lookup f=B ⟨oc,od,.func (rj m qual (uZ st) (tE st) (bb st) .none kV doc pm an a6 ct),nQ⟩)
  (c:A5 K a6 qual=L) (k:nO K (.ref f)=L):∃f fd,bG K m qual st f fd/\Binds K fd ps []/\Meth K C m f:=by have F:=SU (st:=st) l c k;exact⟨f,_,F,F.binds hb,a,i,k⟩
def aql {K:aM}{h:a9}{mg:ao->Option aj}{x:ao}(X:K.In h)(G:h.Ns jO mg){C:J}(a:Du K jO x=B (B (.ref C)))(pg:AZ K C Str.empty=L)(hd:Ed K C=L)(po:IG K C=L)
  (sa:oM K (.ref C) "__setattr__"=B (B (.builtin "object.__setattr__"))) (mk:A1 K C=L) (kc:nO K (.ref C)=L):mg x=B (.ref C)/\jj K C/\A1 K C=L/\nO K (.ref C)=true:=
 ⟨qQ X G a,⟨pg,hd,po,sa⟩,mk,kc⟩
def ank {K:aM}{h:a9}{mg:ao->Option aj}{x:ao}(X:K.In h)(G:h.Ns jO mg){i:Int}{t:Tok}(a:Du K jO x=B (B (.int i t))):∃t,mg x=B (.int i t):=⟨t,qQ X G a⟩
def anl {K:aM}{h:a9}{mg:ao->Option aj}{x:ao}{xs:List V}(X:K.In h)(G:h.Ns jO mg){a:J}{od:Option J}{aI:Array aj}{n:Nat}{sl:Array (Option aj)}(e:Du K jO x=B (B (.ref a)))(l:K.lookup a=B ⟨.type "tuple",od,.seq aI n,sl⟩)(z:aI.size<=aL)(v:Vals xs aI.toList):∃a,mg x=B (.ref a)/\∀H:Hp,cW K H a xs:=
 ⟨a,qQ X G e,λ_=>.inr ⟨_,aI,n,l,O,O,z,v⟩⟩
def aqm {K:aM}{h:a9}{mg:ao->Option aj}{x:ao}(X:K.In h)(G:h.Ns jO mg)(a:Du K jO x=B N):mg x=none:=aa7 X G a
def du{x nm qual:ao}{st:hX}{k:Nat}{ps:List ao}{sp:Sp}(D:c7 K mg x nm qual st ps)(h:∀{f:J}{fd:jk},bG K nm qual st f fd->b_ k f fd ps sp):c_ x k ps sp:=by obtain⟨f,fd,F,b,m,kp⟩:=D;exact⟨⟨f,fd,h F,b,m,kp⟩⟩
def jJ{C:J}{m qual:ao}{st:hX}{k:Nat}{ps:List ao}{sp:Sp}(c:jj K C)(D:gA K C m qual st ps)(h:∀{f:J}{fd:jk},bG K m qual st f fd->b_ k f fd ps sp):f_ C m k ps sp:=by obtain⟨f,fd,F,b,mt⟩:=D;exact⟨⟨f,fd,h F,b,mt⟩,c⟩
def x8{C:J}{x qual:ao}{st:hX}{k:Nat}{ps:List ao}{sp:Sp}(c:vV K mg x C)(D:gA K C "__init__" qual st ps)(h:∀{f:J}{fd:jk},bG K "__init__" qual st f fd->b_ k f fd ps sp):n_ x C k ps sp:=by obtain⟨f,fd,F,b,mt⟩:=D;exact⟨⟨f,fd,h F,b,⟨c.2.1,mt.at_,mt.fn,c.2.2⟩,c.1⟩⟩
def aoE (T:Txt K mg)(D:TopD K mg)(nE:aa8 K mg br)(Dv:aa9 K mg cZ)(oz:aa' K mg dg)(Hx:aba K mg kF)(de:abb K mg aG)(j0:abc K mg cM)(Am:abd K mg eA){f:J}{fd:jk}(F:bG K "answers" "answers" KU f fd):b_ 11 f fd ["calls"] (Pk K):=by
 have y9:=du D.anQ λF=>ahN F T;have zh:=du D.anR λF=>ahO F T;have zI:=du D.anS λF=>ahP F T;have j8:=du D.anT λF=>ahQ F T y9;have zp:=du D.anU λF=>ahR F T;have L3:=x8 j0.k j0.anJ λF=>aic j0.c F T;have L4:=jJ j0.c.cl j0.anK λF=>aid j0.c F T;have LY:=jJ j0.c.cl j0.anL λF=>aie j0.c F T zh;have LW:=jJ j0.c.cl j0.anM λF=>aif j0.c F T y9;have LX:=jJ j0.c.cl j0.anN λF=>aij j0.c F T;have L5:=jJ j0.c.cl j0.anO λF=>ain j0.c F T LW LX LY;have OH:=du D.anV λF=>aio j0.c F T L3 L4 L5;have OE:=du D.anW λF=>aiu F T j8;have Ml:=du D.anY λF=>aiw F T;have zK:=du D.anZ λF=>aix F T Ml zh j8;have vg:=x8 Am.k Am.anP λF=>aiA Am.c F T;have M5:=du D.an0 λF=>aiB F T j8;have Mx:=du D.an1 λF=>aiE Am.c F T vg zp;have Mw:=du D.an2 λF=>aiH Am.c F T vg zp;have M4:=du D.an3 λF=>aiL Am.c F T Mw Mx j8;have MF:=du D.an4 λF=>aiT F T;have xl:=du D.an5 λF=>aiU F T;have ML:=du D.an6 λF=>aiV F T xl;have MQ:=x8 Dv.k Dv.ano λF=>aiW Dv.c F T;have N':=x8 Hx.k Hx.anu λF=>aiX Hx.c F T;have tZ:=x8 nE.k nE.anm λF=>ai5 nE.c F T MF;have MN:=jJ oz.c.cl oz.anp λF=>ajd oz.c Dv.c nE.c F T xl ML;have Gk:=jJ oz.c.cl oz.anq λF=>aje oz.c Dv.c F T MN j8;have MR:=x8 oz.k oz.anr λF=>ajj oz.c nE.c F T;have MS:=jJ oz.c.cl oz.ant λF=>ajk oz.c nE.c F T MQ Gk j8;have MZ:=du D.an7 λF=>ajm oz.c nE.c F T tZ MR MS;have zH:=jJ de.c.cl de.anv λF=>ajr de.c F T;have OP:=jJ de.c.cl de.anw λF=>ajs de.c F T zH;have OO:=jJ de.c.cl de.anx λF=>ajt de.c F T;have ON:=jJ de.c.cl de.anz λF=>aju de.c F T zI;have OS:=jJ de.c.cl de.anA λF=>ajv de.c F T;have iu:=jJ de.c.cl de.anB λF=>ajA de.c F T MZ;have M7:=jJ de.c.cl de.anC λF=>ajB de.c F T;have oj:=jJ de.c.cl de.anD λF=>ajC de.c F T;have OM:=jJ de.c.cl de.anE λF=>ajF de.c F T oj;have Oy:=du D.an8 λF=>ajI de.c F T iu;have OB:=du D.an9 λF=>ajJ de.c F T iu;have OA:=du D.an' λF=>ajK F T zK M4 M5;have M8:=du D.aoa λF=>ajM F T;have OI:=du D.aob λF=>ajN de.c F T oj iu;have OG:=du D.aoc λF=>ajO de.c F T iu;have OD:=du D.aod λF=>ajP de.c F T oj iu;have Oz:=du D.aoe λF=>ajR de.c F T M7 iu M8;have Na:=du D.aof λF=>ajY F T;have OJ:=du D.aog λF=>aj0 de.c F T zH iu Na;have Pt:=x8 de.k de.anF λF=>akb de.c F T;have Pu:=jJ de.c.cl de.anG λF=>akc de.c F T;have OQ:=jJ de.c.cl de.anH λF=>akd de.c F T;have OT:=jJ de.c.cl de.anI λF=>ake de.c F T;have zU:=du D.aoh λF=>akq F T;have NG:=du D.aoi λF=>akz F T zU;have Ox:=du D.aoj λF=>akE de.c F T iu NG;have lC:=du D.aok λF=>akM F T;have GO:=du D.aol λF=>akN F T;have NS:=du D.aom λF=>akS nE.c F T lC;have Ae:=du D.aon λF=>akU F T;have zZ:=du D.aoo λF=>akV nE.c F T GO NS;have N4:=du D.aop λF=>ak4 nE.c F T lC zZ;have OV:=du D.aoq λF=>ak7 de.c F T oj tZ zU N4;have Oa:=du D.aor λF=>alr nE.c F T lC;have G9:=du D.aos λF=>alu nE.c F T N' lC;have G8:=du D.aot λF=>alx F T;have Ol:=du D.aou λF=>alA nE.c Hx.c F T Oa G8 lC Ae G9;have Oq:=du D.aov λF=>alG F T Ol;have OU:=du D.aow λF=>alH de.c nE.c F T tZ zK Oq Ae zZ;have Px:=du D.aox λF=>alM F T;have OF:=du D.aoy λF=>alN F T Ox Oy Oz OA OB;have Pz:=du D.aoz λF=>alO de.c F T;have Pw:=du D.aoA λF=>alR F T OD OE zI OF OG OH OI OJ;have Py:=du D.aoB λF=>alT F T OM ON OO OP OQ OS OT OU OV;exact am1 F T Pt Pu Pw Px Py Pz
def aoD {P:bx}{w:World}{K:aM}{mg:ao->Option aj}{fa:J}{br:J}{cZ:J}{dg:J}{kF:J}{aG:J}{cM:J}{eA:J}(T:Txt K mg)(D:TopD K mg)(nE:aa8 K mg br)(Dv:aa9 K mg cZ)(oz:aa' K mg dg)(Hx:aba K mg kF)(de:abb K mg aG)(j0:abc K mg cM)(Am:abd K mg eA)(hfa:mg "answers"=B (.ref fa)):∃fd:jk,(∀(s:aF)(us:List aj),us.length=(["calls"]:List ao).length->BindsTo s fd ⟨us,[]⟩ ((["calls"]:List ao).zip us))/\∀ak:a9,bu P w K mg ak bI 11 fa fd ["calls"] (Pk K):=by
 obtain⟨f,fd,F,b,m,kp⟩:=D.aoC;cases m.symm.trans hfa
 have bt:∀(s:aF)(us:List aj),us.length=(["calls"]:List ao).length->BindsTo s fd ⟨us,[]⟩ ((["calls"]:List ao).zip us):=by obtain⟨oc,od,kV,doc,pm,an,a6,ct,nQ,rfl,lk,lK⟩:=F.ex;exact λs us hu=>match us,hu with|[_],_=>.of_eq rfl
 exact⟨fd,bt,λak=>Classical.byContradiction λn=>Classical.epsilon_spec (p:=λz=>¬D_ z) ⟨⟨P,w,K,mg,ak,br,cZ,dg,kF,aG,cM,eA⟩,λh=>n (h T D nE Dv oz Hx de j0 Am _ _ F)⟩ (by with_unfolding_all exact λT D nE Dv oz Hx de j0 Am _ _ F=>aoE T D nE Dv oz Hx de j0 Am F)⟩
end WK
local macro_rules|`(#print $s:str)=>do
 let mut y:=#[]
 let mut n:=0
 for c in s.getString.toList,i in [1:9999] do
  n:=n*57+c.toNat-35
  if i%11=0 then
   y:=y.push (<-`(theorem $(Lean.mkIdent s!"PySem.W.Fast.tw{n}".toName) :True:=⟨⟩))
   n:=0
 return Lean.mkNullNode y
#print "K1(G(;+'/6@LF6A%H%/S;KSN.R30Z(;T6(-.:2?)C:3G?JN'K<V85W@U/6N0OKI$EM<.,@EWTX?TYSGG'A*[6U3>>X=H'BC9SNZ$/&+A)=LKQBU68%P<@6-PW@A@V#U2:.VYCM'3BZ.+WI:.&7[491IQ3<SX>CUFF,>6LE+<K[BD6D'P;5(?14DE[G='-Q2:GK0WFDAHQ%Z1#JU;U1IUTF@:MBH.A7ZOY3C-AC6,Z=I0BW,I>5U:EHP[D8<VF:PD+&JDITHORT=MI3:Z3S)-2$NG+21:<FMT+:,0MQV61.I-&<S4VH66/NM[V9CABQ;UV#+)*FD%&MD1)8DRY<C:I.YY,Q2@@A:@0UZ5M-F8B,2B;/+4+)2F%XLA&8(GM)?OTI;A(CAH8OY3;3ZWX$BM*$,MP$<4&NFC1NL.)EB.B-N*4BH548O8S#,Y<2O?P*0+HVVRO:>-*H52XZJ?[R?U3)%P..UBRO<=7[TPL)G8R2?IAP-T[I.NOG%Y.E(L0>LSIO%H+@*A,5M#4>T'M/O5S$MD6*4()3$4CK?.S>P2L8F,IOCU4)Y(4UBY7*(D9&T4/'EI$K45AQ/.)QTN2Y8,?8PG#XU*E%T;2J@%3%<HJIG0R;&WE9R(<;Z0&?P1DR.F135ZHU5BLO2)(EP7?YH=N:V'6KQS%E?;K@%J2PS2$)3%Z58V)/Y+&,H)+)<P,SFS=@I2@W#%XOQ2QX<B%1/+R=1,G#ISA(SC.PF#2E##07>KD/=KY<PQLQZ+*,NM[5.HI3QI2RRC).U03F'[&V[P6.?9T-)UHS%U4<UGB<%<=+,U.'*T+Y:UG9FLG;/.RFVMQ:FT*#L+6?+30F:3BL5RYNT'D@,HM+QK=,RDF<3IUZG:H,M3NA>0#[;O<I>H>>$L<$)[/.J<F*-#8I[TD?7H@2OEVJJ3L&'-C4I*SLWP$6/)3F$#N'>@9X[(F,CWT9J+8H7VFI:W*V475+7R/:,2Y@JQB[YK'AT54W%XDU:+@4[)ZS<5K?4E0K3VR6B*33-+J8TNI50')L:0DK3:#*<R;ER%A4H3Y3$:)@HM[F.N%*YL&ZX[L+Q?3+Q/LI.'7D/61CG#0Y&V6Q7Q5Z1,[<?.LEY21;9F=Z5,+VCM;BZ8P:GH<5%$81PM6&X#@:;0P;5B58:I$6)*6DVI-TF#?MI[=8V5[Q#8V$-QADA243=O#E)D<VK,OQ74S[G)(5&%F=<8PWA>H93N+@3VW00DN0KI=K/UZX*-P1<M(W;R1X('(;$L[</<>CFP*:Y-$/,S7?53+KRBHIN'Y5.:OR39([F5N.;I$I6OC9+W;VL7I9V0F;J(HE$<617)8$PU?'$+N@&0P-X+).N98?D4+4FRFO6U=T<BLXJ5'8=R4UT6D7HOIAL#B8BFG#ETRBN<:Q)5)YB8526P-=G6H?9,K%;CL59#'6EOIJ5@KQ>BUI;YE9[V#/&GF'U6<4NPB.;@)L9R*CM,L$)0S)>K@E,YX.CV<O,4;AJ-5.=&$S2<AMWT7*7N'I+5371P.@?AA9JGP(1(*I<;)TF:+ESVR+E37A8AH%<7*XHHAP/**:6V+)'3DC,/U&/P-E:X@&*$'D#*T(1<PC;[J>K)X@#F/:1DR@6[R=R?:I9H=)[D>)8<U[=V[>5);(?,Z&2;F:4H2;,JAMX:58K.D2LH@6M5>BU*INM4Y.LP<A*($VQGS@<P;25&?SC>EEEK1C$NW4$Q:):2D+$E#).%<)9@X8V(:5@-Q&(+1SNJP@Q'<P-J-QW--07EJA;@5*C$*[J11G7%)$K?$9'D4*P-IIU5O-AX2SOX%*CLY'XQ$3M>Q)@/LB+;U%FHK1?6BOW&MF;8+OY27MA%H@8%N&WW4[G+DGT+@Y8V)*PZ@/R#*CB&C5#N?$Q;,IQ$?+HP5R.BICSDPA.Z4BS9PW'*T7HYC(,R=TD32ZA03%X.#N)OE2X5'8;UBWLX6?NYG[@;C+8I$3)SE-S@TH4.YR4(K&MQTR66/JVSOA0/92'IALMK@C)*W3813=X</T9G)APT03>&M&U.)1ROYRR%5'IU7.C@#SP@&#'I8+&8.<Y:3A.7:B#7LFDP,8[..=B6VAU@'P=(SBTTB4E8?Q;8U0NCZ1D1Q?T2C10:/CI5YWC%J%J35YFW<&0-#QC($=2//O>>-I4<;YA.*0D'K?M'<;XW/(-/QC>'-,0ZW[A;-K0MHY+LQ.$D173SX$J66>80A76F6,(MQORN.:%>4DVPB2Q:?VE).3WD46ZW9HH'.E/T#8ONKC[B5K:-'#)45E*<GG2ZC<JZ1NPSG23X#LW(H@+54$(T[>MNW<0?C1Q/M%:W[B74TT//8#&GT*&,)3K$NQ<?;.G%6E;5.<'4)8MCMXL[B97B)/8D##,J#/2,#GQA)Q<NHOXC*8[CCKCPTX<QDT=&=,>?&.0)%&HEQT<4J/GF%#C<R2%<U0F:+C+D'BA1)N&5=<S8E4/)NI%OQ5E1#'XM*$)LW$PU+23,+.%7.K1Z(TVQ:(0T&83P[)/R2>>(O1P?YP?CBPNBFDA6S-ESN5PRZDYK(+&ZQK@*<OK&ND(WKKR=EO.5T(?JBXYNB@BID&[L3@)V$M[DPR$UJ*QT.X9NZICDX>A'(/$<&=D3P18K4+H=6(+CI-&*9-O65SR'-C/#;UA94A2.H#W(NPY,(O9EAU>US4#:3BS6(=TQ;8L-AP++*.)R-Y7F%5S0Y=3$[9(U)Q#.X/X'&+>))6E43#FYRC92N4>FCV?@Q#6)XY?M$B0T@/D4+[U=%CV1Q#4T:*))%59YMN<LFV@E$7'J[J.$BJ0@-1)ZNP64INBV=;6=J4UR3PFF/KL?TU$4QP7WOVHR%Q11PP3*?&'HH216'LFCE2GAD)QDD*$7V:UTN0S'R@?EULL?NO3D.+1R04LC)A,[L3&O+J2[I6/,<*;8QO7X(GJ&6W#6CF;)X&REXQ8'&CGUF8>4F53>*J#='D0;F<H&B>S0>AA#I*+LN68NV6#W':JF9(=2:@B*?$ERNH*7-J4BQ='QP@*(''BDYZ,.2J<YBO.A%@NQFC[LNIVR;JT*.M4R7X[,7JPYH7Z*+D=?J'XO-XV[>*5#:7F$'Q&ST8>E4Y?+G9V&$3TH[9%P<EUYQPE*.I[F<**.U3W'SQXR.0K5JEIFW=5F=O(2VNBKZ%SI@:9F0RP+LMEO-?PHA140+JM#*W9O8<Y>:04UR,U4(83MBAC3Y5O4R>/Y5+69(I)@D2KSEGTA,/SA('8D1ZAFHE'(;QF<ZEF&C<-A&VNH-//+5-/.A+#KVCTJGE6,;?H:=.3R7',FX#-%A)GZ>W('L*SHSP>:#H+O4<[.=LEK[3+OY?HA5FZP-OEB#(.1QK(PQ9[7-+VC-7X&GV-:K5=9VB6,$15Z&A%5K)1):IE;#.22KX<$#,JR8V.5N0H1,A?&UGEBY1D//C$U$;/,.(IKF<AC'&-+2:6?7ET231%-0$3,<$XEK594#)O$5Z/O6G<S&8(%01,[VV(;Q%K(WXX/MT8Z&M$R@UBJ%%DMTS-.P-*#0Q*)QY65R(5(,:KWA)H394->29DY1<W4@3<[MSVPXG4BB7WF/B=4;$0JKA9J2@#L<1@'1+K2/:&FEQ>U9WZ)/AK%D-0HY6P[NY;EB>(?8?>U29AG.G556U$NZG'=PNL6@$YTL):7)R&7BR4TVZD1JLLZW6BPFFUG29W*(*1UPT%>K*S?79[I*7&RKBJ(XV#0/EHYSQ&@XW45?%M3=2%'(3(BOL6-(44?+#2ZRN70&D77)0MME@(:?.P++D:AF4-06VBPVDD9$>ZG/%<:-#G$,J.-)R>:DS@34RA=QNO@)+8B,(%O[FX81UV3RFR[12B4;Y3TM=#LKV96E1I4H7X[Z.'OTB<*[4MBG>MLYB:C9U#(H+D@#XI+A?;<$1?@=SX9BU)YS6,M+C(.OB0QH=U@28IU754C?P3&88DV+LCP/B6BP/QQYYJ@AF1)%7$89OA&VV?QP@?+W<45%MFSM#YYZEUMX4YT*8I.'RP'H.GA6-R7Y>6:KLK.I6-O221)5EPO:*R(';#.N#CNQT:PAO;8.GIF'N#7X></@);;.6>+653*/5L+N,1L8*78ICF4M&-EFTGQ4@OL'$QD193R*YAVL3UTWZ6%A0*XU.EY-YU#8GH-6Q%,)$4N;Z=K8LOZQM5,Z+)'V4YH5K)WY?H-K?'MFD$$HC'KW<D4ICHKS@LCW94:,QT;64G2N29OEPDJABA@G9+H<M&SWC'DFL&DZW0NU[E,IODN5LLE@D?27;7</1WI'.3@DVEB(UK'&?$?UTZDFAL4=:1O7*V[GE%50NH3N9&6=@S1>D8NA)*)Q;'9#VR&G6)?'OX1A#/GI2JP=KXO:RV:%@6,>:F9RTLQ1QYVH,U4Z(@S'1TM7NVSF,[68ZD/=''W+(??>J?DM8Z$3W'>8()=Y,*B(SBH&(A&0FY(Q)3*J9@5OU/:KUD;;8PQ70.68XQ;<(PPNI'9E?5$A5#@IPV=)LGU1C2M%)1R4&+@I1%Y#XE7Z&M4AXKF,TIM+J?ZQK/0B329OYX29M=ZF09&WNNYPW7)81EJXTZF#X;GR&J8$GC--/K0+9QA4CNP&UMC2B2-UY<M'[BQ,>VU,&@K;,J&HM5RO3QNO3KJQ.8<[.()1HWZ26G6BEN'RU)GJV&V5&Z67AZU=2+Q26Z-2?Y*<C54Y9IRN8+DFFRPOBL8K8,-JHM&[SY?P/A'6GA?@1?*1WJ(@&9:G)KS=S&[X*LK%(99L)@C**:&H9E%5Q.-W[J=@=+Q$/[5L$<Q(D.><5EVCN%.[/7JWBFWEG*RFJX=V8VR7>CENF1?)AO$[Q?IM+)V(4,&$KXY.W&8H6J4KYWD>6PLJX4H=$E[(,LG2)T[.4(JR1/9<DY0[A=#,.NFM?&A[K@9C@DCJ?X>9O):Q=S7A9W39(13SCE[L5BS$/[#NC)@DM96WVZE7)XU.-:N>QN8@W[633[LYJ3TR#V-/X5FM*6F1)E(FT8S'),PS?9RP+@-JAP15J4DOR0I%J'5X>V2K5#&;,N2NPGJD(3QOLZIN0E+8*(N)%ZDOGE#7X=90F)+?01SRRM1,),,>4=.6K:N4X9B3B0FYO4&M/5ATG&?*8LF(F+*(%%I<LH'F2-[L2PY+./RF(RONCM60)9BXC@>0#B?(E':K:M#&$R0(MZ0X(@H1B;7JU&ICZ8J#3#7@9(%'@$(5KAP@#)D091)Q1++C27UT'-4CSW%.0YZ$)Q5B.HC<<IK&4=67NE=4PY=25R&F<ZNI-(EUP4>BRX@R2I=9OB@);T3&R;*VL:?G?@-.FBLJ[&2X2-;V?JZ+V$*[<X?3;%70/[F5CWJ05V>MDC%J7[*T:+IHQ9M2$[U@5P0R$5-:TI9I3WAQF3J-Y(?700T&)$S[4/(0UUK6ZOA4W>VLAW[60ER4X'?H?UP+B97&*:S7U57V):*VOI,>L8+<5R>6KF1#ZN8N0#4UGM1GALW+ETHJBPC@$+(S5?RHDV>1-P*PQ&FRF@O4,YJH(3DKO97.77KP2M*O.=C+$EN2K[#M;ARUCAU=;C9JHP(H5LQ).+BK4CL>($M?6@NL(ACVRETK3C@EOM*1@VWX[[9O?3E6N24RFOK)OFSV[PU3LT0M&<TU6MF*FAYU'WNQ;G1E9:%W4VD?KGQ-/CO4;%XQ5ASO+I?10F5VP([V28T7VL*@;TT+UJH0=*RN+S??5M**2Q=TGXV=*9[RJ#=Q</H)+9&E)70G9L?:Z[?QY/USW*?7<IZ+TO/*%)VRA-G(Z%P:$F'ETYZ/I.SCM7OEMU'.ZJ250G@/9P5J%T--RWM:%A5Z7V<EL?UC:GY-O0K?R)MD:M.>3O((682B2<Y)U3EY?L;V%P:TM@L[4>T04@L.XEVV11?CGFXS#[BMMY4)I==[P.SW-*0BC@'A4F$E6P>VK),P[;(S-JU)G<7O=,@2IN*9OAEA<*0K)BD%#U-SFCHHEH##1C$@9FM-'+9</,OUL<L@XIV-F%VL1Y;YJB,F:WR0MQAHOCI8-U:Q[7KEYF&;E)(O)26FK0<P/4U+J:3*+FFETD7F@D8VQRYCX4ACA1)[MVO+2O;>B6>NBZFY81R09M0YY%.&G1JRO3MM7&0K@W7J;XZ=;%'YMKV0WZ3LY&AX>D7H#TA4.B6?98-((VR03&G(;#63'Z%4G@V3(77F*'$@H$'/[@6089?*97<EXNX59N4Z.IW'(K$N(6T&?QEDT'I&&84.2G.EJ+QR7&8:U(M3XJ@A;R/RO?SZS6<0FX;<($DA8(;QJ,T@1XI2#>%X3T8$34BQ67VU79L4?W091JMP+/>;0X:QB[0&5NN?2;P84>6CS7N-.J3LIS+>01T6M=)S=(X40?8:@ME1'FS'O(A)A:OJ*>UV+YXT'+C4D3S3$ML1;QB$=J3CJV@OYJ795,.<(1TK.42D-;&SD4YV=[61:/Q,,UF7G/9PS2.0E7RH)+F*M#RID&<N:30F148G0E[&:FLK<ZE-=;3[7%8XA/LQN(>C2-<1$$7D:;'-<.Y:725)(UU@S9NH9>'(N+TQD>W7M3I.J[(OW(DG>8JPDM*5*@367GA/U5+VG/:.+;'7-2;-$2C&P$BPCY9C+1L$J?MTOZ(,IUDQ.+1EH?:F9%GZ+MK.21$%4LGJO8%298WUY)P?<%F)C<K01-6YN;/*OX&K:JU.G/9C$.<KM-AH,:42MR**8C0+9):L'DE&7?5R51YDDWKH:-1L#6,*/Q[O.W-BX:XYZ;4<VLJ4B,LA'Y55QV-+2FVS(<O0(-BOUOVF)6&E*VG5-C$6W<;Y3IOL:&0HQPI2%%6PN9E:PJJ37F9L(+8.E8A+N:)<U?K=M<JIB9%QY71+WE:.*(%/HIZ)2<F?.06==F*+[8[$2,W//%D7Z#$13'UZ/GG3M#?Y+OC2L0S.#G(TZUDB:7Y$L#[)PPN&22$T?/B->1F/&%D4T%2$X5?[#TSU8>FXT8G$/1BE+T1AE,%&$&;+(<?C7#&.9#X9;R[I#$4*EM2PG4Y##:JQ:$PX,P"
open PySem PySem.W PyProof.Rows L2 WK
local macro_rules | `(tactic|left)=>`(tactic|(intro _ _ _ _ _ _ us hl;rcases us with _|⟨_,_|⟨_,_|⟨_,_|⟨_,_|_⟩⟩⟩⟩<;>first|(simp at hl;done)|rfl))
local macro_rules | `(tactic|and_intros)=>`(tactic|((all_goals try(try unfold e8);k_is);all_goals try(try unfold e8);k_is))
set_option maxHeartbeats 0 in
theorem PySem.Challenge.cw_whoknows_s01_answers_holds : PySem.Challenge.rw_whoknows_s01_answers.Holds := by
 w_on;have:7=7:=by decide+kernel
 have:=w_S;k_headS;(case hw=>exact⟨[.list [.int 13]],by decide+kernel,by decide+kernel⟩);k_fillS;refine afI (r:=abe) (k:=11) (CX:=bI) (ps:=["calls"]) (sp:=Pk) w_S O O ⟨O,by decide,by decide⟩ (λw h b6=>PySem.W.kIn_of b6) ?F ?S (λ_ _ _ _ z=>z)
 case F=>
  intro w mg fa h b6 KX G JT
  obtain⟨_,br⟩:∃C,aa8 (j7 KX) mg C:=by dsimp only[j7];refine'⟨_,⟨⟨_,_,_,_⟩,_,_,_,_,_,_⟩,⟨qQ KX G _,_,_⟩,gT (by left) _ _ _ _ _⟩;and_intros
  obtain⟨_,cZ⟩:∃C,aa9 (j7 KX) mg C:=by dsimp only[j7];refine'⟨_,⟨⟨_,_,_,_⟩,_,_,_⟩,⟨qQ KX G _,_,_⟩,gT (by left) _ _ _ _ _⟩;and_intros
  obtain⟨_,dg⟩:∃C,aa' (j7 KX) mg C:=by dsimp only[j7];refine'⟨_,⟨⟨_,_,_,_⟩,_,_,_,_⟩,⟨qQ KX G _,_,_⟩,gT (by left) _ _ _ _ _,gT (by left) _ _ _ _ _,gT (by left) _ _ _ _ _,gT (by left) _ _ _ _ _⟩;and_intros
  obtain⟨_,kF⟩:∃C,aba (j7 KX) mg C:=by dsimp only[j7];refine'⟨_,⟨⟨_,_,_,_⟩,_,_⟩,⟨qQ KX G _,_,_⟩,gT (by left) _ _ _ _ _⟩;and_intros
  obtain⟨_,aG⟩:∃C,abb (j7 KX) mg C:=by dsimp only[j7];refine'⟨_,⟨⟨_,_,_,_⟩,_,_,_,_,_⟩,⟨qQ KX G _,_,_⟩,gT (by left) _ _ _ _ _,gT (by left) _ _ _ _ _,gT (by left) _ _ _ _ _,gT (by left) _ _ _ _ _,gT (by left) _ _ _ _ _,gT (by left) _ _ _ _ _,gT (by left) _ _ _ _ _,gT (by left) _ _ _ _ _,gT (by left) _ _ _ _ _,gT (by left) _ _ _ _ _,gT (by left) _ _ _ _ _,gT (by left) _ _ _ _ _,gT (by left) _ _ _ _ _⟩;and_intros
  obtain⟨_,cM⟩:∃C,abc (j7 KX) mg C:=by dsimp only[j7];refine'⟨_,⟨⟨_,_,_,_⟩,_,_,_⟩,⟨qQ KX G _,_,_⟩,gT (by left) _ _ _ _ _,gT (by left) _ _ _ _ _,gT (by left) _ _ _ _ _,gT (by left) _ _ _ _ _,gT (by left) _ _ _ _ _,gT (by left) _ _ _ _ _⟩;and_intros
  obtain⟨_,eA⟩:∃C,abd (j7 KX) mg C:=by dsimp only[j7];refine'⟨_,⟨⟨_,_,_,_⟩,_,_,_⟩,⟨qQ KX G _,_,_⟩,gT (by left) _ _ _ _ _⟩;and_intros
  have T:Txt (j7 KX) mg:=by dsimp only[j7];constructor<;>first|(refine' ank KX G _;and_intros;done)|(refine' aa7 KX G _;and_intros;done)|(refine' anl KX G _ _ ?zN ?vN;and_intros;(case zN=>decide);(case vN=>exact .cons ⟨_,rfl⟩ (.cons ⟨_,rfl⟩ (.cons ⟨_,rfl⟩ (.cons ⟨_,rfl⟩ (.cons ⟨_,rfl⟩ (.cons ⟨_,rfl⟩ (.cons ⟨_,rfl⟩ (.cons ⟨_,rfl⟩ (.cons ⟨_,rfl⟩ (.cons ⟨_,rfl⟩ (.cons ⟨_,rfl⟩ (.cons ⟨_,rfl⟩ (.cons ⟨_,rfl⟩ (.cons ⟨_,rfl⟩ (.cons ⟨_,rfl⟩ (.cons ⟨_,rfl⟩ (.cons ⟨_,rfl⟩ (.cons ⟨_,rfl⟩ .nil)))))))))))))))))))
  have D:TopD (j7 KX) mg:=by dsimp only[j7];constructor<;>(refine' anj KX G (by left) _ _ _ _;and_intros)
  obtain⟨fd,hb,hf⟩:=aoD (P:=abe.prog) (w:=w) T D br cZ dg kF aG cM eA JT;exact⟨fd,hb,λak _ _=>hf ak⟩
 case S=>
  intro K H xs a hO E5 PB hx;cases hx with
  |cons h1 h2=>
   cases h2
   cases h1 with
   |Z hs ha=>have e:=SX a.1 _ ha;subst e;have q:((Codec.inLen 0 30000 a.1&&a.1.all (Codec.inInt (-1000000000) 1000000000))&&L)=true:=E5;rw[fQ,fQ]at q;exact⟨_,a.1,O,hs,(Codec.inNat_iff.mp q.1.1).2,PB,λH' p hp=>.Z (aC.of hp) (SV _)⟩
